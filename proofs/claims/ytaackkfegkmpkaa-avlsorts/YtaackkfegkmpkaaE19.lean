/- gromalaw05 over the loaded program: a set and its list side by side; step. -/
import Derived.Test.YtaackkfegkmpkaaE18
namespace Go.Proofs.Ytaackkfegkmpkaa
open Go.RowKit Go.Shelf
attribute [local go_sem] Gr.size Gr.cell? Gr.frozen? Gr.setCell Gr.drew Gr.drewN Gr.of_drew Gr.of_drewN Gr.gr Gr.lt_of1 Gr.le_of1 Gr.lt_of2 Gr.le_of2 Gr.lt_of3 Gr.le_of3 Gr.lt_of4 Gr.le_of4 Gr.lt_of5 Gr.le_of5 Gr.lt_of6 Gr.le_of6 Gr.lt_of7 Gr.le_of7 Gr.lt_of8 Gr.le_of8 Gr.lt_of9 Gr.le_of9 Gr.lt_of10 Gr.le_of10 Gr.lt_of11 Gr.le_of11 Gr.lt_of12 Gr.le_of12 Gr.lt_of13 Gr.le_of13 Gr.lt_of14 Gr.le_of14 Gr.lt_of15 Gr.le_of15 Gr.lt_of16 Gr.le_of16 Gr.lt_of17 Gr.le_of17 Gr.lt_of18 Gr.le_of18 Gr.lt_of19 Gr.le_of19 Gr.lt_of20 Gr.le_of20 Gr.lt_of21 Gr.le_of21 Gr.lt_of22 Gr.le_of22 Gr.lt_of23 Gr.le_of23 Gr.lt_of24 Gr.le_of24
theorem pu_true (n : Int) : ∀ l, pu n l true = l
  | [] => rfl
  | x :: l => by simp [pu, pu_true n l]
theorem pu_ahead {n : Int} {B : List Int} : ∀ {A : List Int}, (∀ x ∈ A, tq x < tq n) → pu n (A ++ B) false = A ++ pu n B false
  | [], _ => rfl
  | x :: A, h => by
    have h1 := h x (by simp)
    have h2 := @pu_ahead n B A (fun y hy => h y (by simp [hy]))
    simp only [List.cons_append]
    rw [pu, if_neg (by omega), h2]
theorem pu_behind {n : Int} : ∀ {B : List Int}, (∀ x ∈ B, tq n < tq x) → pu n B false = n :: B
  | [], _ => rfl
  | x :: B, h => by
    have h1 := h x (by simp)
    rw [pu, if_pos h1, pu_true]
theorem pu_ins {T : AT} {n : Int} {nb : Nat} (hr : Rise tq T.inl) (h : has tq n T = false) : pu n T.vals false = (ins tq nb n T).vals := by
  obtain ⟨A, B, q1, q2, q3, q4⟩ := ins_spec (nb := nb) hr h
  unfold AT.vals
  rw [q1, q2]
  simp only [List.map_append, List.map_cons]
  rw [pu_ahead (fun x hx => by obtain ⟨y, hy, rfl⟩ := List.mem_map.1 hx; exact q3 y hy), pu_behind (fun x hx => by obtain ⟨y, hy, rfl⟩ := List.mem_map.1 hx; exact q4 y hy)]
theorem wo_behind {a : Int} : ∀ {l : List Int} {i : Nat}, a < i → wo a l i = l
  | [], _, _ => rfl
  | x :: l, i, h => by rw [wo, if_neg (by omega), wo_behind (by omega)]
theorem wo_at {y : Int} {B : List Int} : ∀ {A : List Int} {i : Nat}, wo ((i + A.length : Nat) : Int) (A ++ y :: B) i = A ++ B
  | [], i => by simp only [List.length_nil, List.nil_append]; rw [wo, if_pos (by omega), wo_behind (by omega)]
  | x :: A, i => by
    simp only [List.cons_append, List.length_cons]
    rw [wo, if_neg (by omega), show i + (A.length + 1) = (i + 1) + A.length by omega, wo_at]
theorem find_has {T : AT} {n i : Int} (hr : Rise tq T.inl) (h : FindR T.vals n i) : (has tq n T = true ∧ 0 ≤ i ∧ wo i T.vals 0 = (del tq n T).vals) ∨ (has tq n T = false ∧ i = -1) := by
  rcases h with ⟨rfl, h⟩ | ⟨k, rfl, hk, h⟩
  · refine Or.inr ⟨?_, rfl⟩
    cases hh : has tq n T with
    | false => rfl
    | true =>
      obtain ⟨x, hx, e⟩ := (has_iff hr).1 hh
      exact absurd e (h x.2 (List.mem_map.2 ⟨x, hx, rfl⟩))
  · have hg : T.vals.getD k 0 = T.vals[k] := by simp [List.getD, hk]
    rw [hg] at h
    have hh : has tq n T = true := by
      obtain ⟨x, hx, e⟩ := List.mem_map.1 (List.getElem_mem hk)
      exact (has_iff hr).2 ⟨x, hx, by rw [e]; exact h⟩
    refine Or.inl ⟨hh, by omega, ?_⟩
    obtain ⟨A, y, B, q1, q2, q3⟩ := del_spec hh
    have ev : T.vals = A.map (·.2) ++ y.2 :: B.map (·.2) := by unfold AT.vals; rw [q1]; simp
    have ed : (del tq n T).vals = A.map (·.2) ++ B.map (·.2) := by unfold AT.vals; rw [q3]; simp
    have hA : (A.map (·.2)).length < T.vals.length := by rw [ev]; simp
    have hy : T.vals[(A.map (·.2)).length] = y.2 := by simp [ev]
    have hR := List.pairwise_iff_getElem.1 (rise_vals hr)
    have ek : k = (A.map (·.2)).length := by
      rcases Nat.lt_trichotomy k (A.map (·.2)).length with h1 | h1 | h1
      · have := hR k _ hk hA h1; rw [h, hy, q2] at this; omega
      · exact h1
      · have := hR _ k hA hk h1; rw [h, hy, q2] at this; omega
    rw [ed, ek, ev]
    have := @wo_at y.2 (B.map (·.2)) (A.map (·.2)) 0
    rw [Nat.zero_add] at this
    exact this
/-- The set at t and the list v hold the same. -/
structure Both (w : World) (base t : Nat) (v : Value) (T : AT) : Prop where
  st : St tq w t 9 T
  lst : Lst w base v T.vals
  apart : ∀ g, v.ownBlock = some g → g ≠ t ∧ g ∉ T.ids
  low : base ≤ t ∧ ∀ b ∈ T.ids, base ≤ b
theorem Both.wr {w w' : World} {base t : Nat} {v : Value} {T : AT} (h : Both w base t v T) (hg : Wr [] w w') : Both w' base t v T :=
  ⟨h.st.wr hg (by simp), h.lst.wr hg (by simp), h.apart, h.low⟩
theorem Both.gr {w w' : World} {base t : Nat} {v : Value} {T : AT} (h : Both w base t v T) (hg : IsGr w w') : Both w' base t v T := h.wr (Wr.of_gr hg)
theorem vals_64 {T : AT} (h : Int64s T) : ∀ x ∈ T.vals, I64 x := fun x hx => by obtain ⟨y, hy, rfl⟩ := List.mem_map.1 hx; exact h y hy
theorem vals_len (T : AT) : T.vals.length = T.inl.length := by simp [AT.vals]
theorem Wr.below' {S : List Nat} {w w' : World} {n : Nat} (h : Wr S w w') (hn : n ≤ w.heap.size) (hS : ∀ b ∈ S, n ≤ b) : Below n w w' := h.below hn hS
/-- What a step leaves. -/
def StepR (w : World) (base t : Nat) (T : AT) (e : Ending) (w' : World) : Prop :=
  ∃ T' v', e = .returned (.tuple #[v', .bool true]) ∧ Both w' base t v' T' ∧ Below base w w' ∧ T'.inl.length ≤ T.inl.length + 1 ∧ Wr (t :: T.ids) w w'
theorem step_same {w w' : World} {base t : Nat} {v : Value} {T : AT} (h : Both w base t v T) (hb : base ≤ w.heap.size) (hg : IsGr w w') : StepR w base t T (.returned (.tuple #[v, .bool true])) w' :=
  ⟨T, v, rfl, h.gr hg, hg.below.mono hb, by omega, Wr.of_gr hg⟩
theorem step_put {w w1 w2 w3 : World} {base t nb : Nat} {v v' : Value} {T : AT} {n : Int} (h : Both w base t v T) (hb : base ≤ w.heap.size) (hg : IsGr w w1) (hh : has tq n T = false) (hl : Lst w2 w1.heap.size v' (pu n T.vals false)) (h12 : Below w1.heap.size w1 w2)
    (hs : St tq w3 t 9 (ins tq nb n T)) (h23 : Wr (t :: T.ids) w2 w3) (hnb : w2.heap.size ≤ nb) : StepR w base t T (.returned (.tuple #[v', .bool true])) w3 := by
  have hB : Below base w w3 := (hg.below.mono hb).trans ((h12.mono (Nat.le_trans hb hg.size)).trans (h23.below (Nat.le_trans (Nat.le_trans hb hg.size) h12.size) (fun b hm => by
    rcases List.mem_cons.1 hm with rfl | hm
    · exact h.low.1
    · exact h.low.2 b hm)))
  have ht : t < w1.heap.size := Nat.lt_of_lt_of_le h.st.hd.lt hg.size
  have hT : ∀ b ∈ T.ids, b < w1.heap.size := fun b hm => Nat.lt_of_lt_of_le (h.st.tree.lt b hm) hg.size
  have hown := own_block hl
  rw [pu_ins (nb := nb) h.st.rise hh] at hl
  have hp := ins_ids (nb := nb) hh
  refine ⟨_, v', rfl, ⟨hs, (hl.wr h23 (fun g hgb hm => ?_)).mono (Nat.le_trans hb hg.size), fun g hgb => ?_, h.low.1, fun b hm => ?_⟩, hB, ?_, ((Wr.of_gr (S := t :: T.ids) hg).trans (Wr.of_below h12) (by simp)).trans h23 (fun b hb _ => hb)⟩
  · have := hown g hgb
    rcases List.mem_cons.1 hm with rfl | hm
    · omega
    · have := hT g hm; omega
  · have := hown g hgb
    refine ⟨by omega, fun hm => ?_⟩
    rcases List.mem_cons.1 (hp.subset hm) with rfl | hm
    · omega
    · have := hT g hm; omega
  · rcases List.mem_cons.1 (hp.subset hm) with rfl | hm
    · have := hg.size; have := h12.size; omega
    · exact h.low.2 b hm
  · have := (ins_perm (nb := nb) hh).length_eq; simp at this; omega
theorem step_del {w w1 w2 w3 : World} {base t : Nat} {v v' : Value} {T : AT} {n i : Int} (h : Both w base t v T) (hb : base ≤ w.heap.size) (hg : IsGr w w1) (hh : has tq n T = true) (hw : wo i T.vals 0 = (del tq n T).vals) (hl : Lst w2 w1.heap.size v' (wo i T.vals 0)) (h12 : Below w1.heap.size w1 w2)
    (hs : St tq w3 t 9 (del tq n T)) (h23 : Wr (t :: T.ids) w2 w3) : StepR w base t T (.returned (.tuple #[v', .bool true])) w3 := by
  have hB : Below base w w3 := (hg.below.mono hb).trans ((h12.mono (Nat.le_trans hb hg.size)).trans (h23.below (Nat.le_trans (Nat.le_trans hb hg.size) h12.size) (fun b hm => by
    rcases List.mem_cons.1 hm with rfl | hm
    · exact h.low.1
    · exact h.low.2 b hm)))
  have ht : t < w1.heap.size := Nat.lt_of_lt_of_le h.st.hd.lt hg.size
  have hT : ∀ b ∈ T.ids, b < w1.heap.size := fun b hm => Nat.lt_of_lt_of_le (h.st.tree.lt b hm) hg.size
  have hown := own_block hl
  rw [hw] at hl
  have hp := del_sub hh
  refine ⟨_, v', rfl, ⟨hs, (hl.wr h23 (fun g hgb hm => ?_)).mono (Nat.le_trans hb hg.size), fun g hgb => ?_, h.low.1, fun b hm => h.low.2 b (hp.subset hm)⟩, hB, ?_, ((Wr.of_gr (S := t :: T.ids) hg).trans (Wr.of_below h12) (by simp)).trans h23 (fun b hb _ => hb)⟩
  · have := hown g hgb
    rcases List.mem_cons.1 hm with rfl | hm
    · omega
    · have := hT g hm; omega
  · have := hown g hgb
    exact ⟨by omega, fun hm => by have := hT g (hp.subset hm); omega⟩
  · obtain ⟨A, y, B, q1, _, q3⟩ := del_spec hh
    rw [q1, q3]; simp; omega
end Go.Proofs.Ytaackkfegkmpkaa
