/- Contracts of package heap over the loaded program: Drain. -/
import Derived.Test.YtdffpgfmodccgaaF7
import Derived.Test.YtdffpgfmodccgaaS5
import Derived.LoopIn
import Derived.Shelf.RegionOpen
namespace Go.Proofs.Ytdffpgfmodccgaa
open Go.RowKit Go.Shelf
attribute [local go_sem] Oper.semAt_some
/-- pre came out of the things L, in order; L' is left. -/
def PopR (k : Int → Int) (L pre L' : List Int) : Prop := (pre ++ L').Perm L ∧ pre.Pairwise (fun a b => k a ≤ k b) ∧ ∀ a ∈ pre, ∀ b ∈ L', k a ≤ k b
theorem PopR.start (k : Int → Int) (L : List Int) : PopR k L [] L := ⟨List.Perm.refl _, List.Pairwise.nil, by simp⟩
theorem PopR.step {k : Int → Int} {L pre L' L2 : List Int} (h : PopR k L pre L') (hk : Hp k L') (hp : L'.Perm (L'.getD 0 0 :: L2)) : PopR k L (pre ++ [L'.getD 0 0]) L2 := by
  obtain ⟨h1, h2, h3⟩ := h
  have hx : L'.getD 0 0 ∈ L' := hp.symm.subset (by simp)
  refine ⟨?_, ?_, fun a ha b hb => ?_⟩
  · rw [List.append_assoc]
    exact (hp.symm.append_left pre).trans h1
  · rw [List.pairwise_append]
    exact ⟨h2, List.pairwise_singleton _ _, fun a ha b hb => by
      have e : b = L'.getD 0 0 := by simpa using hb
      rw [e]; exact h3 a ha _ hx⟩
  · have hb' : b ∈ L' := hp.symm.subset (List.mem_cons_of_mem _ hb)
    rcases List.mem_append.1 ha with h4 | h4
    · exact h3 a h4 b hb'
    · have e : a = L'.getD 0 0 := by simpa using h4
      rw [e]; exact hk.first b hb'
/-- The list that rises, of the same things: what came is its beginning. -/
theorem PopR.list {L : List Int} : ∀ {pre L' l : List Int}, PopR id L pre L' → L.Perm l → Rises l → pre = l.take pre.length ∧ L'.Perm (l.drop pre.length)
  | [], L', l, h, hl, _ => by
    have h1 : ([] ++ L').Perm L := h.1
    exact ⟨by simp, by simpa using h1.trans hl⟩
  | a :: pre, L', l, ⟨h1, h2, h3⟩, hl, hr => by
    have hp : (a :: (pre ++ L')).Perm l := by simpa using h1.trans hl
    cases l with
    | nil => exact absurd hp.length_eq (by simp)
    | cons x l =>
      have hxl : ∀ y ∈ l, x ≤ y := (List.pairwise_cons.1 hr).1
      have hax : x ≤ a := by
        rcases List.mem_cons.1 (hp.subset (List.mem_cons_self)) with e | e
        · omega
        · exact hxl a e
      have hxa : a ≤ x := by
        rcases List.mem_cons.1 (hp.symm.subset (List.mem_cons_self)) with e | e
        · omega
        · rcases List.mem_append.1 e with e | e
          · exact (List.pairwise_cons.1 h2).1 x e
          · exact h3 a (List.mem_cons_self) x e
      have e : a = x := by omega
      subst e
      have := PopR.list (L := pre ++ L') (pre := pre) (L' := L') (l := l) ⟨List.Perm.refl _, (List.pairwise_cons.1 h2).2, fun b hb c hc => h3 b (List.mem_cons_of_mem _ hb) c hc⟩ hp.cons_inv (List.pairwise_cons.1 hr).2
      obtain ⟨q1, q2⟩ := this
      exact ⟨by rw [List.length_cons, List.take_succ_cons, ← q1], by simpa using q2⟩
/-- These blocks are as they were. -/
def KpZ (Z : List Nat) (A B : World) : Prop := A.heap.size ≤ B.heap.size ∧ ∀ b ∈ Z, B.heap[b]? = A.heap[b]?
theorem KpZ.trans {Z : List Nat} {A B C : World} (h : KpZ Z A B) (k : KpZ Z B C) : KpZ Z A C := ⟨Nat.le_trans h.1 k.1, fun b hb => (k.2 b hb).trans (h.2 b hb)⟩
theorem KpZ.putObj {Z : List Nat} {N : Nat} (hZ : ∀ b ∈ Z, b < N) (W : World) (l : Nat) (o : Obj) (hl : N ≤ l) : KpZ Z W (W.putObj l o) :=
  ⟨by simp, fun b hb => World.putObj_heap_other (by have := hZ b hb; omega)⟩
theorem KpZ.of_wr {Z S : List Nat} {A B : World} (h : Wr S A B) (hS : ∀ b ∈ S, b ∉ Z) (hZ : ∀ b ∈ Z, b < A.heap.size) : KpZ Z A B :=
  ⟨h.size, fun b hb => h.block b (hZ b hb) (fun hm => hS b hm hb)⟩
theorem Hs.kp {w w' : World} {base t f : Nat} {v : Value} {L : List Int} (h : Hs w base t f v L) (hb : ∀ b ∈ hbs t v, w'.heap[b]? = w.heap[b]?) : Hs w' base t f v L := by
  refine ⟨?_, ?_, h.apart, h.ints⟩
  · have := h.hb
    unfold Hb at *
    rw [hb t (by simp [hbs])]; exact this
  · obtain ⟨h1, h2⟩ := h.lst
    refine ⟨h1, ?_⟩
    rcases h2 with h2 | ⟨g, cap, cur, rfl, h3, h4, h5⟩
    · exact Or.inl h2
    · refine Or.inr ⟨g, cap, cur, rfl, h3, ?_, h5⟩
      rw [hb g (mem_hbs.2 (Or.inr rfl))]; exact h4
theorem Hs.grown {w w' : World} {base t f : Nat} {v : Value} {L : List Int} {row : Option Nat} (h : Hs w base t f v L) (hg : w.grownBy w' row) (hr : ∀ r, row = some r → r ∉ hbs t v) : Hs w' base t f v L :=
  h.kp (fun b hb => hg.block b (h.lt b hb) (fun e => hr b e.symm hb))
/-- Where Drain stands: xs came, the rest is there. -/
def DrS (k : Int → Int) (base t f : Nat) (L : List Int) (Z : List Nat) (xs : List I64x) (W : World) : Prop :=
  ∃ v L', Hs W base t f v L' ∧ Hp k L' ∧ PopR k L (xs.map (·.1)) L' ∧ ∀ b ∈ hbs t v, b ∈ Z
theorem DrS.own {k : Int → Int} {base t f B : Nat} {L : List Int} {Z : List Nat} (hZ : ∀ b ∈ Z, b < B) : OwnFrom B (DrS k base t f L Z) := fun s A C row ⟨v, L', h1, h2, h3, h4⟩ hg hr =>
  ⟨v, L', h1.grown hg (fun r e hm => by have := hZ r (h4 r hm); have := (hr r e).1; omega), h2, h3, h4⟩
/-- All came. -/
def DrE (k : Int → Int) (base t f : Nat) (L : List Int) (Z : List Nat) (xs : List I64x) (W : World) : Prop := DrS k base t f L Z xs W ∧ xs.length = L.length
theorem DrE.own {k : Int → Int} {base t f B : Nat} {L : List Int} {Z : List Nat} (hZ : ∀ b ∈ Z, b < B) : OwnFrom B (DrE k base t f L Z) := fun s A C row ⟨h1, h2⟩ hg hr => ⟨DrS.own hZ s A C row h1 hg hr, h2⟩
/-- What comes next. -/
def DrT (k : Int → Int) (L : List Int) (pre : List I64x) (x : I64x) : Prop := ∃ L', PopR k L ((pre ++ [x]).map (·.1)) L'
/-- How many things a heap says that it has. -/
def lenAt (w : World) (t : Nat) : Nat := match w.cell? ⟨t, 1, none⟩ with
  | some (.slice _ n _) => n
  | _ => 0
theorem Hs.lenAt {w : World} {base t f : Nat} {v : Value} {L : List Int} (h : Hs w base t f v L) : lenAt w t = L.length := by
  obtain ⟨a, c, rfl, _⟩ := h.lst.form
  unfold Go.Proofs.Ytdffpgfmodccgaa.lenAt
  rw [h.hb.c1]
set_option maxHeartbeats 1000000 in
theorem Drain_any (t : Nat) (w : World) : Calls Try.prog 16 #[.pointer (some ⟨t, 0, none⟩)] w fun e w' => e = .returned (.func (.func 25) #[] #[.pointer (some ⟨w.heap.size, 0, none⟩)]) ∧ w' = w.alloc (.cells #[.pointer (some ⟨t, 0, none⟩)] 25) := by
  go_enter Try.func16, Try.ntmps16
  go_wp2_with fail
  go_ret
  exact ⟨rfl, rfl⟩
set_option maxRecDepth 100000 in
set_option maxHeartbeats 2000000 in
theorem drain_in {k : Int → Int} {f : Nat} (hO : Ordr f k) (base t Bt m : Nat) (L : List Int) (Z : List Nat) (v0 : Value) (W0 : World) (hs : Hs W0 base t f v0 L) (hk : Hp k L) (hz : ∀ b ∈ hbs t v0, b ∈ Z) (hL : L.length ≤ 900)
    (hBt : W0.cell? ⟨Bt, 0, none⟩ = some (.pointer (some ⟨t, 0, none⟩))) (hBz : Bt ∉ Z) :
    SeqT Fence.wide m Try.prog 25 #[.pointer (some ⟨Bt, 0, none⟩)] (fun x : I64x => #[Value.int .i64 x.1]) (Wr Z) (KpZ (Bt :: Z)) (DrT k L) (DrE k base t f L Z) (DrS k base t f L Z) W0 := by
  intro l J Jx hJ hJx hY h0
  refine callsIn_of_wp Try.func25 rfl trivial ?_ rfl
  simp only [Try.ntmps25, List.size_toArray, List.length_cons, List.length_nil, Nat.reduceAdd, Nat.reduceSub, Array.replicate_succ, Array.replicate_zero, List.push_toArray, List.append_toArray, List.nil_append, List.cons_append]
  gi_wp2
  gi_loopw [] (fun wr => ∃ (pre : List I64x) (v : Value) (L' : List Int), Hid (J pre wr ∧ Hs wr base t f v L' ∧ Hp k L' ∧ PopR k L (pre.map (·.1)) L' ∧ (∀ b ∈ hbs t v, b ∈ Z) ∧ wr.cell? ⟨Bt, 0, none⟩ = some (.pointer (some ⟨t, 0, none⟩)))) (fun wr => lenAt wr t)
  case atStart => exact ⟨[], v0, L, h0, hs, hk, PopR.start k L, hz, hBt⟩
  case round =>
    clear h0 hs hk hBt
    obtain ⟨pre, v, L', H⟩ := hrel
    have cB := H.out.2.2.2.2.2
    have hL' : L'.length ≤ 900 := by have := H.out.2.2.2.1.1.length_eq; rw [List.length_append] at this; omega
    have hM : Hid (lenAt wr t = L'.length) := H.out.2.1.lenAt
    rcases Nat.eq_zero_or_pos L'.length with h0 | h0
    · obtain rfl := List.length_eq_zero_iff.1 h0
      have CP := Pop_none wr H.out.2.1
      have hE : Hid (DrE k base t f L Z pre wr) := ⟨⟨v, [], H.out.2.1, H.out.2.2.1, H.out.2.2.2.1, H.out.2.2.2.2.1⟩, by have := H.out.2.2.2.1.1.length_eq; simpa using this⟩
      clear h0 hL'
      gi_wp2
      refine ⟨trivial, fun h => (by cases h), ?_⟩
      refine (callsIn_wide.2 CP).mono ?_
      clear CP
      rintro e w2 ⟨rfl, e2⟩
      obtain rfl := e2.symm
      gi_wp2
      all_goals
        refine ⟨fun _ h => (by cases h), ?_⟩
        gi_wp2
        exact bodyPost_ret (v := .tuple #[]) (by simp [results, Try.results25, go_sem]) rfl ⟨⟨_, rfl⟩, Or.inl ⟨pre, hE.out, H.out.1⟩⟩
    · have CP := Pop_stay hO base t v L' wr H.out.2.1 H.out.2.2.1 h0 hL'
      have hx : I64 (L'.getD 0 0) := getD_i64 H.out.2.1.ints h0
      have HP : Hid (0 < L'.length) := h0
      obtain ⟨x, hxe⟩ : ∃ x, L'.getD 0 0 = x := ⟨_, rfl⟩
      have HX : Hid (L'.getD 0 0 = x) := hxe
      rw [hxe] at CP hx
      clear h0 hL' hxe
      gi_wp2
      refine ⟨trivial, fun h => (by cases h), ?_⟩
      refine (callsIn_wide.2 CP).mono ?_
      clear CP
      rintro e w2 ⟨rfl, v2, L2, hs2, hk2, hp2, hW2, hn2⟩
      have hz2 : ∀ b ∈ hbs t v2, b ∈ Z := fun b hb => by
        rcases mem_hbs.1 hb with e | e
        · exact H.out.2.2.2.2.1 b (mem_hbs.2 (Or.inl e))
        · exact H.out.2.2.2.2.1 b (mem_hbs.2 (Or.inr (hn2 b e)))
      have hWZ : Wr Z wr w2 := hW2.mono H.out.2.2.2.2.1
      have hpop : PopR k L ((pre ++ [(⟨x, hx⟩ : I64x)]).map (·.1)) L2 := by
        have := H.out.2.2.2.1.step H.out.2.2.1 (by rw [HX.out]; exact hp2)
        rw [HX.out] at this
        simpa using this
      have c2 : w2.cell? ⟨Bt, 0, none⟩ = some (.pointer (some ⟨t, 0, none⟩)) := cell_wr cB hWZ hBz
      have H2 : Hid (J pre w2 ∧ Hs w2 base t f v2 L2 ∧ Hp k L2 ∧ PopR k L ((pre ++ [(⟨x, hx⟩ : I64x)]).map (·.1)) L2 ∧ (∀ b ∈ hbs t v2, b ∈ Z) ∧ w2.cell? ⟨Bt, 0, none⟩ = some (.pointer (some ⟨t, 0, none⟩)) ∧ L2.length < L'.length) := by
        refine ⟨hJ _ _ _ H.out.1 hWZ, hs2, hk2, hpop, hz2, c2, ?_⟩
        have := hp2.length_eq
        rw [List.length_cons] at this
        omega
      obtain ⟨fn, tmps, assign, body, hy, hR⟩ := hY (m - 1) pre ⟨x, hx⟩ w2 H2.out.1 ⟨L2, hpop⟩
      clear hs2 hk2 hp2 hW2 hn2 hz2 hWZ hpop c2 cB H HX HP
      gi_wp2
      refine ⟨fun h => (by cases h), ?_⟩
      refine hR.mono ?_
      clear hR
      rintro e w3 (⟨rfl, hj, hkp⟩ | ⟨rfl, hj, hkp⟩)
      · have H3 : Hid (J (pre ++ [⟨x, hx⟩]) w3 ∧ Hs w3 base t f v2 L2 ∧ Hp k L2 ∧ PopR k L ((pre ++ [(⟨x, hx⟩ : I64x)]).map (·.1)) L2 ∧ (∀ b ∈ hbs t v2, b ∈ Z) ∧ w3.cell? ⟨Bt, 0, none⟩ = some (.pointer (some ⟨t, 0, none⟩))) := by
          obtain ⟨h1, h2, h3, h4, h5, h6, _⟩ := H2.out
          refine ⟨hj, h2.kp (fun b hb => hkp.2 b (List.mem_cons_of_mem _ (h5 b hb))), h3, h4, h5, ?_⟩
          have := hkp.2 Bt (List.mem_cons_self)
          unfold World.cell? at *
          simp only at *
          rw [this]; exact h6
        have hlt : L2.length < lenAt wr t := by rw [hM.out]; exact H2.out.2.2.2.2.2.2
        clear hj hkp H2
        gi_wp2
        go_roundw
        case rel => exact ⟨_, v2, L2, H3⟩
        case measure => rw [H3.out.2.1.lenAt]; exact hlt
      · have H3 : DrS k base t f L Z (pre ++ [⟨x, hx⟩]) w3 := by
          obtain ⟨h1, h2, h3, h4, h5, h6, _⟩ := H2.out
          exact ⟨v2, L2, h2.kp (fun b hb => hkp.2 b (List.mem_cons_of_mem _ (h5 b hb))), h3, h4, h5⟩
        gi_wp2
        exact bodyPost_ret (v := .tuple #[]) (by simp [results, Try.results25, go_sem]) rfl ⟨⟨_, rfl⟩, Or.inr ⟨_, H3, hj⟩⟩
end Go.Proofs.Ytdffpgfmodccgaa
