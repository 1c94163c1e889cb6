/- gromalaw05 over the loaded program: AvlSorts' law: what is plain. -/
import Derived.Test.YtaackkfegkmpkaaE22
namespace Go.Proofs.Ytaackkfegkmpkaa
open Go.RowKit Go.Shelf
attribute [local go_sem] Gr.size Gr.cell? Gr.frozen? Gr.setCell Gr.drew Gr.drewN Gr.of_drew Gr.of_drewN Gr.gr Gr.lt_of1 Gr.le_of1 Gr.lt_of2 Gr.le_of2 Gr.lt_of3 Gr.le_of3 Gr.lt_of4 Gr.le_of4 Gr.lt_of5 Gr.le_of5 Gr.lt_of6 Gr.le_of6 Gr.lt_of7 Gr.le_of7 Gr.lt_of8 Gr.le_of8 Gr.lt_of9 Gr.le_of9 Gr.lt_of10 Gr.le_of10 Gr.lt_of11 Gr.le_of11 Gr.lt_of12 Gr.le_of12 Gr.lt_of13 Gr.le_of13 Gr.lt_of14 Gr.le_of14 Gr.lt_of15 Gr.le_of15 Gr.lt_of16 Gr.le_of16 Gr.lt_of17 Gr.le_of17 Gr.lt_of18 Gr.le_of18 Gr.lt_of19 Gr.le_of19 Gr.lt_of20 Gr.le_of20 Gr.lt_of21 Gr.le_of21 Gr.lt_of22 Gr.le_of22 Gr.lt_of23 Gr.le_of23 Gr.lt_of24 Gr.le_of24
/-- The turned order's keys. -/
def kn (n : Int) : Int := -tq n
set_option maxRecDepth 20000 in set_option maxHeartbeats 1000000 in
theorem sorts1_any (a b : Int) (ha : I64 a) (hb : I64 b) (w : World) : Calls Try.prog 25 #[.int .i64 a, .int .i64 b] w fun e w' => e = .returned (.int .i64 (-tensI a b)) ∧ w' = w := by
  have CT := tens_any a b ha hb w
  have hr := tensI_range a b
  obtain ⟨d, hd⟩ : ∃ d, tensI a b = d := ⟨_, rfl⟩
  rw [hd] at CT hr ⊢
  have e1 : IntKind.i64.wrap (-d) = -d := by rw [IntKind.wrap_i64]; omega
  clear hd
  go_enter Try.func25, Try.ntmps25
  go_wp2_with fail
  refine CT.mono ?_
  rintro e w1 ⟨rfl, e2⟩
  obtain rfl := e2.symm
  go_wp2_with fail
  go_ret
  exact ⟨rfl, rfl⟩
theorem sorts1_ordr : Ordr 25 kn := ⟨enters_of Try.func25 (by kernel_rfl) rfl, fun a b w ha hb => (sorts1_any a b ha hb w).mono fun _ _ ⟨h1, h2⟩ => ⟨_, tensI_neg a b, h1, h2 ▸ IsGr.refl _⟩⟩
/-- The numbers that came in. -/
def Ins (w : World) (a : Option Addr) (n : Nat) (l : List Int) : Prop :=
  n = l.length ∧ (∀ p ∈ l, I64 p) ∧ (n = 0 ∨ ∃ g o, a = some ⟨g, o, none⟩ ∧ g < w.heap.size ∧ ∀ i, i < n → w.cell? ⟨g, o + i, none⟩ = some (.int .i64 (l.getD i 0)))
theorem Ins.at {w : World} {a : Option Addr} {n : Nat} {l : List Int} (h : Ins w a n l) {k : Nat} (hk : k < n) :
    ∃ g o, a = some ⟨g, o, none⟩ ∧ I64 (l.getD k 0) ∧ ∀ w', Below w.heap.size w w' → w'.cell? ⟨g, o + k, none⟩ = some (.int .i64 (l.getD k 0)) := by
  obtain ⟨h1, h2, h3⟩ := h
  rcases h3 with h3 | ⟨g, o, h4, h5, h6⟩
  · omega
  · refine ⟨g, o, h4, ?_, fun w' hb => (hb.cell (p := ⟨g, o + k, none⟩) h5).trans (h6 k hk)⟩
    have hk' : k < l.length := by omega
    exact h2 _ (by simp only [List.getD, List.getElem?_eq_getElem hk', Option.getD_some]; exact List.getElem_mem hk')
theorem del_keys {k : Int → Int} {v : Int} {T : AT} (hr : Rise k T.inl) (h : has k v T = true) : ∀ y ∈ (del k v T).vals, y ∈ T.vals ∧ k y ≠ k v := by
  obtain ⟨A, z, B, q1, q2, q3⟩ := del_spec h
  rw [q1] at hr
  obtain ⟨_, _, h3, h4⟩ := Rise.split hr
  intro y hy
  unfold AT.vals at hy ⊢
  rw [q3, List.map_append] at hy
  rw [q1, List.map_append, List.map_cons]
  rcases List.mem_append.1 hy with h | h
  · obtain ⟨x, hx, rfl⟩ := List.mem_map.1 h
    exact ⟨List.mem_append.2 (Or.inl h), by have := h3 x hx; omega⟩
  · obtain ⟨x, hx, rfl⟩ := List.mem_map.1 h
    exact ⟨List.mem_append.2 (Or.inr (List.mem_cons.2 (Or.inr h))), by have := h4 x hx; omega⟩
theorem nohas_keys {k : Int → Int} {v : Int} {T : AT} (hr : Rise k T.inl) (h : has k v T = false) : ∀ y ∈ T.vals, k y ≠ k v := by
  intro y hy e
  obtain ⟨x, hx, rfl⟩ := List.mem_map.1 hy
  have := (has_iff hr).2 ⟨x, hx, e⟩
  rw [h] at this
  cases this
/-- Each thing is the same as one of l. -/
def FromL (l : List Int) (T : AT) : Prop := ∀ y ∈ T.vals, ∃ i, i < l.length ∧ kn (l.getD i 0) = kn y
/-- Each thing is the same as one that is still to be taken away. -/
def Left3 (l : List Int) (turn i : Nat) (T : AT) : Prop := ∀ y ∈ T.vals, ∃ j, i ≤ j ∧ j < l.length ∧ kn (l.getD ((j + turn) % l.length) 0) = kn y
theorem FromL.ins {l : List Int} {T : AT} {j nb : Nat} (h : FromL l T) (hj : j < l.length) (hh : has kn (l.getD j 0) T = false) : FromL l (ins kn nb (l.getD j 0) T) := fun y hy => by
  obtain ⟨x, hx, rfl⟩ := List.mem_map.1 hy
  rcases List.mem_cons.1 ((ins_perm hh).subset hx) with rfl | hx
  · exact ⟨j, hj, rfl⟩
  · exact h _ (List.mem_map.2 ⟨x, hx, rfl⟩)
theorem FromL.left {l : List Int} {T : AT} (h : FromL l T) (turn : Nat) : Left3 l turn 0 T := fun y hy => by
  obtain ⟨q, hq, e⟩ := h y hy
  have hn : 0 < l.length := by omega
  refine ⟨(q + (l.length - turn % l.length)) % l.length, Nat.zero_le _, Nat.mod_lt _ hn, ?_⟩
  have hm := Nat.mod_lt turn hn
  have e2 : ((q + (l.length - turn % l.length)) % l.length + turn) % l.length = q := by
    rw [Nat.mod_add_mod, ← Nat.add_mod_mod]
    rw [show q + (l.length - turn % l.length) + turn % l.length = q + l.length by omega]
    rw [Nat.add_mod_right, Nat.mod_eq_of_lt hq]
  rw [e2]; exact e
theorem Left3.del {l : List Int} {turn i : Nat} {T : AT} (h : Left3 l turn i T) (hr : Rise kn T.inl) (hh : has kn (l.getD ((i + turn) % l.length) 0) T = true) : Left3 l turn (i + 1) (del kn (l.getD ((i + turn) % l.length) 0) T) := fun y hy => by
  obtain ⟨h1, h2⟩ := del_keys hr hh y hy
  obtain ⟨j, h3, h4, h5⟩ := h y h1
  exact ⟨j, by
    rcases Nat.lt_or_ge i j with h6 | h6
    · omega
    · obtain rfl : j = i := by omega
      exact absurd h5.symm h2, h4, h5⟩
theorem Left3.same {l : List Int} {turn i : Nat} {T : AT} (h : Left3 l turn i T) (hr : Rise kn T.inl) (hh : has kn (l.getD ((i + turn) % l.length) 0) T = false) : Left3 l turn (i + 1) T := fun y hy => by
  have h2 := nohas_keys hr hh y hy
  obtain ⟨j, h3, h4, h5⟩ := h y hy
  exact ⟨j, by
    rcases Nat.lt_or_ge i j with h6 | h6
    · omega
    · obtain rfl : j = i := by omega
      exact absurd h5.symm h2, h4, h5⟩
theorem Left3.none {l : List Int} {turn : Nat} {T : AT} (h : Left3 l turn l.length T) : T = .nil := by
  cases T with
  | nil => rfl
  | nd b x p q =>
    obtain ⟨j, h1, h2, _⟩ := h x (by rw [vals_nd]; simp)
    omega
end Go.Proofs.Ytaackkfegkmpkaa
