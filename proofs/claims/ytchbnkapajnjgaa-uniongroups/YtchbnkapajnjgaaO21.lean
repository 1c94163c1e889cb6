/- gromalaw08 over the loaded program: UnionGroups' law. -/
import Derived.Test.YtchbnkapajnjgaaO20
import Derived.Test.YtchbnkapajnjgaaO15
import Derived.Test.YtchbnkapajnjgaaH1b
import Derived.Sort.CutIn
namespace Go.Proofs.Ytchbnkapajnjgaa
open Go.RowKit Go.Shelf
attribute [local go_sem] Oper.semAt_some
theorem Rd.keep {w w' : World} {v : Value} {l : List Int} (h : Rd w v l) (hk : l = [] ∨ ∀ g, v.ownBlock = some g → w'.heap[g]? = w.heap[g]?) : Rd w' v l := by
  obtain ⟨a, c, rfl, hc, h1, h2, h3⟩ := h
  refine ⟨a, c, rfl, hc, h1, h2, ?_⟩
  rcases hk with rfl | hk
  · exact Or.inl rfl
  rcases h3 with h3 | ⟨g, o, rfl, h4, h5⟩
  · exact Or.inl h3
  · have e := hk g rfl
    refine Or.inr ⟨g, o, rfl, ?_, fun i hi => (World.cell?_of_block (a := ⟨g, o + i, none⟩) e).trans (h5 i hi)⟩
    rw [Array.getElem?_eq_getElem h4] at e
    exact (Array.getElem?_eq_some_iff.1 e).1
/-- The last set's least number, behind k of them. -/
def LastO (x : List Int) (k : Nat) (z : Int) : Prop := (k = 0 → z = -1) ∧ ∀ j l, j + 1 = k → LeAt x j l → z = l
theorem LastO.lt {x : List Int} {k l : Nat} {z : Int} (h : LastO x k z) (hl : LeAt x k l) (hk : k ≤ cntU x x.length) : z < l := by
  rcases Nat.eq_zero_or_pos k with h0 | h0
  · have := h.1 h0; omega
  · obtain ⟨l0, hl0⟩ := cnt_least x x.length (Nat.le_refl _) (show k - 1 < cntU x x.length by omega)
    have h1 := h.2 (k - 1) l0 (by omega) hl0
    have h2 := hl0.mono hl (by omega)
    omega
theorem LastO.next {x : List Int} {k l : Nat} (hl : LeAt x k l) : LastO x (k + 1) (l : Int) :=
  ⟨fun h => by omega, fun j l' hj h => by
    obtain rfl : j = k := by omega
    rw [hl.one h]⟩
/-- What lies in the boxes of UnionGroups. -/
structure LuV (w : World) (P n : Nat) (stop : Int) (x : List Int) (v : Value) (s k : Nat) (z : Int) (W : World) : Prop where
  c0 : W.cell? ⟨w.heap.size, 0, none⟩ = some (.int .i64 n)
  c1 : W.cell? ⟨w.heap.size + 1, 0, none⟩ = some (.int .i64 stop)
  c2 : W.cell? ⟨w.heap.size + 1 + 1, 0, none⟩ = some (.bool false)
  f2 : W.frozen? ⟨w.heap.size + 1 + 1, 0, none⟩ = false
  cx : W.cell? ⟨P, 0, none⟩ = some v
  cs : W.cell? ⟨P + 1, 0, none⟩ = some (.int .i64 s)
  fs : W.frozen? ⟨P + 1, 0, none⟩ = false
  ck : W.cell? ⟨P + 1 + 1, 0, none⟩ = some (.int .i64 k)
  fk : W.frozen? ⟨P + 1 + 1, 0, none⟩ = false
  cl : W.cell? ⟨P + 1 + 1 + 1, 0, none⟩ = some (.int .i64 z)
  fl : W.frozen? ⟨P + 1 + 1 + 1, 0, none⟩ = false
  xr : Rd W v x
  xb : x = [] ∨ ∀ g, v.ownBlock = some g → g < P
  lo : w.heap.size + 3 ≤ P
  bel : Below w.heap.size w W
  size : P + 5 ≤ W.heap.size
section
variable {w A B W : World} {P n s k : Nat} {stop z : Int} {x : List Int} {v : Value}
theorem LuV.kp (h : LuV w P n stop x v s k z A) (hb : ∀ k, k < P + 5 → B.heap[k]? = A.heap[k]?) (hB : Below w.heap.size A B) (hs : A.heap.size ≤ B.heap.size) : LuV w P n stop x v s k z B := by
  have hlo := h.lo
  have cc : ∀ {k : Nat} {u : Value}, k < P + 5 → A.cell? ⟨k, 0, none⟩ = some u → B.cell? ⟨k, 0, none⟩ = some u := fun hk h1 => (World.cell?_of_block (hb _ hk)).trans h1
  have ff : ∀ {k : Nat}, k < P + 5 → A.frozen? ⟨k, 0, none⟩ = false → B.frozen? ⟨k, 0, none⟩ = false := fun hk h1 => (World.frozen?_of_block (hb _ hk)).trans h1
  exact ⟨cc (by omega) h.c0, cc (by omega) h.c1, cc (by omega) h.c2, ff (by omega) h.f2, cc (by omega) h.cx, cc (by omega) h.cs, ff (by omega) h.fs, cc (by omega) h.ck, ff (by omega) h.fk, cc (by omega) h.cl, ff (by omega) h.fl,
    h.xr.keep (h.xb.imp id fun hb' g e => hb g (by have := hb' g e; omega)), h.xb, h.lo, h.bel.trans hB, Nat.le_trans h.size hs⟩
theorem LuV.below {N : Nat} (h : LuV w P n stop x v s k z A) (hN : P + 5 ≤ N) (hb : Below N A B) : LuV w P n stop x v s k z B :=
  h.kp (fun k hk => hb.block k (by omega)) (hb.mono (by have := h.lo; omega)) hb.size
theorem LuV.gr (h : LuV w P n stop x v s k z A) (hg : IsGr A B) : LuV w P n stop x v s k z B := h.below h.size hg.below
theorem LuV.set {b : Nat} {u : Value} (h : LuV w P n stop x v s k z A) (hb : P ≤ b) :
    Below w.heap.size w (A.setCell ⟨b, 0, none⟩ u) ∧ P + 5 ≤ (A.setCell ⟨b, 0, none⟩ u).heap.size ∧ Rd (A.setCell ⟨b, 0, none⟩ u) v x :=
  ⟨h.bel.setCell (p := ⟨b, 0, none⟩) (by have := h.lo; simp; omega) _, by rw [set_size]; exact h.size, h.xr.keep (h.xb.imp id fun hb' g e => set_block _ _ _ _ _ (by have := hb' g e; omega))⟩
end

theorem LuV.setS {w A : World} {P n s k : Nat} {stop z : Int} {x : List Int} {v : Value} (h : LuV w P n stop x v s k z A) (s' : Nat) : LuV w P n stop x v s' k z (A.setCell ⟨P + 1, 0, none⟩ (.int .i64 s')) := by
  obtain ⟨q1, q2, q3⟩ := h.set (b := P + 1) (u := .int .i64 s') (by omega)
  exact ⟨(cell_o _ _ _ (by have := h.lo; omega)).trans h.c0, (cell_o _ _ _ (by have := h.lo; omega)).trans h.c1, (cell_o _ _ _ (by have := h.lo; omega)).trans h.c2, (World.frozen?_setCell _ _ _ _).trans h.f2, (cell_o _ _ _ (by have := h.lo; omega)).trans h.cx, cell_s h.cs, (World.frozen?_setCell _ _ _ _).trans h.fs, (cell_o _ _ _ (by have := h.lo; omega)).trans h.ck, (World.frozen?_setCell _ _ _ _).trans h.fk, (cell_o _ _ _ (by have := h.lo; omega)).trans h.cl, (World.frozen?_setCell _ _ _ _).trans h.fl, q3, h.xb, h.lo, q1, q2⟩

theorem LuV.setK {w A : World} {P n s k : Nat} {stop z : Int} {x : List Int} {v : Value} (h : LuV w P n stop x v s k z A) (k' : Nat) : LuV w P n stop x v s k' z (A.setCell ⟨P + 1 + 1, 0, none⟩ (.int .i64 k')) := by
  obtain ⟨q1, q2, q3⟩ := h.set (b := P + 1 + 1) (u := .int .i64 k') (by omega)
  exact ⟨(cell_o _ _ _ (by have := h.lo; omega)).trans h.c0, (cell_o _ _ _ (by have := h.lo; omega)).trans h.c1, (cell_o _ _ _ (by have := h.lo; omega)).trans h.c2, (World.frozen?_setCell _ _ _ _).trans h.f2, (cell_o _ _ _ (by have := h.lo; omega)).trans h.cx, (cell_o _ _ _ (by have := h.lo; omega)).trans h.cs, (World.frozen?_setCell _ _ _ _).trans h.fs, cell_s h.ck, (World.frozen?_setCell _ _ _ _).trans h.fk, (cell_o _ _ _ (by have := h.lo; omega)).trans h.cl, (World.frozen?_setCell _ _ _ _).trans h.fl, q3, h.xb, h.lo, q1, q2⟩

theorem LuV.setL {w A : World} {P n s k : Nat} {stop z : Int} {x : List Int} {v : Value} (h : LuV w P n stop x v s k z A) (z' : Int) : LuV w P n stop x v s k z' (A.setCell ⟨P + 1 + 1 + 1, 0, none⟩ (.int .i64 z')) := by
  obtain ⟨q1, q2, q3⟩ := h.set (b := P + 1 + 1 + 1) (u := .int .i64 z') (by omega)
  exact ⟨(cell_o _ _ _ (by have := h.lo; omega)).trans h.c0, (cell_o _ _ _ (by have := h.lo; omega)).trans h.c1, (cell_o _ _ _ (by have := h.lo; omega)).trans h.c2, (World.frozen?_setCell _ _ _ _).trans h.f2, (cell_o _ _ _ (by have := h.lo; omega)).trans h.cx, (cell_o _ _ _ (by have := h.lo; omega)).trans h.cs, (World.frozen?_setCell _ _ _ _).trans h.fs, (cell_o _ _ _ (by have := h.lo; omega)).trans h.ck, (World.frozen?_setCell _ _ _ _).trans h.fk, cell_s h.cl, (World.frozen?_setCell _ _ _ _).trans h.fl, q3, h.xb, h.lo, q1, q2⟩
/-- The same, by the sets that came. -/
def LuI (w : World) (P n : Nat) (stop : Int) (x : List Int) (v : Value) (pre : List Value) (W : World) : Prop :=
  ∃ z, LuV w P n stop x v (tots (nums x) x.length pre.length) pre.length z W ∧ LastO x pre.length z
theorem LuI.below {w A B : World} {P n N : Nat} {stop : Int} {x : List Int} {v : Value} {pre : List Value} (h : LuI w P n stop x v pre A) (hN : P + 5 ≤ N) (hb : Below N A B) : LuI w P n stop x v pre B := by
  obtain ⟨z, h1, h2⟩ := h
  exact ⟨z, h1.below hN hb, h2⟩
theorem LuI.own {w : World} {P n N : Nat} {stop : Int} {x : List Int} {v : Value} (hN : P + 5 ≤ N) : OwnFrom N (LuI w P n stop x v) := fun _ A _ row ⟨z, h1, h2⟩ hg hr =>
  ⟨z, h1.kp (fun k hk => hg.block k (by have := h1.size; omega) (fun e => by have := (hr k e.symm).1; omega)) ((Below.refl _ A).grown hg (by have := h1.size; have := h1.lo; omega) (fun r e => by have := (hr r e).1; have := h1.lo; omega)) hg.size, h2⟩
/-- What is behind an early end. -/
def LuX (w W : World) : Prop := (W.cell? ⟨w.heap.size + 1 + 1, 0, none⟩ = some (.bool true) ∧ W.frozen? ⟨w.heap.size + 1 + 1, 0, none⟩ = false) ∧ Below w.heap.size w W ∧ w.heap.size + 3 ≤ W.heap.size
theorem LuX.kp {w A B : World} (h : LuX w A) (hb : ∀ k, k < w.heap.size + 3 → B.heap[k]? = A.heap[k]?) (hB : Below w.heap.size A B) (hs : A.heap.size ≤ B.heap.size) : LuX w B :=
  ⟨⟨(World.cell?_of_block (a := ⟨w.heap.size + 1 + 1, 0, none⟩) (hb _ (by simp only; omega))).trans h.1.1, (World.frozen?_of_block (a := ⟨w.heap.size + 1 + 1, 0, none⟩) (hb _ (by simp only; omega))).trans h.1.2⟩, h.2.1.trans hB, Nat.le_trans h.2.2 hs⟩
theorem LuX.below {w A B : World} {N : Nat} (h : LuX w A) (hN : w.heap.size + 3 ≤ N) (hb : Below N A B) : LuX w B := h.kp (fun k hk => hb.block k (by omega)) (hb.mono (by omega)) hb.size
theorem LuX.grown {w A C : World} {N : Nat} {row : Option Nat} (hN : w.heap.size + 3 ≤ N) (hs : LuX w A) (hg : A.grownBy C row) (hr : ∀ r, row = some r → N ≤ r) : LuX w C :=
  hs.kp (fun k hk => hg.block k (by have := hs.2.2; omega) (fun e => by have := hr k e.symm; omega)) ((Below.refl _ A).grown hg (by have := hs.2.2; omega) (fun r e => by have := hr r e; omega)) hg.size
theorem KpG.gr {N : Nat} {A B : World} (h : IsGr A B) : KpG N A B := ⟨h.size, fun k _ hk => h.below.block k hk⟩
theorem KpG.set {N b : Nat} {A : World} {u : Value} (hb : b < N) : KpG N A (A.setCell ⟨b, 0, none⟩ u) := ⟨by rw [set_size]; exact Nat.le_refl _, fun k hk _ => set_block _ _ _ _ _ (by omega)⟩
theorem KpG.mono {N M : Nat} {A B : World} (h : KpG N A B) (hm : N ≤ M) : KpG M A B := ⟨h.1, fun k hk hl => h.2 k (by omega) hl⟩
theorem KpG.kept {D : Nat} {A B : World} (h : KpG D A B) (hD : D + 1 < A.heap.size) : KeptB D A B := ⟨h.1, fun k hk => h.2 k (by omega) (by omega)⟩
theorem LuV.new (w w1 : World) (n : Nat) (stop : Int) (x : List Int) (t : Nat) (sa : Option Addr) (sc : Nat) (u1 u2 u3 u4 : TypeId) (hlo : w.heap.size + 3 ≤ w1.heap.size) (hx : Rd w1 (.slice sa n sc) x) (hb : Below w.heap.size w w1)
    (c0 : w1.cell? ⟨w.heap.size, 0, none⟩ = some (.int .i64 n)) (c1 : w1.cell? ⟨w.heap.size + 1, 0, none⟩ = some (.int .i64 stop)) (c2 : w1.cell? ⟨w.heap.size + 1 + 1, 0, none⟩ = some (.bool false)) (f2 : w1.frozen? ⟨w.heap.size + 1 + 1, 0, none⟩ = false)
    (hxb : x = [] ∨ ∀ g, (Value.slice sa n sc).ownBlock = some g → g < w1.heap.size) :
    LuV w w1.heap.size n stop x (.slice sa n sc) 0 0 (-1) (((((w1.alloc (.cells #[.slice sa n sc] 26)).alloc (.cells #[.int .i64 0] u1)).alloc (.cells #[.int .i64 0] u2)).alloc (.cells #[.int .i64 (-1)] u3)).alloc (.cells #[.pointer (some ⟨t, 0, none⟩)] u4)) := by
  have d0 := cell_new w1 (.slice sa n sc) 26
  have d1 := cell_new (w1.alloc (.cells #[.slice sa n sc] 26)) (.int .i64 0) u1
  have d2 := cell_new ((w1.alloc (.cells #[.slice sa n sc] 26)).alloc (.cells #[.int .i64 0] u1)) (.int .i64 0) u2
  have d3 := cell_new (((w1.alloc (.cells #[.slice sa n sc] 26)).alloc (.cells #[.int .i64 0] u1)).alloc (.cells #[.int .i64 0] u2)) (.int .i64 (-1)) u3
  simp only [World.size_alloc] at d1 d2 d3
  have hg : IsGr w1 (((((w1.alloc (.cells #[.slice sa n sc] 26)).alloc (.cells #[.int .i64 0] u1)).alloc (.cells #[.int .i64 0] u2)).alloc (.cells #[.int .i64 (-1)] u3)).alloc (.cells #[.pointer (some ⟨t, 0, none⟩)] u4)) := (((((IsGr.refl w1).alloc _).alloc _).alloc _).alloc _).alloc _
  exact ⟨cellk c0 hg, cellk c1 hg, cellk c2 hg, frzk c2 f2 hg, cell_past _ (cell_past _ (cell_past _ (cell_past _ d0.1))), cell_past _ (cell_past _ (cell_past _ d1.1)), frozen_past _ (cell_past _ (cell_past _ d1.1)) (frozen_past _ (cell_past _ d1.1) (frozen_past _ d1.1 d1.2)),
    cell_past _ (cell_past _ d2.1), frozen_past _ (cell_past _ d2.1) (frozen_past _ d2.1 d2.2), cell_past _ d3.1, frozen_past _ d3.1 d3.2, hx.gr hg, hxb, hlo, hb.trans (hg.below.mono hb.size), by simp⟩
theorem LastO.start (x : List Int) : LastO x 0 (-1) := ⟨fun _ => rfl, fun j l h => by omega⟩

set_option maxRecDepth 100000 in
set_option maxHeartbeats 2000000 in
theorem law_groups_lo (k : Int) (h1 : k < 0) (a : Option Addr) (m c : Nat) (stop : Int) (w : World) :
    Calls Try.prog 4 #[.int .i64 k, .slice a m c, .int .i64 stop] w fun e w' => e = .returned (.bool true) ∧ Below w.heap.size w w' := by
  refine (callsIn_wide (n := 9)).1 ?_
  refine callsIn_of_wp_marks Try.func4 rfl trivial ?_ rfl
  simp only [Try.ntmps4, List.size_toArray, List.length_cons, List.length_nil, Nat.reduceAdd, Nat.reduceSub, Array.replicate_succ, Array.replicate_zero, List.push_toArray, List.append_toArray, List.nil_append, List.cons_append]
  gi_wp2
  have hgw : IsGr w (((w.alloc (.cells #[.int .i64 k] 3)).alloc (.cells #[.int .i64 stop] 3)).alloc (.cells #[.bool false] 4)) := ((((IsGr.refl w).alloc _).alloc _).alloc _)
  have cb := cell_new ((w.alloc (.cells #[.int .i64 k] 3)).alloc (.cells #[.int .i64 stop] 3)) (.bool false) 4
  simp only [World.size_alloc] at cb
  refine ⟨trivial, ?_⟩
  refine (callsIn_wide.2 (awake_any _)).mono ?_
  rintro e w2 ⟨rfl, h2⟩
  have B2 : Below w.heap.size w w2 := hgw.below.trans (h2.mono hgw.size)
  have cb2 := (h2.cell (p := ⟨w.heap.size + 1 + 1, 0, none⟩) (by simp)).trans cb.1
  have fb2 := (h2.frozen (p := ⟨w.heap.size + 1 + 1, 0, none⟩) (by simp)).trans cb.2
  clear hgw cb h2
  gi_wp2
  have hc5 := cell_s (v := .bool true) cb2
  refine ⟨.bool true, ?_, rfl, B2.setCell (p := ⟨w.heap.size + 1 + 1, 0, none⟩) (by simp; omega) _⟩
  simp [results, Try.f4, go_sem, hc5]

set_option maxRecDepth 100000 in
set_option maxHeartbeats 2000000 in
theorem law_groups_hi (k : Int) (h2 : 60 < k) (a : Option Addr) (m c : Nat) (stop : Int) (w : World) :
    Calls Try.prog 4 #[.int .i64 k, .slice a m c, .int .i64 stop] w fun e w' => e = .returned (.bool true) ∧ Below w.heap.size w w' := by
  have h1 : ¬ k < 0 := by omega
  refine (callsIn_wide (n := 9)).1 ?_
  refine callsIn_of_wp_marks Try.func4 rfl trivial ?_ rfl
  simp only [Try.ntmps4, List.size_toArray, List.length_cons, List.length_nil, Nat.reduceAdd, Nat.reduceSub, Array.replicate_succ, Array.replicate_zero, List.push_toArray, List.append_toArray, List.nil_append, List.cons_append]
  gi_wp2
  have hgw : IsGr w (((w.alloc (.cells #[.int .i64 k] 3)).alloc (.cells #[.int .i64 stop] 3)).alloc (.cells #[.bool false] 4)) := ((((IsGr.refl w).alloc _).alloc _).alloc _)
  have cb := cell_new ((w.alloc (.cells #[.int .i64 k] 3)).alloc (.cells #[.int .i64 stop] 3)) (.bool false) 4
  simp only [World.size_alloc] at cb
  refine ⟨trivial, ?_⟩
  refine (callsIn_wide.2 (awake_any _)).mono ?_
  rintro e w2 ⟨rfl, h2⟩
  have B2 : Below w.heap.size w w2 := hgw.below.trans (h2.mono hgw.size)
  have cb2 := (h2.cell (p := ⟨w.heap.size + 1 + 1, 0, none⟩) (by simp)).trans cb.1
  have fb2 := (h2.frozen (p := ⟨w.heap.size + 1 + 1, 0, none⟩) (by simp)).trans cb.2
  clear hgw cb h2
  gi_wp2
  have hc5 := cell_s (v := .bool true) cb2
  refine ⟨.bool true, ?_, rfl, B2.setCell (p := ⟨w.heap.size + 1 + 1, 0, none⟩) (by simp; omega) _⟩
  simp [results, Try.f4, go_sem, hc5]

set_option maxRecDepth 100000 in
set_option maxHeartbeats 2000000 in
theorem law_groups_len (k : Int) (h1 : ¬ k < 0) (h2 : ¬ 60 < k) (a : Option Addr) (m c : Nat) (stop : Int) (w : World) (hm : ¬ m ≤ 80) :
    Calls Try.prog 4 #[.int .i64 k, .slice a m c, .int .i64 stop] w fun e w' => e = .returned (.bool true) ∧ Below w.heap.size w w' := by
  have h3 : (80 : Int) < m := by omega
  refine (callsIn_wide (n := 9)).1 ?_
  refine callsIn_of_wp_marks Try.func4 rfl trivial ?_ rfl
  simp only [Try.ntmps4, List.size_toArray, List.length_cons, List.length_nil, Nat.reduceAdd, Nat.reduceSub, Array.replicate_succ, Array.replicate_zero, List.push_toArray, List.append_toArray, List.nil_append, List.cons_append]
  gi_wp2
  have hgw : IsGr w (((w.alloc (.cells #[.int .i64 k] 3)).alloc (.cells #[.int .i64 stop] 3)).alloc (.cells #[.bool false] 4)) := ((((IsGr.refl w).alloc _).alloc _).alloc _)
  have cb := cell_new ((w.alloc (.cells #[.int .i64 k] 3)).alloc (.cells #[.int .i64 stop] 3)) (.bool false) 4
  simp only [World.size_alloc] at cb
  refine ⟨trivial, ?_⟩
  refine (callsIn_wide.2 (awake_any _)).mono ?_
  rintro e w2 ⟨rfl, h2⟩
  have B2 : Below w.heap.size w w2 := hgw.below.trans (h2.mono hgw.size)
  have cb2 := (h2.cell (p := ⟨w.heap.size + 1 + 1, 0, none⟩) (by simp)).trans cb.1
  have fb2 := (h2.frozen (p := ⟨w.heap.size + 1 + 1, 0, none⟩) (by simp)).trans cb.2
  clear hgw cb h2
  gi_wp2
  have hc5 := cell_s (v := .bool true) cb2
  refine ⟨.bool true, ?_, rfl, B2.setCell (p := ⟨w.heap.size + 1 + 1, 0, none⟩) (by simp; omega) _⟩
  simp [results, Try.f4, go_sem, hc5]

set_option maxRecDepth 100000 in
set_option maxHeartbeats 2000000 in
theorem law_groups_few (n : Nat) (a : Option Addr) (m c : Nat) (l : List (Int × Int)) (stop : Int) (w : World) (h : Ops w a m l) (hn : n ≤ 60) (hm : m ≤ 80) :
    Calls Try.prog 4 #[.int .i64 n, .slice a m c, .int .i64 stop] w fun e w' => e = .returned (.bool true) ∧ Below w.heap.size w w' := by
  have q0 : ¬ (n : Int) < 0 := by omega
  have q1 : ¬ (60 : Int) < n := by omega
  have q2 : ¬ (80 : Int) < m := by omega
  have HN : Hid (n ≤ 60) := hn
  have HO : Hid (∀ W, Below w.heap.size w W → Ops W a m l) := fun W hB => by
    obtain ⟨h1, h2, h3⟩ := h
    refine ⟨h1, h2, h3.imp id fun ⟨g, o, e, h4, h5⟩ => ⟨g, o, e, Nat.lt_of_lt_of_le h4 hB.size, fun i hi => ?_⟩⟩
    exact ⟨(hB.cell (p := ⟨g, o + i * 2, none⟩) h4).trans (h5 i hi).1, (hB.cell (p := ⟨g, o + i * 2 + 1, none⟩) h4).trans (h5 i hi).2⟩
  refine (callsIn_wide (n := 9)).1 ?_
  refine callsIn_of_wp_marks Try.func4 rfl trivial ?_ rfl
  simp only [Try.ntmps4, List.size_toArray, List.length_cons, List.length_nil, Nat.reduceAdd, Nat.reduceSub, Array.replicate_succ, Array.replicate_zero, List.push_toArray, List.append_toArray, List.nil_append, List.cons_append]
  gi_wp2
  have hgw : IsGr w (((w.alloc (.cells #[.int .i64 n] 3)).alloc (.cells #[.int .i64 stop] 3)).alloc (.cells #[.bool false] 4)) := ((((IsGr.refl w).alloc _).alloc _).alloc _)
  have cb0 := cell_new w (.int .i64 n) 3
  have cb1 := cell_new (w.alloc (.cells #[.int .i64 n] 3)) (.int .i64 stop) 3
  have cb := cell_new ((w.alloc (.cells #[.int .i64 n] 3)).alloc (.cells #[.int .i64 stop] 3)) (.bool false) 4
  simp only [World.size_alloc] at cb cb1
  have ca0 := cell_past (.cells #[.bool false] 4) (cell_past (.cells #[.int .i64 stop] 3) cb0.1)
  have ca1 := cell_past (.cells #[.bool false] 4) cb1.1
  have hszA : (((w.alloc (.cells #[.int .i64 n] 3)).alloc (.cells #[.int .i64 stop] 3)).alloc (.cells #[.bool false] 4)).heap.size = w.heap.size + 3 := by simp
  obtain ⟨wA, hwA⟩ : ∃ W, (((w.alloc (.cells #[.int .i64 n] 3)).alloc (.cells #[.int .i64 stop] 3)).alloc (.cells #[.bool false] 4)) = W := ⟨_, rfl⟩
  rw [hwA] at hgw ca0 ca1 cb hszA ⊢
  refine ⟨trivial, ?_⟩
  refine (callsIn_wide.2 (made_any n a m c l wA (HO.out _ hgw.below) hn hm)).mono ?_
  rintro e w1 ⟨t, sa, sc, rfl, gu, gz, gm, x, hP⟩
  have bA := hP.bel
  have HV : Hid (∀ u1 u2 u3 u4, LuV w w1.heap.size n stop x (.slice sa n sc) 0 0 (-1) (((((w1.alloc (.cells #[.slice sa n sc] 26)).alloc (.cells #[.int .i64 0] u1)).alloc (.cells #[.int .i64 0] u2)).alloc (.cells #[.int .i64 (-1)] u3)).alloc (.cells #[.pointer (some ⟨t, 0, none⟩)] u4))) := fun u1 u2 u3 u4 =>
    LuV.new w w1 n stop x t sa sc u1 u2 u3 u4 (by have := bA.size; omega) hP.rd (hgw.below.trans (bA.mono hgw.size)) ((bA.cell (p := ⟨w.heap.size, 0, none⟩) (block_lt ca0)).trans ca0) ((bA.cell (p := ⟨w.heap.size + 1, 0, none⟩) (block_lt ca1)).trans ca1)
      ((bA.cell (p := ⟨w.heap.size + 1 + 1, 0, none⟩) (block_lt cb.1)).trans cb.1) ((bA.frozen (p := ⟨w.heap.size + 1 + 1, 0, none⟩) (block_lt cb.1)).trans cb.2) (by
        obtain ⟨a', c', e1, _, q1, _, q3⟩ := hP.rd
        rcases q3 with q3 | ⟨g', o', rfl, q4, _⟩
        · exact Or.inl (List.length_eq_zero_iff.1 q3)
        · refine Or.inr fun g e => ?_
          rw [e1] at e
          have e5 : g' = g := Option.some.inj e
          omega)
  have HP : Hid (Pl wA t gu gz gm n x (.slice sa n sc) w1) := hP
  clear hP bA hgw ca0 ca1 cb cb0 cb1 hwA hszA h hn hm
  gi_wp2
  have CG : ∀ W, Calls Try.prog 19 #[.pointer (some ⟨t, 0, none⟩)] W fun e w' => ∃ Bt, e = .returned (.func (.func 25) #[] #[.pointer (some ⟨Bt, 0, none⟩)]) ∧ w'.cell? ⟨Bt, 0, none⟩ = some (.pointer (some ⟨t, 0, none⟩)) ∧ w' = W.alloc (.cells #[.pointer (some ⟨t, 0, none⟩)] 24) := fun W =>
    (Groups_any t W).mono fun e w' ⟨h1, h2⟩ => ⟨_, h1, by rw [h2]; exact (cell_new W _ _).1, h2⟩
  refine ⟨trivial, ?_⟩
  refine (callsIn_wide.2 (CG _)).mono ?_
  clear CG
  rintro e w5 ⟨Bt, rfl, hBt, e5⟩
  have hV5 := HV.out 3 3 3 24
  rw [← e5] at hV5
  have hs5 : w5.heap.size = w1.heap.size + 5 := by rw [e5]; simp
  have hg5 : IsGr w1 w5 := by rw [e5]; exact (((((IsGr.refl w1).alloc _).alloc _).alloc _).alloc _).alloc _
  have hU5 := HP.out.un.gr hg5
  have hI5 : LuI w w1.heap.size n stop x (.slice sa n sc) [] w5 := ⟨-1, hV5, LastO.start x⟩
  have hlen := HP.out.len
  obtain ⟨Nc, hC⟩ : ∃ Nc, cntU x x.length = Nc := ⟨_, rfl⟩
  have HX : Hid (x.length = n ∧ cntU x x.length = Nc ∧ Lea x ∧ n ≤ 60) := ⟨hlen, hC, hU5.lea, HN.out⟩
  have hlo : w.heap.size + 3 ≤ w1.heap.size := hV5.lo
  have hx9 : x.length ≤ 1000 := by have := HX.out; omega
  have HS5 : Hid (w5.heap.size = w1.heap.size + 5 ∧ w.heap.size + 3 ≤ w1.heap.size) := ⟨hs5, hlo⟩
  clear e5 HV hV5 HP HN hg5 HO
  gi_wp2
  refine wpIn_range_turnsW (α := Value) rfl rfl (by omega) (gf := 25) (lb := #[.pointer (some ⟨Bt, 0, none⟩)]) rfl trivial (enters_of Try.func25 (by kernel_rfl) rfl)
    (R := Below (w5.heap.size + 2)) (Kp := KpG (w5.heap.size + 2)) (T := fun pre v W => pre.length < Nc ∧ Lst W (w5.heap.size + 2) v (grp (nums x) (pre.length : Nat) x.length))
    (S := fun xs _ => xs.length = Nc) (Sp := fun xs _ => xs.length ≤ Nc)
    (fun o1 o2 => groups_in Bt (w5.heap.size + 2) _ ((w5.alloc o1).alloc o2) (by simp) (hU5.gr (((IsGr.refl w5).alloc o1).alloc o2)) hx9 hC (cellk hBt (((IsGr.refl w5).alloc o1).alloc o2)))
    (fun X Y hXY k hk hlt => hXY.block k (by omega)) (fun h1 h2 => h1.trans h2) (fun W o => ⟨by simp, fun k hk hl => World.putObj_heap_other (by omega)⟩) (fun _ => rfl)
    (LuI w w1.heap.size n stop x (.slice sa n sc)) (fun c' _ W => c' = .ret ∧ LuX w W)
    (LuI.own (by omega)) (fun c' s A B row hs hg hr => ⟨hs.1, LuX.grown (N := w5.heap.size) (by omega) hs.2 hg (fun r e => (hr r e).1)⟩) (fun s A B row hs hg hr => hs) (fun s A B row hs hg hr => hs)
    (fun _ _ s A B row hs hg hr => ⟨hs.1, hs.2.grown hg (fun r e => (hr r e).2)⟩) (fun s A B hs hr => hs.below (by omega) hr) (fun c' s A B hs hr => ⟨hs.1, hs.2.below (by omega) hr⟩) hI5
    ?a1 ?assign ?body ?done ?stop
  case assign =>
    intro lq x W K hK
    gi_wp2
    exact hK
  case stop =>
    rintro D c' xs W hD hSp ⟨rfl, hX⟩ hK
    have hwD : w.heap.size ≤ D := by omega
    gi_wp2
    refine ⟨by simp, .inl ⟨_, _, rfl, run_takeDeferred hK, ?_⟩⟩
    have hc5 := cell_kept hX.1.1 (grownBy_putObj' W D (.deferred none)) (fun r e => by cases e; exact ⟨_, hK, rfl⟩)
    refine ⟨.bool true, ?_, rfl, hX.2.1.trans (belowK_b (w := w) (Nat.le_refl _) _ D _ _ hwD hK rfl rfl)⟩
    simp [results, Try.f4, go_sem, hc5]
  case done =>
    rintro D xs W hD hSx ⟨z, hV, -⟩ hK
    have c0 := hV.c0
    have cs := hV.cs
    have ck := hV.ck
    have cx := hV.cx
    have c2 := hV.c2
    have f2 := hV.f2
    have hsx : tots (nums x) x.length xs.length = n := by rw [hSx, ← hC, tots_nums HX.out.2.2.1]; exact HX.out.1
    rw [hsx] at cs
    rw [hSx] at ck
    have CU : ∀ W', IsGr W W' → Calls Try.prog 15 #[.slice sa n sc] W' fun e w' => e = .returned (.int .i64 Nc) ∧ w' = W' := fun W' hg => by
      have := count_any (.slice sa n sc) x W' (hV.xr.gr hg) hx9
      rw [hC] at this
      exact this
    have HD : Hid (Below w.heap.size w W ∧ W.heap[D]? = some (.deferred (some [])) ∧ w.heap.size + 3 ≤ D) := ⟨hV.bel, hK, by omega⟩
    clear hV hsx hSx hK hI5 hU5 hBt
    gi_upto_region 22 with fail
    refine wpIn_region_any (by kernel_rfl) ?_
    refine wpAnyIn_ready (rs := [0, 1]) (by kernel_rfl) (by simp) ?_
    refine AllReadyIn.cons (o := { dst := some 96, op := Op.load 3 (Operand.tmp 9), type := 3, pos := "law.go:121", after := #[], guard := none }) rfl (fun K hK0 => ?_) ?_
    · have hK : Hid _ := hK0
      clear hK0
      go_simp
      refine hK.out _ _ ?_
      clear hK K
      (try simp only [Act.put, List.setIfInBounds_toArray, List.set_cons_zero, List.set_cons_succ])
      refine wpAnyIn_ready (rs := [1]) (by kernel_rfl) (by simp) ?_
      refine AllReadyIn.cons (o := { dst := some 97, op := Op.load 3 (Operand.tmp 3), type := 3, pos := "law.go:121", after := #[], guard := none }) rfl (fun K hK0 => ?_) ?_
      · have hK : Hid _ := hK0
        clear hK0
        go_simp
        refine hK.out _ _ ?_
        clear hK K
        (try simp only [Act.put, List.setIfInBounds_toArray, List.set_cons_zero, List.set_cons_succ])
        refine wpAnyIn_ready (rs := [2]) (by kernel_rfl) (by simp) ?_
        refine AllReadyIn.cons (o := { dst := some 98, op := Op.binOp BinOp.eql 3 (Operand.tmp 96) (Operand.tmp 97) 3, type := 4, pos := "law.go:121", after := #[{ on := 0, ground := Ground.data }, { on := 1, ground := Ground.data }], guard := none }) rfl (fun K hK0 => ?_) ?_
        · have hK : Hid _ := hK0
          clear hK0
          go_simp
          refine hK.out _ _ ?_
          clear hK K
          (try simp only [Act.put, List.setIfInBounds_toArray, List.set_cons_zero, List.set_cons_succ])
          refine wpAnyIn_ready (rs := [3]) (by kernel_rfl) (by simp) ?_
          refine AllReadyIn.cons (o := { dst := some 99, op := Op.move (Operand.tmp 98), type := 4, pos := "law.go:121", after := #[{ on := 2, ground := Ground.data }], guard := none }) rfl (fun K hK0 => ?_) ?_
          · have hK : Hid _ := hK0
            clear hK0
            go_simp
            refine hK.out _ _ ?_
            clear hK K
            (try simp only [Act.put, List.setIfInBounds_toArray, List.set_cons_zero, List.set_cons_succ])
            refine wpAnyIn_ready (rs := [4, 5]) (by kernel_rfl) (by simp) ?_
            refine AllReadyIn.cons (o := { dst := some 100, op := Op.load 3 (Operand.tmp 10), type := 3, pos := "law.go:121", after := #[{ on := 3, ground := Ground.guard }], guard := some (3, true) }) rfl (fun K hK0 => ?_) ?_
            · have hK : Hid _ := hK0
              clear hK0
              go_simp
              refine hK.out _ _ ?_
              clear hK K
              (try simp only [Act.put, List.setIfInBounds_toArray, List.set_cons_zero, List.set_cons_succ])
              refine wpAnyIn_ready (rs := [5]) (by kernel_rfl) (by simp) ?_
              refine AllReadyIn.cons (o := { dst := some 101, op := Op.load 26 (Operand.tmp 8), type := 26, pos := "law.go:121", after := #[{ on := 3, ground := Ground.guard }], guard := some (3, true) }) rfl (fun K hK0 => ?_) ?_
              · have hK : Hid _ := hK0
                clear hK0
                go_simp
                refine hK.out _ _ ?_
                clear hK K
                (try simp only [Act.put, List.setIfInBounds_toArray, List.set_cons_zero, List.set_cons_succ])
                refine wpAnyIn_ready (rs := [6]) (by kernel_rfl) (by simp) ?_
                refine AllReadyIn.cons (o := { dst := some 102, op := Op.call { callee := Callee.value (Operand.func 15), args := #[Operand.tmp 101], argTypes := #[26] }, type := 3, pos := "law.go:121", after := #[{ on := 5, ground := Ground.data }, { on := 3, ground := Ground.chain }, { on := 3, ground := Ground.guard }], guard := some (3, true) }) rfl (fun K hK0 => ?_) ?_
                · have hK : Hid _ := hK0
                  clear hK0
                  go_simp
                  refine ⟨trivial, ?_⟩
                  refine (callsIn_wide.2 (CU _ ((IsGr.refl W).drew))).mono ?_
                  rintro e w3 ⟨rfl, e3⟩
                  obtain rfl := e3.symm
                  refine hK.out _ _ ?_
                  clear hK K
                  (try simp only [Act.put, List.setIfInBounds_toArray, List.set_cons_zero, List.set_cons_succ])
                  refine wpAnyIn_ready (rs := [7]) (by kernel_rfl) (by simp) ?_
                  refine AllReadyIn.cons (o := { dst := some 103, op := Op.binOp BinOp.eql 3 (Operand.tmp 100) (Operand.tmp 102) 3, type := 4, pos := "law.go:121", after := #[{ on := 4, ground := Ground.data }, { on := 6, ground := Ground.data }, { on := 3, ground := Ground.guard }], guard := some (3, true) }) rfl (fun K hK0 => ?_) ?_
                  · have hK : Hid _ := hK0
                    clear hK0
                    go_simp
                    refine hK.out _ _ ?_
                    clear hK K
                    (try simp only [Act.put, List.setIfInBounds_toArray, List.set_cons_zero, List.set_cons_succ])
                    refine wpAnyIn_ready (rs := [8]) (by kernel_rfl) (by simp) ?_
                    refine AllReadyIn.cons (o := { dst := some 104, op := Op.pick (Operand.tmp 99) (Operand.tmp 103) (Operand.const (Value.bool false)), type := 4, pos := "law.go:121", after := #[{ on := 3, ground := Ground.data }, { on := 7, ground := Ground.data }], guard := none }) rfl (fun K hK0 => ?_) ?_
                    · have hK : Hid _ := hK0
                      clear hK0
                      go_simp
                      refine hK.out _ _ ?_
                      clear hK K
                      (try simp only [Act.put, List.setIfInBounds_toArray, List.set_cons_zero, List.set_cons_succ])
                      refine wpAnyIn_ready (rs := [9]) (by kernel_rfl) (by simp) ?_
                      refine AllReadyIn.cons (o := { dst := some 105, op := Op.move (Operand.tmp 104), type := 4, pos := "law.go:121", after := #[{ on := 8, ground := Ground.data }, { on := 6, ground := Ground.chain }], guard := none }) rfl (fun K hK0 => ?_) ?_
                      · have hK : Hid _ := hK0
                        clear hK0
                        go_simp
                        refine hK.out _ _ ?_
                        clear hK K
                        (try simp only [Act.put, List.setIfInBounds_toArray, List.set_cons_zero, List.set_cons_succ])
                        refine wpAnyIn_ready (rs := [10]) (by kernel_rfl) (by simp) ?_
                        refine AllReadyIn.cons (o := { dst := some 106, op := Op.call { callee := Callee.value (Operand.func 7), args := #[], argTypes := #[] }, type := 4, pos := "law.go:121", after := #[{ on := 9, ground := Ground.chain }, { on := 9, ground := Ground.guard }], guard := some (9, true) }) rfl (fun K hK0 => ?_) ?_
                        · have hK : Hid _ := hK0
                          clear hK0
                          go_simp
                          refine ⟨trivial, ?_⟩
                          refine (callsIn_wide.2 (awake_any _)).mono ?_
                          rintro e w3 ⟨rfl, hb3⟩
                          have hB3 : Below W.heap.size W w3 := ((IsGr.refl W).drew).below.trans (hb3.mono (by simp))
                          have c23 := (hB3.cell (p := ⟨w.heap.size + 1 + 1, 0, none⟩) (block_lt c2)).trans c2
                          have f23 := (hB3.frozen (p := ⟨w.heap.size + 1 + 1, 0, none⟩) (block_lt c2)).trans f2
                          have k4 := (hB3.block D (Array.getElem?_eq_some_iff.1 HD.out.2.1).1).trans HD.out.2.1
                          have k3 := HD.out.1.trans (hB3.mono HD.out.1.size)
                          clear hb3 hB3
                          refine hK.out _ _ ?_
                          clear hK K
                          (try simp only [Act.put, List.setIfInBounds_toArray, List.set_cons_zero, List.set_cons_succ])
                          refine wpAnyIn_ready (rs := [11]) (by kernel_rfl) (by simp) ?_
                          refine AllReadyIn.cons (o := { dst := some 107, op := Op.pick (Operand.tmp 105) (Operand.tmp 106) (Operand.const (Value.bool false)), type := 4, pos := "law.go:121", after := #[{ on := 9, ground := Ground.data }, { on := 10, ground := Ground.data }], guard := none }) rfl (fun K hK0 => ?_) ?_
                          · have hK : Hid _ := hK0
                            clear hK0
                            go_simp
                            refine hK.out _ _ ?_
                            clear hK K
                            (try simp only [Act.put, List.setIfInBounds_toArray, List.set_cons_zero, List.set_cons_succ])
                            refine wpAnyIn_ready (rs := [12]) (by kernel_rfl) (by simp) ?_
                            refine AllReadyIn.cons (o := { dst := none, op := Op.store 4 (Operand.tmp 6) (Operand.tmp 107), type := 0, pos := "law.go:121", after := #[{ on := 11, ground := Ground.data }, { on := 10, ground := Ground.chain }, { on := 0, ground := Ground.phase }, { on := 1, ground := Ground.phase }, { on := 2, ground := Ground.phase }, { on := 3, ground := Ground.phase }, { on := 4, ground := Ground.phase }, { on := 5, ground := Ground.phase }, { on := 6, ground := Ground.phase }, { on := 7, ground := Ground.phase }, { on := 8, ground := Ground.phase }, { on := 9, ground := Ground.phase }, { on := 10, ground := Ground.phase }, { on := 11, ground := Ground.phase }], guard := none }) rfl (fun K hK0 => ?_) ?_
                            · have hK : Hid _ := hK0
                              clear hK0
                              go_simp
                              refine hK.out _ _ ?_
                              clear hK K
                              (try simp only [Act.put, List.setIfInBounds_toArray, List.set_cons_zero, List.set_cons_succ])
                              refine wpAnyIn_done (by kernel_rfl) ?_ _
                              have k5 : w.heap.size ≤ D := by have := HD.out.2.2; omega
                              clear c0 cs ck cx c2 f2 CU HD
                              gi_wp2
                              have hK' := (KeepsOthers.setCell w3 ⟨w.heap.size + 1 + 1, 0, none⟩ (.bool true)).same D _ k4 rfl
                              refine ⟨by simp, .inl ⟨_, _, rfl, run_takeDeferred hK', ?_⟩⟩
                              have hc5 := cell_kept (cell_s (v := .bool true) c23) (grownBy_putObj' _ D (.deferred none)) (fun r e => by cases e; exact ⟨_, hK', rfl⟩)
                              refine ⟨.bool true, ?_, rfl, (k3.setCell (p := ⟨w.heap.size + 1 + 1, 0, none⟩) (by simp; omega) _).trans (belowK_b (w := w) (Nat.le_refl _) _ D _ _ k5 hK' rfl rfl)⟩
                              simp [results, Try.f4, go_sem, hc5]
                            exact AllReadyIn.nil
                          exact AllReadyIn.nil
                        exact AllReadyIn.nil
                      exact AllReadyIn.nil
                    exact AllReadyIn.nil
                  exact AllReadyIn.nil
                exact AllReadyIn.nil
              exact AllReadyIn.nil
            refine AllReadyIn.cons (o := { dst := some 101, op := Op.load 26 (Operand.tmp 8), type := 26, pos := "law.go:121", after := #[{ on := 3, ground := Ground.guard }], guard := some (3, true) }) rfl (fun K hK0 => ?_) ?_
            · have hK : Hid _ := hK0
              clear hK0
              go_simp
              refine hK.out _ _ ?_
              clear hK K
              (try simp only [Act.put, List.setIfInBounds_toArray, List.set_cons_zero, List.set_cons_succ])
              refine wpAnyIn_ready (rs := [4, 6]) (by kernel_rfl) (by simp) ?_
              refine AllReadyIn.cons (o := { dst := some 100, op := Op.load 3 (Operand.tmp 10), type := 3, pos := "law.go:121", after := #[{ on := 3, ground := Ground.guard }], guard := some (3, true) }) rfl (fun K hK0 => ?_) ?_
              · have hK : Hid _ := hK0
                clear hK0
                go_simp
                refine hK.out _ _ ?_
                clear hK K
                (try simp only [Act.put, List.setIfInBounds_toArray, List.set_cons_zero, List.set_cons_succ])
                refine wpAnyIn_ready (rs := [6]) (by kernel_rfl) (by simp) ?_
                refine AllReadyIn.cons (o := { dst := some 102, op := Op.call { callee := Callee.value (Operand.func 15), args := #[Operand.tmp 101], argTypes := #[26] }, type := 3, pos := "law.go:121", after := #[{ on := 5, ground := Ground.data }, { on := 3, ground := Ground.chain }, { on := 3, ground := Ground.guard }], guard := some (3, true) }) rfl (fun K hK0 => ?_) ?_
                · have hK : Hid _ := hK0
                  clear hK0
                  go_simp
                  refine ⟨trivial, ?_⟩
                  refine (callsIn_wide.2 (CU _ ((IsGr.refl W).drew))).mono ?_
                  rintro e w3 ⟨rfl, e3⟩
                  obtain rfl := e3.symm
                  refine hK.out _ _ ?_
                  clear hK K
                  (try simp only [Act.put, List.setIfInBounds_toArray, List.set_cons_zero, List.set_cons_succ])
                  refine wpAnyIn_ready (rs := [7]) (by kernel_rfl) (by simp) ?_
                  refine AllReadyIn.cons (o := { dst := some 103, op := Op.binOp BinOp.eql 3 (Operand.tmp 100) (Operand.tmp 102) 3, type := 4, pos := "law.go:121", after := #[{ on := 4, ground := Ground.data }, { on := 6, ground := Ground.data }, { on := 3, ground := Ground.guard }], guard := some (3, true) }) rfl (fun K hK0 => ?_) ?_
                  · have hK : Hid _ := hK0
                    clear hK0
                    go_simp
                    refine hK.out _ _ ?_
                    clear hK K
                    (try simp only [Act.put, List.setIfInBounds_toArray, List.set_cons_zero, List.set_cons_succ])
                    refine wpAnyIn_ready (rs := [8]) (by kernel_rfl) (by simp) ?_
                    refine AllReadyIn.cons (o := { dst := some 104, op := Op.pick (Operand.tmp 99) (Operand.tmp 103) (Operand.const (Value.bool false)), type := 4, pos := "law.go:121", after := #[{ on := 3, ground := Ground.data }, { on := 7, ground := Ground.data }], guard := none }) rfl (fun K hK0 => ?_) ?_
                    · have hK : Hid _ := hK0
                      clear hK0
                      go_simp
                      refine hK.out _ _ ?_
                      clear hK K
                      (try simp only [Act.put, List.setIfInBounds_toArray, List.set_cons_zero, List.set_cons_succ])
                      refine wpAnyIn_ready (rs := [9]) (by kernel_rfl) (by simp) ?_
                      refine AllReadyIn.cons (o := { dst := some 105, op := Op.move (Operand.tmp 104), type := 4, pos := "law.go:121", after := #[{ on := 8, ground := Ground.data }, { on := 6, ground := Ground.chain }], guard := none }) rfl (fun K hK0 => ?_) ?_
                      · have hK : Hid _ := hK0
                        clear hK0
                        go_simp
                        refine hK.out _ _ ?_
                        clear hK K
                        (try simp only [Act.put, List.setIfInBounds_toArray, List.set_cons_zero, List.set_cons_succ])
                        refine wpAnyIn_ready (rs := [10]) (by kernel_rfl) (by simp) ?_
                        refine AllReadyIn.cons (o := { dst := some 106, op := Op.call { callee := Callee.value (Operand.func 7), args := #[], argTypes := #[] }, type := 4, pos := "law.go:121", after := #[{ on := 9, ground := Ground.chain }, { on := 9, ground := Ground.guard }], guard := some (9, true) }) rfl (fun K hK0 => ?_) ?_
                        · have hK : Hid _ := hK0
                          clear hK0
                          go_simp
                          refine ⟨trivial, ?_⟩
                          refine (callsIn_wide.2 (awake_any _)).mono ?_
                          rintro e w3 ⟨rfl, hb3⟩
                          have hB3 : Below W.heap.size W w3 := ((IsGr.refl W).drew).below.trans (hb3.mono (by simp))
                          have c23 := (hB3.cell (p := ⟨w.heap.size + 1 + 1, 0, none⟩) (block_lt c2)).trans c2
                          have f23 := (hB3.frozen (p := ⟨w.heap.size + 1 + 1, 0, none⟩) (block_lt c2)).trans f2
                          have k4 := (hB3.block D (Array.getElem?_eq_some_iff.1 HD.out.2.1).1).trans HD.out.2.1
                          have k3 := HD.out.1.trans (hB3.mono HD.out.1.size)
                          clear hb3 hB3
                          refine hK.out _ _ ?_
                          clear hK K
                          (try simp only [Act.put, List.setIfInBounds_toArray, List.set_cons_zero, List.set_cons_succ])
                          refine wpAnyIn_ready (rs := [11]) (by kernel_rfl) (by simp) ?_
                          refine AllReadyIn.cons (o := { dst := some 107, op := Op.pick (Operand.tmp 105) (Operand.tmp 106) (Operand.const (Value.bool false)), type := 4, pos := "law.go:121", after := #[{ on := 9, ground := Ground.data }, { on := 10, ground := Ground.data }], guard := none }) rfl (fun K hK0 => ?_) ?_
                          · have hK : Hid _ := hK0
                            clear hK0
                            go_simp
                            refine hK.out _ _ ?_
                            clear hK K
                            (try simp only [Act.put, List.setIfInBounds_toArray, List.set_cons_zero, List.set_cons_succ])
                            refine wpAnyIn_ready (rs := [12]) (by kernel_rfl) (by simp) ?_
                            refine AllReadyIn.cons (o := { dst := none, op := Op.store 4 (Operand.tmp 6) (Operand.tmp 107), type := 0, pos := "law.go:121", after := #[{ on := 11, ground := Ground.data }, { on := 10, ground := Ground.chain }, { on := 0, ground := Ground.phase }, { on := 1, ground := Ground.phase }, { on := 2, ground := Ground.phase }, { on := 3, ground := Ground.phase }, { on := 4, ground := Ground.phase }, { on := 5, ground := Ground.phase }, { on := 6, ground := Ground.phase }, { on := 7, ground := Ground.phase }, { on := 8, ground := Ground.phase }, { on := 9, ground := Ground.phase }, { on := 10, ground := Ground.phase }, { on := 11, ground := Ground.phase }], guard := none }) rfl (fun K hK0 => ?_) ?_
                            · have hK : Hid _ := hK0
                              clear hK0
                              go_simp
                              refine hK.out _ _ ?_
                              clear hK K
                              (try simp only [Act.put, List.setIfInBounds_toArray, List.set_cons_zero, List.set_cons_succ])
                              refine wpAnyIn_done (by kernel_rfl) ?_ _
                              have k5 : w.heap.size ≤ D := by have := HD.out.2.2; omega
                              clear c0 cs ck cx c2 f2 CU HD
                              gi_wp2
                              have hK' := (KeepsOthers.setCell w3 ⟨w.heap.size + 1 + 1, 0, none⟩ (.bool true)).same D _ k4 rfl
                              refine ⟨by simp, .inl ⟨_, _, rfl, run_takeDeferred hK', ?_⟩⟩
                              have hc5 := cell_kept (cell_s (v := .bool true) c23) (grownBy_putObj' _ D (.deferred none)) (fun r e => by cases e; exact ⟨_, hK', rfl⟩)
                              refine ⟨.bool true, ?_, rfl, (k3.setCell (p := ⟨w.heap.size + 1 + 1, 0, none⟩) (by simp; omega) _).trans (belowK_b (w := w) (Nat.le_refl _) _ D _ _ k5 hK' rfl rfl)⟩
                              simp [results, Try.f4, go_sem, hc5]
                            exact AllReadyIn.nil
                          exact AllReadyIn.nil
                        exact AllReadyIn.nil
                      exact AllReadyIn.nil
                    exact AllReadyIn.nil
                  exact AllReadyIn.nil
                exact AllReadyIn.nil
              refine AllReadyIn.cons (o := { dst := some 102, op := Op.call { callee := Callee.value (Operand.func 15), args := #[Operand.tmp 101], argTypes := #[26] }, type := 3, pos := "law.go:121", after := #[{ on := 5, ground := Ground.data }, { on := 3, ground := Ground.chain }, { on := 3, ground := Ground.guard }], guard := some (3, true) }) rfl (fun K hK0 => ?_) ?_
              · have hK : Hid _ := hK0
                clear hK0
                go_simp
                refine ⟨trivial, ?_⟩
                refine (callsIn_wide.2 (CU _ ((IsGr.refl W).drew))).mono ?_
                rintro e w3 ⟨rfl, e3⟩
                obtain rfl := e3.symm
                refine hK.out _ _ ?_
                clear hK K
                (try simp only [Act.put, List.setIfInBounds_toArray, List.set_cons_zero, List.set_cons_succ])
                refine wpAnyIn_ready (rs := [4]) (by kernel_rfl) (by simp) ?_
                refine AllReadyIn.cons (o := { dst := some 100, op := Op.load 3 (Operand.tmp 10), type := 3, pos := "law.go:121", after := #[{ on := 3, ground := Ground.guard }], guard := some (3, true) }) rfl (fun K hK0 => ?_) ?_
                · have hK : Hid _ := hK0
                  clear hK0
                  go_simp
                  refine hK.out _ _ ?_
                  clear hK K
                  (try simp only [Act.put, List.setIfInBounds_toArray, List.set_cons_zero, List.set_cons_succ])
                  refine wpAnyIn_ready (rs := [7]) (by kernel_rfl) (by simp) ?_
                  refine AllReadyIn.cons (o := { dst := some 103, op := Op.binOp BinOp.eql 3 (Operand.tmp 100) (Operand.tmp 102) 3, type := 4, pos := "law.go:121", after := #[{ on := 4, ground := Ground.data }, { on := 6, ground := Ground.data }, { on := 3, ground := Ground.guard }], guard := some (3, true) }) rfl (fun K hK0 => ?_) ?_
                  · have hK : Hid _ := hK0
                    clear hK0
                    go_simp
                    refine hK.out _ _ ?_
                    clear hK K
                    (try simp only [Act.put, List.setIfInBounds_toArray, List.set_cons_zero, List.set_cons_succ])
                    refine wpAnyIn_ready (rs := [8]) (by kernel_rfl) (by simp) ?_
                    refine AllReadyIn.cons (o := { dst := some 104, op := Op.pick (Operand.tmp 99) (Operand.tmp 103) (Operand.const (Value.bool false)), type := 4, pos := "law.go:121", after := #[{ on := 3, ground := Ground.data }, { on := 7, ground := Ground.data }], guard := none }) rfl (fun K hK0 => ?_) ?_
                    · have hK : Hid _ := hK0
                      clear hK0
                      go_simp
                      refine hK.out _ _ ?_
                      clear hK K
                      (try simp only [Act.put, List.setIfInBounds_toArray, List.set_cons_zero, List.set_cons_succ])
                      refine wpAnyIn_ready (rs := [9]) (by kernel_rfl) (by simp) ?_
                      refine AllReadyIn.cons (o := { dst := some 105, op := Op.move (Operand.tmp 104), type := 4, pos := "law.go:121", after := #[{ on := 8, ground := Ground.data }, { on := 6, ground := Ground.chain }], guard := none }) rfl (fun K hK0 => ?_) ?_
                      · have hK : Hid _ := hK0
                        clear hK0
                        go_simp
                        refine hK.out _ _ ?_
                        clear hK K
                        (try simp only [Act.put, List.setIfInBounds_toArray, List.set_cons_zero, List.set_cons_succ])
                        refine wpAnyIn_ready (rs := [10]) (by kernel_rfl) (by simp) ?_
                        refine AllReadyIn.cons (o := { dst := some 106, op := Op.call { callee := Callee.value (Operand.func 7), args := #[], argTypes := #[] }, type := 4, pos := "law.go:121", after := #[{ on := 9, ground := Ground.chain }, { on := 9, ground := Ground.guard }], guard := some (9, true) }) rfl (fun K hK0 => ?_) ?_
                        · have hK : Hid _ := hK0
                          clear hK0
                          go_simp
                          refine ⟨trivial, ?_⟩
                          refine (callsIn_wide.2 (awake_any _)).mono ?_
                          rintro e w3 ⟨rfl, hb3⟩
                          have hB3 : Below W.heap.size W w3 := ((IsGr.refl W).drew).below.trans (hb3.mono (by simp))
                          have c23 := (hB3.cell (p := ⟨w.heap.size + 1 + 1, 0, none⟩) (block_lt c2)).trans c2
                          have f23 := (hB3.frozen (p := ⟨w.heap.size + 1 + 1, 0, none⟩) (block_lt c2)).trans f2
                          have k4 := (hB3.block D (Array.getElem?_eq_some_iff.1 HD.out.2.1).1).trans HD.out.2.1
                          have k3 := HD.out.1.trans (hB3.mono HD.out.1.size)
                          clear hb3 hB3
                          refine hK.out _ _ ?_
                          clear hK K
                          (try simp only [Act.put, List.setIfInBounds_toArray, List.set_cons_zero, List.set_cons_succ])
                          refine wpAnyIn_ready (rs := [11]) (by kernel_rfl) (by simp) ?_
                          refine AllReadyIn.cons (o := { dst := some 107, op := Op.pick (Operand.tmp 105) (Operand.tmp 106) (Operand.const (Value.bool false)), type := 4, pos := "law.go:121", after := #[{ on := 9, ground := Ground.data }, { on := 10, ground := Ground.data }], guard := none }) rfl (fun K hK0 => ?_) ?_
                          · have hK : Hid _ := hK0
                            clear hK0
                            go_simp
                            refine hK.out _ _ ?_
                            clear hK K
                            (try simp only [Act.put, List.setIfInBounds_toArray, List.set_cons_zero, List.set_cons_succ])
                            refine wpAnyIn_ready (rs := [12]) (by kernel_rfl) (by simp) ?_
                            refine AllReadyIn.cons (o := { dst := none, op := Op.store 4 (Operand.tmp 6) (Operand.tmp 107), type := 0, pos := "law.go:121", after := #[{ on := 11, ground := Ground.data }, { on := 10, ground := Ground.chain }, { on := 0, ground := Ground.phase }, { on := 1, ground := Ground.phase }, { on := 2, ground := Ground.phase }, { on := 3, ground := Ground.phase }, { on := 4, ground := Ground.phase }, { on := 5, ground := Ground.phase }, { on := 6, ground := Ground.phase }, { on := 7, ground := Ground.phase }, { on := 8, ground := Ground.phase }, { on := 9, ground := Ground.phase }, { on := 10, ground := Ground.phase }, { on := 11, ground := Ground.phase }], guard := none }) rfl (fun K hK0 => ?_) ?_
                            · have hK : Hid _ := hK0
                              clear hK0
                              go_simp
                              refine hK.out _ _ ?_
                              clear hK K
                              (try simp only [Act.put, List.setIfInBounds_toArray, List.set_cons_zero, List.set_cons_succ])
                              refine wpAnyIn_done (by kernel_rfl) ?_ _
                              have k5 : w.heap.size ≤ D := by have := HD.out.2.2; omega
                              clear c0 cs ck cx c2 f2 CU HD
                              gi_wp2
                              have hK' := (KeepsOthers.setCell w3 ⟨w.heap.size + 1 + 1, 0, none⟩ (.bool true)).same D _ k4 rfl
                              refine ⟨by simp, .inl ⟨_, _, rfl, run_takeDeferred hK', ?_⟩⟩
                              have hc5 := cell_kept (cell_s (v := .bool true) c23) (grownBy_putObj' _ D (.deferred none)) (fun r e => by cases e; exact ⟨_, hK', rfl⟩)
                              refine ⟨.bool true, ?_, rfl, (k3.setCell (p := ⟨w.heap.size + 1 + 1, 0, none⟩) (by simp; omega) _).trans (belowK_b (w := w) (Nat.le_refl _) _ D _ _ k5 hK' rfl rfl)⟩
                              simp [results, Try.f4, go_sem, hc5]
                            exact AllReadyIn.nil
                          exact AllReadyIn.nil
                        exact AllReadyIn.nil
                      exact AllReadyIn.nil
                    exact AllReadyIn.nil
                  exact AllReadyIn.nil
                exact AllReadyIn.nil
              exact AllReadyIn.nil
            exact AllReadyIn.nil
          exact AllReadyIn.nil
        exact AllReadyIn.nil
      exact AllReadyIn.nil
    refine AllReadyIn.cons (o := { dst := some 97, op := Op.load 3 (Operand.tmp 3), type := 3, pos := "law.go:121", after := #[], guard := none }) rfl (fun K hK0 => ?_) ?_
    · have hK : Hid _ := hK0
      clear hK0
      go_simp
      refine hK.out _ _ ?_
      clear hK K
      (try simp only [Act.put, List.setIfInBounds_toArray, List.set_cons_zero, List.set_cons_succ])
      refine wpAnyIn_ready (rs := [0]) (by kernel_rfl) (by simp) ?_
      refine AllReadyIn.cons (o := { dst := some 96, op := Op.load 3 (Operand.tmp 9), type := 3, pos := "law.go:121", after := #[], guard := none }) rfl (fun K hK0 => ?_) ?_
      · have hK : Hid _ := hK0
        clear hK0
        go_simp
        refine hK.out _ _ ?_
        clear hK K
        (try simp only [Act.put, List.setIfInBounds_toArray, List.set_cons_zero, List.set_cons_succ])
        refine wpAnyIn_ready (rs := [2]) (by kernel_rfl) (by simp) ?_
        refine AllReadyIn.cons (o := { dst := some 98, op := Op.binOp BinOp.eql 3 (Operand.tmp 96) (Operand.tmp 97) 3, type := 4, pos := "law.go:121", after := #[{ on := 0, ground := Ground.data }, { on := 1, ground := Ground.data }], guard := none }) rfl (fun K hK0 => ?_) ?_
        · have hK : Hid _ := hK0
          clear hK0
          go_simp
          refine hK.out _ _ ?_
          clear hK K
          (try simp only [Act.put, List.setIfInBounds_toArray, List.set_cons_zero, List.set_cons_succ])
          refine wpAnyIn_ready (rs := [3]) (by kernel_rfl) (by simp) ?_
          refine AllReadyIn.cons (o := { dst := some 99, op := Op.move (Operand.tmp 98), type := 4, pos := "law.go:121", after := #[{ on := 2, ground := Ground.data }], guard := none }) rfl (fun K hK0 => ?_) ?_
          · have hK : Hid _ := hK0
            clear hK0
            go_simp
            refine hK.out _ _ ?_
            clear hK K
            (try simp only [Act.put, List.setIfInBounds_toArray, List.set_cons_zero, List.set_cons_succ])
            refine wpAnyIn_ready (rs := [4, 5]) (by kernel_rfl) (by simp) ?_
            refine AllReadyIn.cons (o := { dst := some 100, op := Op.load 3 (Operand.tmp 10), type := 3, pos := "law.go:121", after := #[{ on := 3, ground := Ground.guard }], guard := some (3, true) }) rfl (fun K hK0 => ?_) ?_
            · have hK : Hid _ := hK0
              clear hK0
              go_simp
              refine hK.out _ _ ?_
              clear hK K
              (try simp only [Act.put, List.setIfInBounds_toArray, List.set_cons_zero, List.set_cons_succ])
              refine wpAnyIn_ready (rs := [5]) (by kernel_rfl) (by simp) ?_
              refine AllReadyIn.cons (o := { dst := some 101, op := Op.load 26 (Operand.tmp 8), type := 26, pos := "law.go:121", after := #[{ on := 3, ground := Ground.guard }], guard := some (3, true) }) rfl (fun K hK0 => ?_) ?_
              · have hK : Hid _ := hK0
                clear hK0
                go_simp
                refine hK.out _ _ ?_
                clear hK K
                (try simp only [Act.put, List.setIfInBounds_toArray, List.set_cons_zero, List.set_cons_succ])
                refine wpAnyIn_ready (rs := [6]) (by kernel_rfl) (by simp) ?_
                refine AllReadyIn.cons (o := { dst := some 102, op := Op.call { callee := Callee.value (Operand.func 15), args := #[Operand.tmp 101], argTypes := #[26] }, type := 3, pos := "law.go:121", after := #[{ on := 5, ground := Ground.data }, { on := 3, ground := Ground.chain }, { on := 3, ground := Ground.guard }], guard := some (3, true) }) rfl (fun K hK0 => ?_) ?_
                · have hK : Hid _ := hK0
                  clear hK0
                  go_simp
                  refine ⟨trivial, ?_⟩
                  refine (callsIn_wide.2 (CU _ ((IsGr.refl W).drew))).mono ?_
                  rintro e w3 ⟨rfl, e3⟩
                  obtain rfl := e3.symm
                  refine hK.out _ _ ?_
                  clear hK K
                  (try simp only [Act.put, List.setIfInBounds_toArray, List.set_cons_zero, List.set_cons_succ])
                  refine wpAnyIn_ready (rs := [7]) (by kernel_rfl) (by simp) ?_
                  refine AllReadyIn.cons (o := { dst := some 103, op := Op.binOp BinOp.eql 3 (Operand.tmp 100) (Operand.tmp 102) 3, type := 4, pos := "law.go:121", after := #[{ on := 4, ground := Ground.data }, { on := 6, ground := Ground.data }, { on := 3, ground := Ground.guard }], guard := some (3, true) }) rfl (fun K hK0 => ?_) ?_
                  · have hK : Hid _ := hK0
                    clear hK0
                    go_simp
                    refine hK.out _ _ ?_
                    clear hK K
                    (try simp only [Act.put, List.setIfInBounds_toArray, List.set_cons_zero, List.set_cons_succ])
                    refine wpAnyIn_ready (rs := [8]) (by kernel_rfl) (by simp) ?_
                    refine AllReadyIn.cons (o := { dst := some 104, op := Op.pick (Operand.tmp 99) (Operand.tmp 103) (Operand.const (Value.bool false)), type := 4, pos := "law.go:121", after := #[{ on := 3, ground := Ground.data }, { on := 7, ground := Ground.data }], guard := none }) rfl (fun K hK0 => ?_) ?_
                    · have hK : Hid _ := hK0
                      clear hK0
                      go_simp
                      refine hK.out _ _ ?_
                      clear hK K
                      (try simp only [Act.put, List.setIfInBounds_toArray, List.set_cons_zero, List.set_cons_succ])
                      refine wpAnyIn_ready (rs := [9]) (by kernel_rfl) (by simp) ?_
                      refine AllReadyIn.cons (o := { dst := some 105, op := Op.move (Operand.tmp 104), type := 4, pos := "law.go:121", after := #[{ on := 8, ground := Ground.data }, { on := 6, ground := Ground.chain }], guard := none }) rfl (fun K hK0 => ?_) ?_
                      · have hK : Hid _ := hK0
                        clear hK0
                        go_simp
                        refine hK.out _ _ ?_
                        clear hK K
                        (try simp only [Act.put, List.setIfInBounds_toArray, List.set_cons_zero, List.set_cons_succ])
                        refine wpAnyIn_ready (rs := [10]) (by kernel_rfl) (by simp) ?_
                        refine AllReadyIn.cons (o := { dst := some 106, op := Op.call { callee := Callee.value (Operand.func 7), args := #[], argTypes := #[] }, type := 4, pos := "law.go:121", after := #[{ on := 9, ground := Ground.chain }, { on := 9, ground := Ground.guard }], guard := some (9, true) }) rfl (fun K hK0 => ?_) ?_
                        · have hK : Hid _ := hK0
                          clear hK0
                          go_simp
                          refine ⟨trivial, ?_⟩
                          refine (callsIn_wide.2 (awake_any _)).mono ?_
                          rintro e w3 ⟨rfl, hb3⟩
                          have hB3 : Below W.heap.size W w3 := ((IsGr.refl W).drew).below.trans (hb3.mono (by simp))
                          have c23 := (hB3.cell (p := ⟨w.heap.size + 1 + 1, 0, none⟩) (block_lt c2)).trans c2
                          have f23 := (hB3.frozen (p := ⟨w.heap.size + 1 + 1, 0, none⟩) (block_lt c2)).trans f2
                          have k4 := (hB3.block D (Array.getElem?_eq_some_iff.1 HD.out.2.1).1).trans HD.out.2.1
                          have k3 := HD.out.1.trans (hB3.mono HD.out.1.size)
                          clear hb3 hB3
                          refine hK.out _ _ ?_
                          clear hK K
                          (try simp only [Act.put, List.setIfInBounds_toArray, List.set_cons_zero, List.set_cons_succ])
                          refine wpAnyIn_ready (rs := [11]) (by kernel_rfl) (by simp) ?_
                          refine AllReadyIn.cons (o := { dst := some 107, op := Op.pick (Operand.tmp 105) (Operand.tmp 106) (Operand.const (Value.bool false)), type := 4, pos := "law.go:121", after := #[{ on := 9, ground := Ground.data }, { on := 10, ground := Ground.data }], guard := none }) rfl (fun K hK0 => ?_) ?_
                          · have hK : Hid _ := hK0
                            clear hK0
                            go_simp
                            refine hK.out _ _ ?_
                            clear hK K
                            (try simp only [Act.put, List.setIfInBounds_toArray, List.set_cons_zero, List.set_cons_succ])
                            refine wpAnyIn_ready (rs := [12]) (by kernel_rfl) (by simp) ?_
                            refine AllReadyIn.cons (o := { dst := none, op := Op.store 4 (Operand.tmp 6) (Operand.tmp 107), type := 0, pos := "law.go:121", after := #[{ on := 11, ground := Ground.data }, { on := 10, ground := Ground.chain }, { on := 0, ground := Ground.phase }, { on := 1, ground := Ground.phase }, { on := 2, ground := Ground.phase }, { on := 3, ground := Ground.phase }, { on := 4, ground := Ground.phase }, { on := 5, ground := Ground.phase }, { on := 6, ground := Ground.phase }, { on := 7, ground := Ground.phase }, { on := 8, ground := Ground.phase }, { on := 9, ground := Ground.phase }, { on := 10, ground := Ground.phase }, { on := 11, ground := Ground.phase }], guard := none }) rfl (fun K hK0 => ?_) ?_
                            · have hK : Hid _ := hK0
                              clear hK0
                              go_simp
                              refine hK.out _ _ ?_
                              clear hK K
                              (try simp only [Act.put, List.setIfInBounds_toArray, List.set_cons_zero, List.set_cons_succ])
                              refine wpAnyIn_done (by kernel_rfl) ?_ _
                              have k5 : w.heap.size ≤ D := by have := HD.out.2.2; omega
                              clear c0 cs ck cx c2 f2 CU HD
                              gi_wp2
                              have hK' := (KeepsOthers.setCell w3 ⟨w.heap.size + 1 + 1, 0, none⟩ (.bool true)).same D _ k4 rfl
                              refine ⟨by simp, .inl ⟨_, _, rfl, run_takeDeferred hK', ?_⟩⟩
                              have hc5 := cell_kept (cell_s (v := .bool true) c23) (grownBy_putObj' _ D (.deferred none)) (fun r e => by cases e; exact ⟨_, hK', rfl⟩)
                              refine ⟨.bool true, ?_, rfl, (k3.setCell (p := ⟨w.heap.size + 1 + 1, 0, none⟩) (by simp; omega) _).trans (belowK_b (w := w) (Nat.le_refl _) _ D _ _ k5 hK' rfl rfl)⟩
                              simp [results, Try.f4, go_sem, hc5]
                            exact AllReadyIn.nil
                          exact AllReadyIn.nil
                        exact AllReadyIn.nil
                      exact AllReadyIn.nil
                    exact AllReadyIn.nil
                  exact AllReadyIn.nil
                exact AllReadyIn.nil
              exact AllReadyIn.nil
            refine AllReadyIn.cons (o := { dst := some 101, op := Op.load 26 (Operand.tmp 8), type := 26, pos := "law.go:121", after := #[{ on := 3, ground := Ground.guard }], guard := some (3, true) }) rfl (fun K hK0 => ?_) ?_
            · have hK : Hid _ := hK0
              clear hK0
              go_simp
              refine hK.out _ _ ?_
              clear hK K
              (try simp only [Act.put, List.setIfInBounds_toArray, List.set_cons_zero, List.set_cons_succ])
              refine wpAnyIn_ready (rs := [4, 6]) (by kernel_rfl) (by simp) ?_
              refine AllReadyIn.cons (o := { dst := some 100, op := Op.load 3 (Operand.tmp 10), type := 3, pos := "law.go:121", after := #[{ on := 3, ground := Ground.guard }], guard := some (3, true) }) rfl (fun K hK0 => ?_) ?_
              · have hK : Hid _ := hK0
                clear hK0
                go_simp
                refine hK.out _ _ ?_
                clear hK K
                (try simp only [Act.put, List.setIfInBounds_toArray, List.set_cons_zero, List.set_cons_succ])
                refine wpAnyIn_ready (rs := [6]) (by kernel_rfl) (by simp) ?_
                refine AllReadyIn.cons (o := { dst := some 102, op := Op.call { callee := Callee.value (Operand.func 15), args := #[Operand.tmp 101], argTypes := #[26] }, type := 3, pos := "law.go:121", after := #[{ on := 5, ground := Ground.data }, { on := 3, ground := Ground.chain }, { on := 3, ground := Ground.guard }], guard := some (3, true) }) rfl (fun K hK0 => ?_) ?_
                · have hK : Hid _ := hK0
                  clear hK0
                  go_simp
                  refine ⟨trivial, ?_⟩
                  refine (callsIn_wide.2 (CU _ ((IsGr.refl W).drew))).mono ?_
                  rintro e w3 ⟨rfl, e3⟩
                  obtain rfl := e3.symm
                  refine hK.out _ _ ?_
                  clear hK K
                  (try simp only [Act.put, List.setIfInBounds_toArray, List.set_cons_zero, List.set_cons_succ])
                  refine wpAnyIn_ready (rs := [7]) (by kernel_rfl) (by simp) ?_
                  refine AllReadyIn.cons (o := { dst := some 103, op := Op.binOp BinOp.eql 3 (Operand.tmp 100) (Operand.tmp 102) 3, type := 4, pos := "law.go:121", after := #[{ on := 4, ground := Ground.data }, { on := 6, ground := Ground.data }, { on := 3, ground := Ground.guard }], guard := some (3, true) }) rfl (fun K hK0 => ?_) ?_
                  · have hK : Hid _ := hK0
                    clear hK0
                    go_simp
                    refine hK.out _ _ ?_
                    clear hK K
                    (try simp only [Act.put, List.setIfInBounds_toArray, List.set_cons_zero, List.set_cons_succ])
                    refine wpAnyIn_ready (rs := [8]) (by kernel_rfl) (by simp) ?_
                    refine AllReadyIn.cons (o := { dst := some 104, op := Op.pick (Operand.tmp 99) (Operand.tmp 103) (Operand.const (Value.bool false)), type := 4, pos := "law.go:121", after := #[{ on := 3, ground := Ground.data }, { on := 7, ground := Ground.data }], guard := none }) rfl (fun K hK0 => ?_) ?_
                    · have hK : Hid _ := hK0
                      clear hK0
                      go_simp
                      refine hK.out _ _ ?_
                      clear hK K
                      (try simp only [Act.put, List.setIfInBounds_toArray, List.set_cons_zero, List.set_cons_succ])
                      refine wpAnyIn_ready (rs := [9]) (by kernel_rfl) (by simp) ?_
                      refine AllReadyIn.cons (o := { dst := some 105, op := Op.move (Operand.tmp 104), type := 4, pos := "law.go:121", after := #[{ on := 8, ground := Ground.data }, { on := 6, ground := Ground.chain }], guard := none }) rfl (fun K hK0 => ?_) ?_
                      · have hK : Hid _ := hK0
                        clear hK0
                        go_simp
                        refine hK.out _ _ ?_
                        clear hK K
                        (try simp only [Act.put, List.setIfInBounds_toArray, List.set_cons_zero, List.set_cons_succ])
                        refine wpAnyIn_ready (rs := [10]) (by kernel_rfl) (by simp) ?_
                        refine AllReadyIn.cons (o := { dst := some 106, op := Op.call { callee := Callee.value (Operand.func 7), args := #[], argTypes := #[] }, type := 4, pos := "law.go:121", after := #[{ on := 9, ground := Ground.chain }, { on := 9, ground := Ground.guard }], guard := some (9, true) }) rfl (fun K hK0 => ?_) ?_
                        · have hK : Hid _ := hK0
                          clear hK0
                          go_simp
                          refine ⟨trivial, ?_⟩
                          refine (callsIn_wide.2 (awake_any _)).mono ?_
                          rintro e w3 ⟨rfl, hb3⟩
                          have hB3 : Below W.heap.size W w3 := ((IsGr.refl W).drew).below.trans (hb3.mono (by simp))
                          have c23 := (hB3.cell (p := ⟨w.heap.size + 1 + 1, 0, none⟩) (block_lt c2)).trans c2
                          have f23 := (hB3.frozen (p := ⟨w.heap.size + 1 + 1, 0, none⟩) (block_lt c2)).trans f2
                          have k4 := (hB3.block D (Array.getElem?_eq_some_iff.1 HD.out.2.1).1).trans HD.out.2.1
                          have k3 := HD.out.1.trans (hB3.mono HD.out.1.size)
                          clear hb3 hB3
                          refine hK.out _ _ ?_
                          clear hK K
                          (try simp only [Act.put, List.setIfInBounds_toArray, List.set_cons_zero, List.set_cons_succ])
                          refine wpAnyIn_ready (rs := [11]) (by kernel_rfl) (by simp) ?_
                          refine AllReadyIn.cons (o := { dst := some 107, op := Op.pick (Operand.tmp 105) (Operand.tmp 106) (Operand.const (Value.bool false)), type := 4, pos := "law.go:121", after := #[{ on := 9, ground := Ground.data }, { on := 10, ground := Ground.data }], guard := none }) rfl (fun K hK0 => ?_) ?_
                          · have hK : Hid _ := hK0
                            clear hK0
                            go_simp
                            refine hK.out _ _ ?_
                            clear hK K
                            (try simp only [Act.put, List.setIfInBounds_toArray, List.set_cons_zero, List.set_cons_succ])
                            refine wpAnyIn_ready (rs := [12]) (by kernel_rfl) (by simp) ?_
                            refine AllReadyIn.cons (o := { dst := none, op := Op.store 4 (Operand.tmp 6) (Operand.tmp 107), type := 0, pos := "law.go:121", after := #[{ on := 11, ground := Ground.data }, { on := 10, ground := Ground.chain }, { on := 0, ground := Ground.phase }, { on := 1, ground := Ground.phase }, { on := 2, ground := Ground.phase }, { on := 3, ground := Ground.phase }, { on := 4, ground := Ground.phase }, { on := 5, ground := Ground.phase }, { on := 6, ground := Ground.phase }, { on := 7, ground := Ground.phase }, { on := 8, ground := Ground.phase }, { on := 9, ground := Ground.phase }, { on := 10, ground := Ground.phase }, { on := 11, ground := Ground.phase }], guard := none }) rfl (fun K hK0 => ?_) ?_
                            · have hK : Hid _ := hK0
                              clear hK0
                              go_simp
                              refine hK.out _ _ ?_
                              clear hK K
                              (try simp only [Act.put, List.setIfInBounds_toArray, List.set_cons_zero, List.set_cons_succ])
                              refine wpAnyIn_done (by kernel_rfl) ?_ _
                              have k5 : w.heap.size ≤ D := by have := HD.out.2.2; omega
                              clear c0 cs ck cx c2 f2 CU HD
                              gi_wp2
                              have hK' := (KeepsOthers.setCell w3 ⟨w.heap.size + 1 + 1, 0, none⟩ (.bool true)).same D _ k4 rfl
                              refine ⟨by simp, .inl ⟨_, _, rfl, run_takeDeferred hK', ?_⟩⟩
                              have hc5 := cell_kept (cell_s (v := .bool true) c23) (grownBy_putObj' _ D (.deferred none)) (fun r e => by cases e; exact ⟨_, hK', rfl⟩)
                              refine ⟨.bool true, ?_, rfl, (k3.setCell (p := ⟨w.heap.size + 1 + 1, 0, none⟩) (by simp; omega) _).trans (belowK_b (w := w) (Nat.le_refl _) _ D _ _ k5 hK' rfl rfl)⟩
                              simp [results, Try.f4, go_sem, hc5]
                            exact AllReadyIn.nil
                          exact AllReadyIn.nil
                        exact AllReadyIn.nil
                      exact AllReadyIn.nil
                    exact AllReadyIn.nil
                  exact AllReadyIn.nil
                exact AllReadyIn.nil
              refine AllReadyIn.cons (o := { dst := some 102, op := Op.call { callee := Callee.value (Operand.func 15), args := #[Operand.tmp 101], argTypes := #[26] }, type := 3, pos := "law.go:121", after := #[{ on := 5, ground := Ground.data }, { on := 3, ground := Ground.chain }, { on := 3, ground := Ground.guard }], guard := some (3, true) }) rfl (fun K hK0 => ?_) ?_
              · have hK : Hid _ := hK0
                clear hK0
                go_simp
                refine ⟨trivial, ?_⟩
                refine (callsIn_wide.2 (CU _ ((IsGr.refl W).drew))).mono ?_
                rintro e w3 ⟨rfl, e3⟩
                obtain rfl := e3.symm
                refine hK.out _ _ ?_
                clear hK K
                (try simp only [Act.put, List.setIfInBounds_toArray, List.set_cons_zero, List.set_cons_succ])
                refine wpAnyIn_ready (rs := [4]) (by kernel_rfl) (by simp) ?_
                refine AllReadyIn.cons (o := { dst := some 100, op := Op.load 3 (Operand.tmp 10), type := 3, pos := "law.go:121", after := #[{ on := 3, ground := Ground.guard }], guard := some (3, true) }) rfl (fun K hK0 => ?_) ?_
                · have hK : Hid _ := hK0
                  clear hK0
                  go_simp
                  refine hK.out _ _ ?_
                  clear hK K
                  (try simp only [Act.put, List.setIfInBounds_toArray, List.set_cons_zero, List.set_cons_succ])
                  refine wpAnyIn_ready (rs := [7]) (by kernel_rfl) (by simp) ?_
                  refine AllReadyIn.cons (o := { dst := some 103, op := Op.binOp BinOp.eql 3 (Operand.tmp 100) (Operand.tmp 102) 3, type := 4, pos := "law.go:121", after := #[{ on := 4, ground := Ground.data }, { on := 6, ground := Ground.data }, { on := 3, ground := Ground.guard }], guard := some (3, true) }) rfl (fun K hK0 => ?_) ?_
                  · have hK : Hid _ := hK0
                    clear hK0
                    go_simp
                    refine hK.out _ _ ?_
                    clear hK K
                    (try simp only [Act.put, List.setIfInBounds_toArray, List.set_cons_zero, List.set_cons_succ])
                    refine wpAnyIn_ready (rs := [8]) (by kernel_rfl) (by simp) ?_
                    refine AllReadyIn.cons (o := { dst := some 104, op := Op.pick (Operand.tmp 99) (Operand.tmp 103) (Operand.const (Value.bool false)), type := 4, pos := "law.go:121", after := #[{ on := 3, ground := Ground.data }, { on := 7, ground := Ground.data }], guard := none }) rfl (fun K hK0 => ?_) ?_
                    · have hK : Hid _ := hK0
                      clear hK0
                      go_simp
                      refine hK.out _ _ ?_
                      clear hK K
                      (try simp only [Act.put, List.setIfInBounds_toArray, List.set_cons_zero, List.set_cons_succ])
                      refine wpAnyIn_ready (rs := [9]) (by kernel_rfl) (by simp) ?_
                      refine AllReadyIn.cons (o := { dst := some 105, op := Op.move (Operand.tmp 104), type := 4, pos := "law.go:121", after := #[{ on := 8, ground := Ground.data }, { on := 6, ground := Ground.chain }], guard := none }) rfl (fun K hK0 => ?_) ?_
                      · have hK : Hid _ := hK0
                        clear hK0
                        go_simp
                        refine hK.out _ _ ?_
                        clear hK K
                        (try simp only [Act.put, List.setIfInBounds_toArray, List.set_cons_zero, List.set_cons_succ])
                        refine wpAnyIn_ready (rs := [10]) (by kernel_rfl) (by simp) ?_
                        refine AllReadyIn.cons (o := { dst := some 106, op := Op.call { callee := Callee.value (Operand.func 7), args := #[], argTypes := #[] }, type := 4, pos := "law.go:121", after := #[{ on := 9, ground := Ground.chain }, { on := 9, ground := Ground.guard }], guard := some (9, true) }) rfl (fun K hK0 => ?_) ?_
                        · have hK : Hid _ := hK0
                          clear hK0
                          go_simp
                          refine ⟨trivial, ?_⟩
                          refine (callsIn_wide.2 (awake_any _)).mono ?_
                          rintro e w3 ⟨rfl, hb3⟩
                          have hB3 : Below W.heap.size W w3 := ((IsGr.refl W).drew).below.trans (hb3.mono (by simp))
                          have c23 := (hB3.cell (p := ⟨w.heap.size + 1 + 1, 0, none⟩) (block_lt c2)).trans c2
                          have f23 := (hB3.frozen (p := ⟨w.heap.size + 1 + 1, 0, none⟩) (block_lt c2)).trans f2
                          have k4 := (hB3.block D (Array.getElem?_eq_some_iff.1 HD.out.2.1).1).trans HD.out.2.1
                          have k3 := HD.out.1.trans (hB3.mono HD.out.1.size)
                          clear hb3 hB3
                          refine hK.out _ _ ?_
                          clear hK K
                          (try simp only [Act.put, List.setIfInBounds_toArray, List.set_cons_zero, List.set_cons_succ])
                          refine wpAnyIn_ready (rs := [11]) (by kernel_rfl) (by simp) ?_
                          refine AllReadyIn.cons (o := { dst := some 107, op := Op.pick (Operand.tmp 105) (Operand.tmp 106) (Operand.const (Value.bool false)), type := 4, pos := "law.go:121", after := #[{ on := 9, ground := Ground.data }, { on := 10, ground := Ground.data }], guard := none }) rfl (fun K hK0 => ?_) ?_
                          · have hK : Hid _ := hK0
                            clear hK0
                            go_simp
                            refine hK.out _ _ ?_
                            clear hK K
                            (try simp only [Act.put, List.setIfInBounds_toArray, List.set_cons_zero, List.set_cons_succ])
                            refine wpAnyIn_ready (rs := [12]) (by kernel_rfl) (by simp) ?_
                            refine AllReadyIn.cons (o := { dst := none, op := Op.store 4 (Operand.tmp 6) (Operand.tmp 107), type := 0, pos := "law.go:121", after := #[{ on := 11, ground := Ground.data }, { on := 10, ground := Ground.chain }, { on := 0, ground := Ground.phase }, { on := 1, ground := Ground.phase }, { on := 2, ground := Ground.phase }, { on := 3, ground := Ground.phase }, { on := 4, ground := Ground.phase }, { on := 5, ground := Ground.phase }, { on := 6, ground := Ground.phase }, { on := 7, ground := Ground.phase }, { on := 8, ground := Ground.phase }, { on := 9, ground := Ground.phase }, { on := 10, ground := Ground.phase }, { on := 11, ground := Ground.phase }], guard := none }) rfl (fun K hK0 => ?_) ?_
                            · have hK : Hid _ := hK0
                              clear hK0
                              go_simp
                              refine hK.out _ _ ?_
                              clear hK K
                              (try simp only [Act.put, List.setIfInBounds_toArray, List.set_cons_zero, List.set_cons_succ])
                              refine wpAnyIn_done (by kernel_rfl) ?_ _
                              have k5 : w.heap.size ≤ D := by have := HD.out.2.2; omega
                              clear c0 cs ck cx c2 f2 CU HD
                              gi_wp2
                              have hK' := (KeepsOthers.setCell w3 ⟨w.heap.size + 1 + 1, 0, none⟩ (.bool true)).same D _ k4 rfl
                              refine ⟨by simp, .inl ⟨_, _, rfl, run_takeDeferred hK', ?_⟩⟩
                              have hc5 := cell_kept (cell_s (v := .bool true) c23) (grownBy_putObj' _ D (.deferred none)) (fun r e => by cases e; exact ⟨_, hK', rfl⟩)
                              refine ⟨.bool true, ?_, rfl, (k3.setCell (p := ⟨w.heap.size + 1 + 1, 0, none⟩) (by simp; omega) _).trans (belowK_b (w := w) (Nat.le_refl _) _ D _ _ k5 hK' rfl rfl)⟩
                              simp [results, Try.f4, go_sem, hc5]
                            exact AllReadyIn.nil
                          exact AllReadyIn.nil
                        exact AllReadyIn.nil
                      exact AllReadyIn.nil
                    exact AllReadyIn.nil
                  exact AllReadyIn.nil
                exact AllReadyIn.nil
              exact AllReadyIn.nil
            exact AllReadyIn.nil
          exact AllReadyIn.nil
        exact AllReadyIn.nil
      exact AllReadyIn.nil
    exact AllReadyIn.nil

  case body =>
    rintro lq pre v W ⟨z, hV, hz⟩ ⟨hpl, hlv⟩ hWs
    clear hI5 hU5 hBt hs5 hlo
    obtain ⟨l0, hl0⟩ := cnt_least x x.length (Nat.le_refl _) (show pre.length < cntU x x.length by omega)
    have hok := grp_ok HX.out.2.2.1 hl0
    have htot : tots (nums x) x.length (pre.length + 1) = tots (nums x) x.length pre.length + (grp (nums x) (pre.length : Nat) x.length).length := rfl
    have htn : tots (nums x) x.length (pre.length + 1) ≤ n := by
      have h1 := tots_mono (nums x) x.length (show pre.length + 1 ≤ cntU x x.length by omega)
      rw [tots_nums HX.out.2.2.1] at h1
      have := HX.out
      omega
    have hlt : z < l0 := hz.lt hl0 (by omega)
    obtain ⟨L, hL⟩ : ∃ L, grp (nums x) (pre.length : Nat) x.length = L := ⟨_, rfl⟩
    rw [hL] at hok hlv htot
    obtain ⟨ar, kr, hv, hfr⟩ := hlv.form
    rw [hv] at hlv ⊢
    clear hv hL
    obtain ⟨gr, rfl, hgr, hgr2⟩ : ∃ gr, ar = some ⟨gr, 0, none⟩ ∧ w5.heap.size + 2 ≤ gr ∧ gr < W.heap.size := by
      rcases hfr with h0 | ⟨gr, e, h1, h2, _⟩
      · have := hok.pos; rw [h0] at this; simp at this
      · exact ⟨gr, e, h1, h2⟩
    obtain ⟨kk, hkk⟩ : ∃ kk, L.length = kk := ⟨_, rfl⟩
    rw [hkk] at hlv htot ⊢
    have hkp : 0 < kk := hkk ▸ hok.pos
    obtain ⟨s, hs⟩ : ∃ s, tots (nums x) x.length pre.length = s := ⟨_, rfl⟩
    rw [hs] at hV htot
    obtain ⟨k, hk⟩ : ∃ k, pre.length = k := ⟨_, rfl⟩
    have HF : Hid (pre.length = k ∧ tots (nums x) x.length (k + 1) = s + kk ∧ LeAt x k l0 ∧ GrpOk x l0 L ∧ L.length = kk ∧ s + kk ≤ n ∧ k < Nc) := ⟨hk, by rw [← hk]; exact htot, hk ▸ hl0, hok, hkk, by omega, by omega⟩
    rw [hk] at hV
    have HV : Hid (LuV w w1.heap.size n stop x (.slice sa n sc) s k z W ∧ w5.heap.size + 1 < W.heap.size) := ⟨hV, hWs⟩
    have HVs : Hid (w5.heap.size + 1 < W.heap.size) := hWs
    have HL : Hid (Lst W (w5.heap.size + 2) (.slice (some ⟨gr, 0, none⟩) kk kr) L) := hlv
    have cl := hV.cl
    have cg := (hlv.at (i := 0) hkp).1
    rw [hok.first] at cg
    have z0 : ((kk : Int) == 0) = false := by simp; omega
    have hkp' : (0 : Int) < kk := by omega
    have hlt' : ¬ (l0 : Int) ≤ z := by omega
    have hlt2 : decide ((l0 : Int) ≤ z) = false := decide_eq_false hlt'
    clear hV hlv hWs hpl hz hl0 hok htot htn hlt hfr hgr hgr2 hkk hs hk
    gi_upto_region 9 with fail
    obtain ⟨C, hin, hcl, hcells, hgr⟩ : ∃ C : World → Prop, (∀ w', IsGr W w' → C w') ∧ (∀ u u', C u → IsGr u u' → C u') ∧ (∀ w', C w' → (w'.cell? ⟨gr, 0, none⟩ = some (.int .i64 l0)) ∧ (w'.cell? ⟨w1.heap.size + 1 + 1 + 1, 0, none⟩ = some (.int .i64 z))) ∧ (∀ w', C w' → IsGr W w') := ⟨fun w' => IsGr W w', fun _ h => h, fun _ _ h k => h.trans k, fun w' hg => ⟨cellk cg hg, cellk cl hg⟩, fun _ h => h⟩
    refine wpIn_region_held (S := C) (by kernel_rfl) (by kernel_rfl) (fun ⟨_, _, h⟩ => h) (by (try dsimp only); exact hin _ (by with_reducible repeat (first | exact IsGr.refl _ | refine IsGr.gr ?_ _ _ | refine IsGr.alloc ?_ _ | refine IsGr.drew ?_ | refine IsGr.drewN ?_ _))) (fun hHeld => ?_)
    refine wpAnyH_take (i := 0) (oi := { dst := some 38, op := Op.move (Operand.tmp 12), type := 26, pos := "law.go:107", after := #[], guard := none }) (v := ?_) rfl (by kernel_rfl) (by kernel_rfl) (by kernel_rfl) (fun _ _ _ h => h) (Or.inl ⟨by rfl, ?_⟩) (by assumption) ?_
    rotate_left
    · (intro w hSw; (try dsimp only at hSw); (try have hcs := hcells w hSw); (try go_split_ands); go_simp <;> with_reducible rfl)
    (try simp only [Act.put, List.setIfInBounds_toArray, List.set_cons_zero, List.set_cons_succ])
    refine wpAnyH_take (i := 1) (oi := { dst := some 39, op := Op.call { callee := Callee.builtin Builtin.len, args := #[Operand.tmp 38], argTypes := #[26] }, type := 3, pos := "law.go:107", after := #[{ on := 0, ground := Ground.data }], guard := none }) (v := ?_) rfl (by kernel_rfl) (by kernel_rfl) (by kernel_rfl) (fun _ _ _ h => h) (Or.inl ⟨by rfl, ?_⟩) (by assumption) ?_
    rotate_left
    · (intro w hSw; (try dsimp only at hSw); (try have hcs := hcells w hSw); (try go_split_ands); go_simp <;> with_reducible rfl)
    (try simp only [Act.put, List.setIfInBounds_toArray, List.set_cons_zero, List.set_cons_succ])
    refine wpAnyH_take (i := 2) (oi := { dst := some 40, op := Op.binOp BinOp.eql 3 (Operand.tmp 39) (Operand.const (Value.int IntKind.i64 0)) 3, type := 4, pos := "law.go:107", after := #[{ on := 1, ground := Ground.data }], guard := none }) (v := ?_) rfl (by kernel_rfl) (by kernel_rfl) (by kernel_rfl) (fun _ _ _ h => h) (Or.inl ⟨by rfl, ?_⟩) (by assumption) ?_
    rotate_left
    · (intro w hSw; (try dsimp only at hSw); (try have hcs := hcells w hSw); (try go_split_ands); go_simp <;> with_reducible rfl)
    (try simp only [Act.put, List.setIfInBounds_toArray, List.set_cons_zero, List.set_cons_succ])
    refine wpAnyH_take (i := 3) (oi := { dst := some 41, op := Op.move (Operand.tmp 40), type := 4, pos := "law.go:107", after := #[{ on := 2, ground := Ground.data }], guard := none }) (v := ?_) rfl (by kernel_rfl) (by kernel_rfl) (by kernel_rfl) (fun _ _ _ h => h) (Or.inl ⟨by rfl, ?_⟩) (by assumption) ?_
    rotate_left
    · (intro w hSw; (try dsimp only at hSw); (try have hcs := hcells w hSw); (try go_split_ands); go_simp <;> with_reducible rfl)
    (try simp only [Act.put, List.setIfInBounds_toArray, List.set_cons_zero, List.set_cons_succ])
    refine wpAnyH_take (i := 4) (oi := { dst := some 42, op := Op.move (Operand.tmp 12), type := 26, pos := "law.go:107", after := #[{ on := 3, ground := Ground.guard }], guard := some (3, false) }) (v := ?_) rfl (by kernel_rfl) (by kernel_rfl) (by kernel_rfl) (fun _ _ _ h => h) (Or.inl ⟨by rfl, ?_⟩) (by assumption) ?_
    rotate_left
    · (intro w hSw; (try dsimp only at hSw); (try have hcs := hcells w hSw); (try go_split_ands); go_simp <;> with_reducible rfl)
    (try simp only [Act.put, List.setIfInBounds_toArray, List.set_cons_zero, List.set_cons_succ])
    refine wpAnyH_take (i := 5) (oi := { dst := some 43, op := Op.indexAddr 26 (Operand.tmp 42) (Operand.const (Value.int IntKind.i64 0)), type := 0, pos := "law.go:107", after := #[{ on := 4, ground := Ground.data }, { on := 3, ground := Ground.guard }], guard := some (3, false) }) (v := ?_) rfl (by kernel_rfl) (by kernel_rfl) (by kernel_rfl) (fun _ _ _ h => h) (Or.inl ⟨by rfl, ?_⟩) (by assumption) ?_
    rotate_left
    · (intro w hSw; (try dsimp only at hSw); (try have hcs := hcells w hSw); (try go_split_ands); go_simp <;> with_reducible rfl)
    (try simp only [Act.put, List.setIfInBounds_toArray, List.set_cons_zero, List.set_cons_succ])
    refine wpAnyH_take (i := 6) (oi := { dst := some 44, op := Op.load 3 (Operand.tmp 43), type := 3, pos := "law.go:107", after := #[{ on := 5, ground := Ground.data }, { on := 3, ground := Ground.guard }], guard := some (3, false) }) (v := ?_) rfl (by kernel_rfl) (by kernel_rfl) (by kernel_rfl) (fun _ _ _ h => h) (Or.inl ⟨by rfl, ?_⟩) (by assumption) ?_
    rotate_left
    · (intro w hSw; (try dsimp only at hSw); (try have hcs := hcells w hSw); (try go_split_ands); go_simp <;> with_reducible rfl)
    (try simp only [Act.put, List.setIfInBounds_toArray, List.set_cons_zero, List.set_cons_succ])
    refine wpAnyH_take (i := 7) (oi := { dst := some 45, op := Op.load 3 (Operand.tmp 11), type := 3, pos := "law.go:107", after := #[{ on := 3, ground := Ground.guard }], guard := some (3, false) }) (v := ?_) rfl (by kernel_rfl) (by kernel_rfl) (by kernel_rfl) (fun _ _ _ h => h) (Or.inl ⟨by rfl, ?_⟩) (by assumption) ?_
    rotate_left
    · (intro w hSw; (try dsimp only at hSw); (try have hcs := hcells w hSw); (try go_split_ands); go_simp <;> with_reducible rfl)
    (try simp only [Act.put, List.setIfInBounds_toArray, List.set_cons_zero, List.set_cons_succ])
    refine wpAnyH_take (i := 8) (oi := { dst := some 46, op := Op.binOp BinOp.leq 3 (Operand.tmp 44) (Operand.tmp 45) 3, type := 4, pos := "law.go:107", after := #[{ on := 6, ground := Ground.data }, { on := 7, ground := Ground.data }, { on := 3, ground := Ground.guard }], guard := some (3, false) }) (v := ?_) rfl (by kernel_rfl) (by kernel_rfl) (by kernel_rfl) (fun _ _ _ h => h) (Or.inl ⟨by rfl, ?_⟩) (by assumption) ?_
    rotate_left
    · (intro w hSw; (try dsimp only at hSw); (try have hcs := hcells w hSw); (try go_split_ands); go_simp <;> with_reducible rfl)
    (try simp only [Act.put, List.setIfInBounds_toArray, List.set_cons_zero, List.set_cons_succ])
    refine wpAnyH_take (i := 9) (oi := { dst := some 47, op := Op.pick (Operand.tmp 41) (Operand.const (Value.bool true)) (Operand.tmp 46), type := 4, pos := "law.go:107", after := #[{ on := 3, ground := Ground.data }, { on := 8, ground := Ground.data }], guard := none }) (v := ?_) rfl (by kernel_rfl) (by kernel_rfl) (by kernel_rfl) (fun _ _ _ h => h) (Or.inl ⟨by rfl, ?_⟩) (by assumption) ?_
    rotate_left
    · (intro w hSw; (try dsimp only at hSw); (try have hcs := hcells w hSw); (try go_split_ands); go_simp <;> with_reducible rfl)
    (try simp only [Act.put, List.setIfInBounds_toArray, List.set_cons_zero, List.set_cons_succ])
    refine wpAnyH_done (by kernel_rfl) ?_ _
    have hgq := hgr _ hHeld
    obtain ⟨wq, hwq⟩ : ∃ V, V = W.drew := ⟨_, rfl⟩
    rw [← hwq] at hgq ⊢
    have hVq := HV.out.1.gr hgq
    have clq := hVq.cl
    have flq := hVq.fl
    have cgq := cellk cg hgq
    have H2 : Hid (LuV w w1.heap.size n stop x (.slice sa n sc) s k l0 (wq.setCell ⟨w1.heap.size + 1 + 1 + 1, 0, none⟩ (.int .i64 l0)) ∧ KpG w5.heap.size W (wq.setCell ⟨w1.heap.size + 1 + 1 + 1, 0, none⟩ (.int .i64 l0))) :=
      ⟨hVq.setL l0, (KpG.gr hgq).trans (KpG.set (by have := HS5.out; omega))⟩
    clear hHeld hgr hin hcl hcells hwq cl cg hVq hlt' hlt2 hgq
    gi_upto_region 12 with fail
    obtain ⟨W2, hW2⟩ : ∃ V, wq.setCell ⟨w1.heap.size + 1 + 1 + 1, 0, none⟩ (.int .i64 l0) = V := ⟨_, rfl⟩
    rw [hW2] at H2 ⊢
    have HL2 : Hid (Lst W2 (w5.heap.size + 2) (.slice (some ⟨gr, 0, none⟩) kk kr) L) := HL.out.kpg (H2.out.2.mono (by omega))
    clear clq flq cgq hW2 z0
    gi_wp2
    gi_loopw [53] (fun p53 w2 => ∃ i : Nat, p53 = .int .i64 i ∧ i ≤ kk ∧ Hid (IsGr W2 w2)) (fun p53 _ => kk - (intOf p53).toNat)
    case atStart => exact ⟨0, rfl, Nat.zero_le _, IsGr.refl _⟩
    case round =>
      obtain ⟨i, rfl, hik, HG⟩ := hrel
      by_cases hin2 : i < kk
      · obtain ⟨b, hb1, hb2, hb3⟩ := HF.out.2.2.2.1.all i (by have := HF.out.2.2.2.2.1; omega)
        have hLr := HL2.out.gr HG.out
        have hVr := H2.out.1.gr HG.out
        have ca := (hLr.at (i := i) hin2).1
        have cg := (hLr.at (i := 0) (by omega)).1
        rw [hb1] at ca
        rw [HF.out.2.2.2.1.first] at cg
        have c0 := hVr.c0
        have cx := hVr.cx
        have hbn : b < n := by have := HX.out.1; omega
        obtain ⟨ga, oa, rfl, -, hac, -, -, cb⟩ := hVr.xr.at hbn
        rw [hb3] at cb
        have CW := fun w => within_any (b : Int) (n : Int) w
        rw [wth_nat hbn] at CW
        have hbn' : (b : Int) < n := by omega
        have hin' : (i : Int) < kk := by omega
        have e1 : IntKind.i64.wrap ((i : Int) + 1) = (i : Int) + 1 := by rw [IntKind.wrap_i64]; have := HF.out; have := HX.out; omega
        by_cases hi0 : i = 0
        · have hd1 : decide (0 < i) = false := decide_eq_false (by omega)
          have XCL : True := trivial
          have HI0 : Hid (i = 0) := hi0
          clear hLr hVr hb1 hb2 hb3 hac hi0
          gi_upto_region 15 with fail
          have hd1 : decide (0 < i) = false := decide_eq_false (by have := HI0.out; omega)
          obtain ⟨C, hin, hcl, hcells, hgr⟩ : ∃ C : World → Prop, (∀ w', IsGr wr w' → C w') ∧ (∀ u u', C u → IsGr u u' → C u') ∧ (∀ w', C w' → (w'.cell? ⟨w.heap.size, 0, none⟩ = some (.int .i64 n)) ∧ (w'.cell? ⟨w1.heap.size, 0, none⟩ = some (.slice (some ⟨ga, oa, none⟩) n sc)) ∧ (w'.cell? ⟨ga, oa + b, none⟩ = some (.int .i64 l0)) ∧ (w'.cell? ⟨gr, 0, none⟩ = some (.int .i64 l0))) ∧ (∀ w', C w' → IsGr wr w') := ⟨fun w' => IsGr wr w', fun _ h => h, fun _ _ h k => h.trans k, fun w' hg => ⟨cellk c0 hg, cellk cx hg, cellk cb hg, cellk cg hg⟩, fun _ h => h⟩
          refine wpIn_region_held (S := C) (by kernel_rfl) (by kernel_rfl) (fun ⟨_, _, h⟩ => h) (by (try dsimp only); exact hin _ (by with_reducible repeat (first | exact IsGr.refl _ | refine IsGr.gr ?_ _ _ | refine IsGr.alloc ?_ _ | refine IsGr.drew ?_ | refine IsGr.drewN ?_ _))) (fun hHeld => ?_)
          refine wpAnyH_take (i := 0) (oi := { dst := some 58, op := Op.move (Operand.tmp 14), type := 3, pos := "law.go:112", after := #[], guard := none }) (v := ?_) rfl (by kernel_rfl) (by kernel_rfl) (by kernel_rfl) (fun _ _ _ h => h) (Or.inl ⟨by rfl, ?_⟩) (by assumption) ?_
          rotate_left
          · (intro w hSw; (try dsimp only at hSw); (try have hcs := hcells w hSw); (try go_split_ands); go_simp <;> with_reducible rfl)
          (try simp only [Act.put, List.setIfInBounds_toArray, List.set_cons_zero, List.set_cons_succ])
          refine wpAnyH_take (i := 1) (oi := { dst := some 59, op := Op.load 3 (Operand.tmp 3), type := 3, pos := "law.go:112", after := #[], guard := none }) (v := ?_) rfl (by kernel_rfl) (by kernel_rfl) (by kernel_rfl) (fun _ _ _ h => h) (Or.inl ⟨by rfl, ?_⟩) (by assumption) ?_
          rotate_left
          · (intro w hSw; (try dsimp only at hSw); (try have hcs := hcells w hSw); (try go_split_ands); go_simp <;> with_reducible rfl)
          (try simp only [Act.put, List.setIfInBounds_toArray, List.set_cons_zero, List.set_cons_succ])
          refine wpAnyH_ready (rs := [2]) (by kernel_rfl) (by simp) ?_
          refine AllReadyH.cons (o := { dst := some 60, op := Op.call { callee := Callee.value (Operand.func 11), args := #[Operand.tmp 58, Operand.tmp 59], argTypes := #[3, 3] }, type := 4, pos := "law.go:112", after := #[{ on := 0, ground := Ground.data }, { on := 1, ground := Ground.data }], guard := none }) rfl (fun K hK => ?_) AllReadyH.nil
          go_simp
          refine (CW _).mono ?_
          rintro e w3 ⟨rfl, e3⟩
          obtain rfl := e3.symm
          (try go_wp2_with fail)
          refine hK.out _ _ (by (try dsimp only); exact hcl _ _ hHeld (by first | with_reducible assumption | with_reducible exact IsGr.refl _ | with_reducible exact (IsGr.refl _).alloc _ | with_reducible exact ((IsGr.refl _).alloc _).alloc _ | assumption)) (fun hHeld2 => ?_)
          clear hK K hHeld
          have hHeld := hHeld2
          clear hHeld2
          (try simp only [Act.put, List.setIfInBounds_toArray, List.set_cons_zero, List.set_cons_succ])
          refine wpAnyH_take (i := 3) (oi := { dst := some 61, op := Op.unOp UnOp.not 4 (Operand.tmp 60), type := 4, pos := "law.go:112", after := #[{ on := 2, ground := Ground.data }], guard := none }) (v := ?_) rfl (by kernel_rfl) (by kernel_rfl) (by kernel_rfl) (fun _ _ _ h => h) (Or.inl ⟨by rfl, ?_⟩) (by assumption) ?_
          rotate_left
          · (intro w hSw; (try dsimp only at hSw); (try have hcs := hcells w hSw); (try go_split_ands); go_simp <;> with_reducible rfl)
          (try simp only [Act.put, List.setIfInBounds_toArray, List.set_cons_zero, List.set_cons_succ])
          refine wpAnyH_take (i := 4) (oi := { dst := some 62, op := Op.move (Operand.tmp 61), type := 4, pos := "law.go:112", after := #[{ on := 3, ground := Ground.data }, { on := 2, ground := Ground.chain }], guard := none }) (v := ?_) rfl (by kernel_rfl) (by kernel_rfl) (by kernel_rfl) (fun _ _ _ h => h) (Or.inl ⟨by rfl, ?_⟩) (by assumption) ?_
          rotate_left
          · (intro w hSw; (try dsimp only at hSw); (try have hcs := hcells w hSw); (try go_split_ands); go_simp <;> with_reducible rfl)
          (try simp only [Act.put, List.setIfInBounds_toArray, List.set_cons_zero, List.set_cons_succ])
          refine wpAnyH_take (i := 5) (oi := { dst := some 63, op := Op.load 26 (Operand.tmp 8), type := 26, pos := "law.go:112", after := #[{ on := 4, ground := Ground.guard }], guard := some (4, false) }) (v := ?_) rfl (by kernel_rfl) (by kernel_rfl) (by kernel_rfl) (fun _ _ _ h => h) (Or.inl ⟨by rfl, ?_⟩) (by assumption) ?_
          rotate_left
          · (intro w hSw; (try dsimp only at hSw); (try have hcs := hcells w hSw); (try go_split_ands); go_simp <;> with_reducible rfl)
          (try simp only [Act.put, List.setIfInBounds_toArray, List.set_cons_zero, List.set_cons_succ])
          refine wpAnyH_take (i := 6) (oi := { dst := some 64, op := Op.move (Operand.tmp 14), type := 3, pos := "law.go:112", after := #[{ on := 4, ground := Ground.guard }], guard := some (4, false) }) (v := ?_) rfl (by kernel_rfl) (by kernel_rfl) (by kernel_rfl) (fun _ _ _ h => h) (Or.inl ⟨by rfl, ?_⟩) (by assumption) ?_
          rotate_left
          · (intro w hSw; (try dsimp only at hSw); (try have hcs := hcells w hSw); (try go_split_ands); go_simp <;> with_reducible rfl)
          (try simp only [Act.put, List.setIfInBounds_toArray, List.set_cons_zero, List.set_cons_succ])
          refine wpAnyH_take (i := 7) (oi := { dst := some 65, op := Op.indexAddr 26 (Operand.tmp 63) (Operand.tmp 64), type := 0, pos := "law.go:112", after := #[{ on := 5, ground := Ground.data }, { on := 6, ground := Ground.data }, { on := 4, ground := Ground.guard }], guard := some (4, false) }) (v := ?_) rfl (by kernel_rfl) (by kernel_rfl) (by kernel_rfl) (fun _ _ _ h => h) (Or.inl ⟨by rfl, ?_⟩) (by assumption) ?_
          rotate_left
          · (intro w hSw; (try dsimp only at hSw); (try have hcs := hcells w hSw); (try go_split_ands); go_simp <;> with_reducible rfl)
          (try simp only [Act.put, List.setIfInBounds_toArray, List.set_cons_zero, List.set_cons_succ])
          refine wpAnyH_take (i := 8) (oi := { dst := some 66, op := Op.load 3 (Operand.tmp 65), type := 3, pos := "law.go:112", after := #[{ on := 7, ground := Ground.data }, { on := 4, ground := Ground.guard }], guard := some (4, false) }) (v := ?_) rfl (by kernel_rfl) (by kernel_rfl) (by kernel_rfl) (fun _ _ _ h => h) (Or.inl ⟨by rfl, ?_⟩) (by assumption) ?_
          rotate_left
          · (intro w hSw; (try dsimp only at hSw); (try have hcs := hcells w hSw); (try go_split_ands); go_simp <;> with_reducible rfl)
          (try simp only [Act.put, List.setIfInBounds_toArray, List.set_cons_zero, List.set_cons_succ])
          refine wpAnyH_take (i := 9) (oi := { dst := some 67, op := Op.move (Operand.tmp 12), type := 26, pos := "law.go:112", after := #[{ on := 4, ground := Ground.guard }], guard := some (4, false) }) (v := ?_) rfl (by kernel_rfl) (by kernel_rfl) (by kernel_rfl) (fun _ _ _ h => h) (Or.inl ⟨by rfl, ?_⟩) (by assumption) ?_
          rotate_left
          · (intro w hSw; (try dsimp only at hSw); (try have hcs := hcells w hSw); (try go_split_ands); go_simp <;> with_reducible rfl)
          (try simp only [Act.put, List.setIfInBounds_toArray, List.set_cons_zero, List.set_cons_succ])
          refine wpAnyH_take (i := 10) (oi := { dst := some 68, op := Op.indexAddr 26 (Operand.tmp 67) (Operand.const (Value.int IntKind.i64 0)), type := 0, pos := "law.go:112", after := #[{ on := 9, ground := Ground.data }, { on := 4, ground := Ground.guard }], guard := some (4, false) }) (v := ?_) rfl (by kernel_rfl) (by kernel_rfl) (by kernel_rfl) (fun _ _ _ h => h) (Or.inl ⟨by rfl, ?_⟩) (by assumption) ?_
          rotate_left
          · (intro w hSw; (try dsimp only at hSw); (try have hcs := hcells w hSw); (try go_split_ands); go_simp <;> with_reducible rfl)
          (try simp only [Act.put, List.setIfInBounds_toArray, List.set_cons_zero, List.set_cons_succ])
          refine wpAnyH_take (i := 11) (oi := { dst := some 69, op := Op.load 3 (Operand.tmp 68), type := 3, pos := "law.go:112", after := #[{ on := 10, ground := Ground.data }, { on := 4, ground := Ground.guard }], guard := some (4, false) }) (v := ?_) rfl (by kernel_rfl) (by kernel_rfl) (by kernel_rfl) (fun _ _ _ h => h) (Or.inl ⟨by rfl, ?_⟩) (by assumption) ?_
          rotate_left
          · (intro w hSw; (try dsimp only at hSw); (try have hcs := hcells w hSw); (try go_split_ands); go_simp <;> with_reducible rfl)
          (try simp only [Act.put, List.setIfInBounds_toArray, List.set_cons_zero, List.set_cons_succ])
          refine wpAnyH_take (i := 12) (oi := { dst := some 70, op := Op.binOp BinOp.neq 3 (Operand.tmp 66) (Operand.tmp 69) 3, type := 4, pos := "law.go:112", after := #[{ on := 8, ground := Ground.data }, { on := 11, ground := Ground.data }, { on := 4, ground := Ground.guard }], guard := some (4, false) }) (v := ?_) rfl (by kernel_rfl) (by kernel_rfl) (by kernel_rfl) (fun _ _ _ h => h) (Or.inl ⟨by rfl, ?_⟩) (by assumption) ?_
          rotate_left
          · (intro w hSw; (try dsimp only at hSw); (try have hcs := hcells w hSw); (try go_split_ands); go_simp <;> with_reducible rfl)
          (try simp only [Act.put, List.setIfInBounds_toArray, List.set_cons_zero, List.set_cons_succ])
          refine wpAnyH_take (i := 13) (oi := { dst := some 71, op := Op.pick (Operand.tmp 62) (Operand.const (Value.bool true)) (Operand.tmp 70), type := 4, pos := "law.go:112", after := #[{ on := 4, ground := Ground.data }, { on := 12, ground := Ground.data }], guard := none }) (v := ?_) rfl (by kernel_rfl) (by kernel_rfl) (by kernel_rfl) (fun _ _ _ h => h) (Or.inl ⟨by rfl, ?_⟩) (by assumption) ?_
          rotate_left
          · (intro w hSw; (try dsimp only at hSw); (try have hcs := hcells w hSw); (try go_split_ands); go_simp <;> with_reducible rfl)
          (try simp only [Act.put, List.setIfInBounds_toArray, List.set_cons_zero, List.set_cons_succ])
          refine wpAnyH_take (i := 14) (oi := { dst := some 72, op := Op.move (Operand.tmp 71), type := 4, pos := "law.go:112", after := #[{ on := 13, ground := Ground.data }, { on := 4, ground := Ground.chain }], guard := none }) (v := ?_) rfl (by kernel_rfl) (by kernel_rfl) (by kernel_rfl) (fun _ _ _ h => h) (Or.inl ⟨by rfl, ?_⟩) (by assumption) ?_
          rotate_left
          · (intro w hSw; (try dsimp only at hSw); (try have hcs := hcells w hSw); (try go_split_ands); go_simp <;> with_reducible rfl)
          (try simp only [Act.put, List.setIfInBounds_toArray, List.set_cons_zero, List.set_cons_succ])
          refine wpAnyH_take (i := 15) (oi := { dst := some 73, op := Op.move (Operand.tmp 13), type := 3, pos := "law.go:112", after := #[{ on := 14, ground := Ground.guard }], guard := some (14, false) }) (v := ?_) rfl (by kernel_rfl) (by kernel_rfl) (by kernel_rfl) (fun _ _ _ h => h) (Or.inl ⟨by rfl, ?_⟩) (by assumption) ?_
          rotate_left
          · (intro w hSw; (try dsimp only at hSw); (try have hcs := hcells w hSw); (try go_split_ands); go_simp <;> with_reducible rfl)
          (try simp only [Act.put, List.setIfInBounds_toArray, List.set_cons_zero, List.set_cons_succ])
          refine wpAnyH_take (i := 16) (oi := { dst := some 74, op := Op.binOp BinOp.gtr 3 (Operand.tmp 73) (Operand.const (Value.int IntKind.i64 0)) 3, type := 4, pos := "law.go:112", after := #[{ on := 15, ground := Ground.data }, { on := 14, ground := Ground.guard }], guard := some (14, false) }) (v := ?_) rfl (by kernel_rfl) (by kernel_rfl) (by kernel_rfl) (fun _ _ _ h => h) (Or.inl ⟨by rfl, ?_⟩) (by assumption) ?_
          rotate_left
          · (intro w hSw; (try dsimp only at hSw); (try have hcs := hcells w hSw); (try go_split_ands); go_simp <;> with_reducible rfl)
          (try simp only [Act.put, List.setIfInBounds_toArray, List.set_cons_zero, List.set_cons_succ])
          refine wpAnyH_take (i := 17) (oi := { dst := some 75, op := Op.move (Operand.tmp 74), type := 4, pos := "law.go:112", after := #[{ on := 16, ground := Ground.data }, { on := 14, ground := Ground.chain }, { on := 14, ground := Ground.guard }], guard := some (14, false) }) (v := ?_) rfl (by kernel_rfl) (by kernel_rfl) (by kernel_rfl) (fun _ _ _ h => h) (Or.inl ⟨by rfl, ?_⟩) (by assumption) ?_
          rotate_left
          · (intro w hSw; (try dsimp only at hSw); (try have hcs := hcells w hSw); (try go_split_ands); go_simp <;> with_reducible rfl)
          (try simp only [Act.put, List.setIfInBounds_toArray, List.set_cons_zero, List.set_cons_succ])
          refine wpAnyH_take (i := 18) (oi := { dst := some 76, op := Op.move (Operand.tmp 12), type := 26, pos := "law.go:112", after := #[{ on := 17, ground := Ground.guard }], guard := some (17, true) }) (v := undef) rfl (by kernel_rfl) (by kernel_rfl) (by kernel_rfl) (fun _ _ _ h => h) (Or.inr ⟨by rfl, rfl⟩) (by assumption) ?_
          (try simp only [Act.put, List.setIfInBounds_toArray, List.set_cons_zero, List.set_cons_succ])
          refine wpAnyH_take (i := 19) (oi := { dst := some 77, op := Op.move (Operand.tmp 13), type := 3, pos := "law.go:112", after := #[{ on := 17, ground := Ground.guard }], guard := some (17, true) }) (v := undef) rfl (by kernel_rfl) (by kernel_rfl) (by kernel_rfl) (fun _ _ _ h => h) (Or.inr ⟨by rfl, rfl⟩) (by assumption) ?_
          (try simp only [Act.put, List.setIfInBounds_toArray, List.set_cons_zero, List.set_cons_succ])
          refine wpAnyH_take (i := 20) (oi := { dst := some 78, op := Op.binOp BinOp.sub 3 (Operand.tmp 77) (Operand.const (Value.int IntKind.i64 1)) 3, type := 3, pos := "law.go:112", after := #[{ on := 19, ground := Ground.data }, { on := 17, ground := Ground.guard }], guard := some (17, true) }) (v := undef) rfl (by kernel_rfl) (by kernel_rfl) (by kernel_rfl) (fun _ _ _ h => h) (Or.inr ⟨by rfl, rfl⟩) (by assumption) ?_
          (try simp only [Act.put, List.setIfInBounds_toArray, List.set_cons_zero, List.set_cons_succ])
          refine wpAnyH_take (i := 21) (oi := { dst := some 79, op := Op.indexAddr 26 (Operand.tmp 76) (Operand.tmp 78), type := 0, pos := "law.go:112", after := #[{ on := 18, ground := Ground.data }, { on := 20, ground := Ground.data }, { on := 17, ground := Ground.guard }], guard := some (17, true) }) (v := undef) rfl (by kernel_rfl) (by kernel_rfl) (by kernel_rfl) (fun _ _ _ h => h) (Or.inr ⟨by rfl, rfl⟩) (by assumption) ?_
          (try simp only [Act.put, List.setIfInBounds_toArray, List.set_cons_zero, List.set_cons_succ])
          refine wpAnyH_take (i := 22) (oi := { dst := some 80, op := Op.load 3 (Operand.tmp 79), type := 3, pos := "law.go:112", after := #[{ on := 21, ground := Ground.data }, { on := 17, ground := Ground.guard }], guard := some (17, true) }) (v := undef) rfl (by kernel_rfl) (by kernel_rfl) (by kernel_rfl) (fun _ _ _ h => h) (Or.inr ⟨by rfl, rfl⟩) (by assumption) ?_
          (try simp only [Act.put, List.setIfInBounds_toArray, List.set_cons_zero, List.set_cons_succ])
          refine wpAnyH_take (i := 23) (oi := { dst := some 81, op := Op.move (Operand.tmp 14), type := 3, pos := "law.go:112", after := #[{ on := 17, ground := Ground.guard }], guard := some (17, true) }) (v := undef) rfl (by kernel_rfl) (by kernel_rfl) (by kernel_rfl) (fun _ _ _ h => h) (Or.inr ⟨by rfl, rfl⟩) (by assumption) ?_
          (try simp only [Act.put, List.setIfInBounds_toArray, List.set_cons_zero, List.set_cons_succ])
          refine wpAnyH_take (i := 24) (oi := { dst := some 82, op := Op.binOp BinOp.geq 3 (Operand.tmp 80) (Operand.tmp 81) 3, type := 4, pos := "law.go:112", after := #[{ on := 22, ground := Ground.data }, { on := 23, ground := Ground.data }, { on := 17, ground := Ground.guard }], guard := some (17, true) }) (v := undef) rfl (by kernel_rfl) (by kernel_rfl) (by kernel_rfl) (fun _ _ _ h => h) (Or.inr ⟨by rfl, rfl⟩) (by assumption) ?_
          (try simp only [Act.put, List.setIfInBounds_toArray, List.set_cons_zero, List.set_cons_succ])
          refine wpAnyH_take (i := 25) (oi := { dst := some 83, op := Op.pick (Operand.tmp 75) (Operand.tmp 82) (Operand.const (Value.bool false)), type := 4, pos := "law.go:112", after := #[{ on := 17, ground := Ground.data }, { on := 24, ground := Ground.data }, { on := 14, ground := Ground.guard }], guard := some (14, false) }) (v := ?_) rfl (by kernel_rfl) (by kernel_rfl) (by kernel_rfl) (fun _ _ _ h => h) (Or.inl ⟨by rfl, ?_⟩) (by assumption) ?_
          rotate_left
          · (intro w hSw; (try dsimp only at hSw); (try have hcs := hcells w hSw); (try go_split_ands); go_simp <;> with_reducible rfl)
          (try simp only [Act.put, List.setIfInBounds_toArray, List.set_cons_zero, List.set_cons_succ])
          refine wpAnyH_take (i := 26) (oi := { dst := some 84, op := Op.pick (Operand.tmp 72) (Operand.const (Value.bool true)) (Operand.tmp 83), type := 4, pos := "law.go:112", after := #[{ on := 14, ground := Ground.data }, { on := 25, ground := Ground.data }], guard := none }) (v := ?_) rfl (by kernel_rfl) (by kernel_rfl) (by kernel_rfl) (fun _ _ _ h => h) (Or.inl ⟨by rfl, ?_⟩) (by assumption) ?_
          rotate_left
          · (intro w hSw; (try dsimp only at hSw); (try have hcs := hcells w hSw); (try go_split_ands); go_simp <;> with_reducible rfl)
          (try simp only [Act.put, List.setIfInBounds_toArray, List.set_cons_zero, List.set_cons_succ])
          refine wpAnyH_done (by kernel_rfl) ?_ _
          have hgq := hgr _ hHeld
          obtain ⟨wq, hwq⟩ : ∃ W, W = wr.drew := ⟨_, rfl⟩
          rw [← hwq] at hgq ⊢
          have HG2 : Hid (IsGr W2 wq) := HG.out.trans hgq
          clear hHeld hgr hin hcl hcells CW c0 cx ca cb cg XCL hd1 hgq hwq HG
          gi_wp2
          go_roundw
          case rel => exact ⟨i + 1, by simp, by omega, HG2⟩
          case measure => simp [intOf]; omega

        · obtain ⟨q, hq⟩ : ∃ q, i - 1 = q := ⟨_, rfl⟩
          have hri := HF.out.2.2.2.1.rise q (by have := HF.out.2.2.2.2.1; omega)
          rw [show q + 1 = i by omega, hb1] at hri
          have XCL := (hLr.at (i := q) (by omega)).1
          obtain ⟨y, hy⟩ : ∃ y, L.getD q 0 = y := ⟨_, rfl⟩
          rw [hy] at XCL hri
          have hyb : ¬ (b : Int) ≤ y := by omega
          have hyb2 : decide ((b : Int) ≤ y) = false := decide_eq_false hyb
          have hiq : (i : Int) - 1 = (q : Int) := by omega
          have er : IntKind.i64.wrap ((i : Int) - 1) = (q : Int) := by rw [IntKind.wrap_i64]; have := HF.out; have := HX.out; omega
          have er2 : IntKind.i64.wrap (q : Int) = (q : Int) := by rw [IntKind.wrap_i64]; have := HF.out; have := HX.out; omega
          have hqk : (q : Int) < kk := by omega
          have HI0 : Hid (0 < i) := by show 0 < i; omega
          clear hLr hVr hb1 hb2 hb3 hac hi0 hri hq hy
          gi_upto_region 15 with fail
          have hd1 : decide (0 < i) = true := decide_eq_true HI0.out
          obtain ⟨C, hin, hcl, hcells, hgr⟩ : ∃ C : World → Prop, (∀ w', IsGr wr w' → C w') ∧ (∀ u u', C u → IsGr u u' → C u') ∧ (∀ w', C w' → (w'.cell? ⟨w.heap.size, 0, none⟩ = some (.int .i64 n)) ∧ (w'.cell? ⟨w1.heap.size, 0, none⟩ = some (.slice (some ⟨ga, oa, none⟩) n sc)) ∧ (w'.cell? ⟨ga, oa + b, none⟩ = some (.int .i64 l0)) ∧ (w'.cell? ⟨gr, 0, none⟩ = some (.int .i64 l0)) ∧ (w'.cell? ⟨gr, q, none⟩ = some (.int .i64 y))) ∧ (∀ w', C w' → IsGr wr w') := ⟨fun w' => IsGr wr w', fun _ h => h, fun _ _ h k => h.trans k, fun w' hg => ⟨cellk c0 hg, cellk cx hg, cellk cb hg, cellk cg hg, cellk XCL hg⟩, fun _ h => h⟩
          refine wpIn_region_held (S := C) (by kernel_rfl) (by kernel_rfl) (fun ⟨_, _, h⟩ => h) (by (try dsimp only); exact hin _ (by with_reducible repeat (first | exact IsGr.refl _ | refine IsGr.gr ?_ _ _ | refine IsGr.alloc ?_ _ | refine IsGr.drew ?_ | refine IsGr.drewN ?_ _))) (fun hHeld => ?_)
          refine wpAnyH_take (i := 0) (oi := { dst := some 58, op := Op.move (Operand.tmp 14), type := 3, pos := "law.go:112", after := #[], guard := none }) (v := ?_) rfl (by kernel_rfl) (by kernel_rfl) (by kernel_rfl) (fun _ _ _ h => h) (Or.inl ⟨by rfl, ?_⟩) (by assumption) ?_
          rotate_left
          · (intro w hSw; (try dsimp only at hSw); (try have hcs := hcells w hSw); (try go_split_ands); go_simp <;> with_reducible rfl)
          (try simp only [Act.put, List.setIfInBounds_toArray, List.set_cons_zero, List.set_cons_succ])
          refine wpAnyH_take (i := 1) (oi := { dst := some 59, op := Op.load 3 (Operand.tmp 3), type := 3, pos := "law.go:112", after := #[], guard := none }) (v := ?_) rfl (by kernel_rfl) (by kernel_rfl) (by kernel_rfl) (fun _ _ _ h => h) (Or.inl ⟨by rfl, ?_⟩) (by assumption) ?_
          rotate_left
          · (intro w hSw; (try dsimp only at hSw); (try have hcs := hcells w hSw); (try go_split_ands); go_simp <;> with_reducible rfl)
          (try simp only [Act.put, List.setIfInBounds_toArray, List.set_cons_zero, List.set_cons_succ])
          refine wpAnyH_ready (rs := [2]) (by kernel_rfl) (by simp) ?_
          refine AllReadyH.cons (o := { dst := some 60, op := Op.call { callee := Callee.value (Operand.func 11), args := #[Operand.tmp 58, Operand.tmp 59], argTypes := #[3, 3] }, type := 4, pos := "law.go:112", after := #[{ on := 0, ground := Ground.data }, { on := 1, ground := Ground.data }], guard := none }) rfl (fun K hK => ?_) AllReadyH.nil
          go_simp
          refine (CW _).mono ?_
          rintro e w3 ⟨rfl, e3⟩
          obtain rfl := e3.symm
          (try go_wp2_with fail)
          refine hK.out _ _ (by (try dsimp only); exact hcl _ _ hHeld (by first | with_reducible assumption | with_reducible exact IsGr.refl _ | with_reducible exact (IsGr.refl _).alloc _ | with_reducible exact ((IsGr.refl _).alloc _).alloc _ | assumption)) (fun hHeld2 => ?_)
          clear hK K hHeld
          have hHeld := hHeld2
          clear hHeld2
          (try simp only [Act.put, List.setIfInBounds_toArray, List.set_cons_zero, List.set_cons_succ])
          refine wpAnyH_take (i := 3) (oi := { dst := some 61, op := Op.unOp UnOp.not 4 (Operand.tmp 60), type := 4, pos := "law.go:112", after := #[{ on := 2, ground := Ground.data }], guard := none }) (v := ?_) rfl (by kernel_rfl) (by kernel_rfl) (by kernel_rfl) (fun _ _ _ h => h) (Or.inl ⟨by rfl, ?_⟩) (by assumption) ?_
          rotate_left
          · (intro w hSw; (try dsimp only at hSw); (try have hcs := hcells w hSw); (try go_split_ands); go_simp <;> with_reducible rfl)
          (try simp only [Act.put, List.setIfInBounds_toArray, List.set_cons_zero, List.set_cons_succ])
          refine wpAnyH_take (i := 4) (oi := { dst := some 62, op := Op.move (Operand.tmp 61), type := 4, pos := "law.go:112", after := #[{ on := 3, ground := Ground.data }, { on := 2, ground := Ground.chain }], guard := none }) (v := ?_) rfl (by kernel_rfl) (by kernel_rfl) (by kernel_rfl) (fun _ _ _ h => h) (Or.inl ⟨by rfl, ?_⟩) (by assumption) ?_
          rotate_left
          · (intro w hSw; (try dsimp only at hSw); (try have hcs := hcells w hSw); (try go_split_ands); go_simp <;> with_reducible rfl)
          (try simp only [Act.put, List.setIfInBounds_toArray, List.set_cons_zero, List.set_cons_succ])
          refine wpAnyH_take (i := 5) (oi := { dst := some 63, op := Op.load 26 (Operand.tmp 8), type := 26, pos := "law.go:112", after := #[{ on := 4, ground := Ground.guard }], guard := some (4, false) }) (v := ?_) rfl (by kernel_rfl) (by kernel_rfl) (by kernel_rfl) (fun _ _ _ h => h) (Or.inl ⟨by rfl, ?_⟩) (by assumption) ?_
          rotate_left
          · (intro w hSw; (try dsimp only at hSw); (try have hcs := hcells w hSw); (try go_split_ands); go_simp <;> with_reducible rfl)
          (try simp only [Act.put, List.setIfInBounds_toArray, List.set_cons_zero, List.set_cons_succ])
          refine wpAnyH_take (i := 6) (oi := { dst := some 64, op := Op.move (Operand.tmp 14), type := 3, pos := "law.go:112", after := #[{ on := 4, ground := Ground.guard }], guard := some (4, false) }) (v := ?_) rfl (by kernel_rfl) (by kernel_rfl) (by kernel_rfl) (fun _ _ _ h => h) (Or.inl ⟨by rfl, ?_⟩) (by assumption) ?_
          rotate_left
          · (intro w hSw; (try dsimp only at hSw); (try have hcs := hcells w hSw); (try go_split_ands); go_simp <;> with_reducible rfl)
          (try simp only [Act.put, List.setIfInBounds_toArray, List.set_cons_zero, List.set_cons_succ])
          refine wpAnyH_take (i := 7) (oi := { dst := some 65, op := Op.indexAddr 26 (Operand.tmp 63) (Operand.tmp 64), type := 0, pos := "law.go:112", after := #[{ on := 5, ground := Ground.data }, { on := 6, ground := Ground.data }, { on := 4, ground := Ground.guard }], guard := some (4, false) }) (v := ?_) rfl (by kernel_rfl) (by kernel_rfl) (by kernel_rfl) (fun _ _ _ h => h) (Or.inl ⟨by rfl, ?_⟩) (by assumption) ?_
          rotate_left
          · (intro w hSw; (try dsimp only at hSw); (try have hcs := hcells w hSw); (try go_split_ands); go_simp <;> with_reducible rfl)
          (try simp only [Act.put, List.setIfInBounds_toArray, List.set_cons_zero, List.set_cons_succ])
          refine wpAnyH_take (i := 8) (oi := { dst := some 66, op := Op.load 3 (Operand.tmp 65), type := 3, pos := "law.go:112", after := #[{ on := 7, ground := Ground.data }, { on := 4, ground := Ground.guard }], guard := some (4, false) }) (v := ?_) rfl (by kernel_rfl) (by kernel_rfl) (by kernel_rfl) (fun _ _ _ h => h) (Or.inl ⟨by rfl, ?_⟩) (by assumption) ?_
          rotate_left
          · (intro w hSw; (try dsimp only at hSw); (try have hcs := hcells w hSw); (try go_split_ands); go_simp <;> with_reducible rfl)
          (try simp only [Act.put, List.setIfInBounds_toArray, List.set_cons_zero, List.set_cons_succ])
          refine wpAnyH_take (i := 9) (oi := { dst := some 67, op := Op.move (Operand.tmp 12), type := 26, pos := "law.go:112", after := #[{ on := 4, ground := Ground.guard }], guard := some (4, false) }) (v := ?_) rfl (by kernel_rfl) (by kernel_rfl) (by kernel_rfl) (fun _ _ _ h => h) (Or.inl ⟨by rfl, ?_⟩) (by assumption) ?_
          rotate_left
          · (intro w hSw; (try dsimp only at hSw); (try have hcs := hcells w hSw); (try go_split_ands); go_simp <;> with_reducible rfl)
          (try simp only [Act.put, List.setIfInBounds_toArray, List.set_cons_zero, List.set_cons_succ])
          refine wpAnyH_take (i := 10) (oi := { dst := some 68, op := Op.indexAddr 26 (Operand.tmp 67) (Operand.const (Value.int IntKind.i64 0)), type := 0, pos := "law.go:112", after := #[{ on := 9, ground := Ground.data }, { on := 4, ground := Ground.guard }], guard := some (4, false) }) (v := ?_) rfl (by kernel_rfl) (by kernel_rfl) (by kernel_rfl) (fun _ _ _ h => h) (Or.inl ⟨by rfl, ?_⟩) (by assumption) ?_
          rotate_left
          · (intro w hSw; (try dsimp only at hSw); (try have hcs := hcells w hSw); (try go_split_ands); go_simp <;> with_reducible rfl)
          (try simp only [Act.put, List.setIfInBounds_toArray, List.set_cons_zero, List.set_cons_succ])
          refine wpAnyH_take (i := 11) (oi := { dst := some 69, op := Op.load 3 (Operand.tmp 68), type := 3, pos := "law.go:112", after := #[{ on := 10, ground := Ground.data }, { on := 4, ground := Ground.guard }], guard := some (4, false) }) (v := ?_) rfl (by kernel_rfl) (by kernel_rfl) (by kernel_rfl) (fun _ _ _ h => h) (Or.inl ⟨by rfl, ?_⟩) (by assumption) ?_
          rotate_left
          · (intro w hSw; (try dsimp only at hSw); (try have hcs := hcells w hSw); (try go_split_ands); go_simp <;> with_reducible rfl)
          (try simp only [Act.put, List.setIfInBounds_toArray, List.set_cons_zero, List.set_cons_succ])
          refine wpAnyH_take (i := 12) (oi := { dst := some 70, op := Op.binOp BinOp.neq 3 (Operand.tmp 66) (Operand.tmp 69) 3, type := 4, pos := "law.go:112", after := #[{ on := 8, ground := Ground.data }, { on := 11, ground := Ground.data }, { on := 4, ground := Ground.guard }], guard := some (4, false) }) (v := ?_) rfl (by kernel_rfl) (by kernel_rfl) (by kernel_rfl) (fun _ _ _ h => h) (Or.inl ⟨by rfl, ?_⟩) (by assumption) ?_
          rotate_left
          · (intro w hSw; (try dsimp only at hSw); (try have hcs := hcells w hSw); (try go_split_ands); go_simp <;> with_reducible rfl)
          (try simp only [Act.put, List.setIfInBounds_toArray, List.set_cons_zero, List.set_cons_succ])
          refine wpAnyH_take (i := 13) (oi := { dst := some 71, op := Op.pick (Operand.tmp 62) (Operand.const (Value.bool true)) (Operand.tmp 70), type := 4, pos := "law.go:112", after := #[{ on := 4, ground := Ground.data }, { on := 12, ground := Ground.data }], guard := none }) (v := ?_) rfl (by kernel_rfl) (by kernel_rfl) (by kernel_rfl) (fun _ _ _ h => h) (Or.inl ⟨by rfl, ?_⟩) (by assumption) ?_
          rotate_left
          · (intro w hSw; (try dsimp only at hSw); (try have hcs := hcells w hSw); (try go_split_ands); go_simp <;> with_reducible rfl)
          (try simp only [Act.put, List.setIfInBounds_toArray, List.set_cons_zero, List.set_cons_succ])
          refine wpAnyH_take (i := 14) (oi := { dst := some 72, op := Op.move (Operand.tmp 71), type := 4, pos := "law.go:112", after := #[{ on := 13, ground := Ground.data }, { on := 4, ground := Ground.chain }], guard := none }) (v := ?_) rfl (by kernel_rfl) (by kernel_rfl) (by kernel_rfl) (fun _ _ _ h => h) (Or.inl ⟨by rfl, ?_⟩) (by assumption) ?_
          rotate_left
          · (intro w hSw; (try dsimp only at hSw); (try have hcs := hcells w hSw); (try go_split_ands); go_simp <;> with_reducible rfl)
          (try simp only [Act.put, List.setIfInBounds_toArray, List.set_cons_zero, List.set_cons_succ])
          refine wpAnyH_take (i := 15) (oi := { dst := some 73, op := Op.move (Operand.tmp 13), type := 3, pos := "law.go:112", after := #[{ on := 14, ground := Ground.guard }], guard := some (14, false) }) (v := ?_) rfl (by kernel_rfl) (by kernel_rfl) (by kernel_rfl) (fun _ _ _ h => h) (Or.inl ⟨by rfl, ?_⟩) (by assumption) ?_
          rotate_left
          · (intro w hSw; (try dsimp only at hSw); (try have hcs := hcells w hSw); (try go_split_ands); go_simp <;> with_reducible rfl)
          (try simp only [Act.put, List.setIfInBounds_toArray, List.set_cons_zero, List.set_cons_succ])
          refine wpAnyH_take (i := 16) (oi := { dst := some 74, op := Op.binOp BinOp.gtr 3 (Operand.tmp 73) (Operand.const (Value.int IntKind.i64 0)) 3, type := 4, pos := "law.go:112", after := #[{ on := 15, ground := Ground.data }, { on := 14, ground := Ground.guard }], guard := some (14, false) }) (v := ?_) rfl (by kernel_rfl) (by kernel_rfl) (by kernel_rfl) (fun _ _ _ h => h) (Or.inl ⟨by rfl, ?_⟩) (by assumption) ?_
          rotate_left
          · (intro w hSw; (try dsimp only at hSw); (try have hcs := hcells w hSw); (try go_split_ands); go_simp <;> with_reducible rfl)
          (try simp only [Act.put, List.setIfInBounds_toArray, List.set_cons_zero, List.set_cons_succ])
          refine wpAnyH_take (i := 17) (oi := { dst := some 75, op := Op.move (Operand.tmp 74), type := 4, pos := "law.go:112", after := #[{ on := 16, ground := Ground.data }, { on := 14, ground := Ground.chain }, { on := 14, ground := Ground.guard }], guard := some (14, false) }) (v := ?_) rfl (by kernel_rfl) (by kernel_rfl) (by kernel_rfl) (fun _ _ _ h => h) (Or.inl ⟨by rfl, ?_⟩) (by assumption) ?_
          rotate_left
          · (intro w hSw; (try dsimp only at hSw); (try have hcs := hcells w hSw); (try go_split_ands); go_simp <;> with_reducible rfl)
          (try simp only [Act.put, List.setIfInBounds_toArray, List.set_cons_zero, List.set_cons_succ])
          refine wpAnyH_take (i := 18) (oi := { dst := some 76, op := Op.move (Operand.tmp 12), type := 26, pos := "law.go:112", after := #[{ on := 17, ground := Ground.guard }], guard := some (17, true) }) (v := ?_) rfl (by kernel_rfl) (by kernel_rfl) (by kernel_rfl) (fun _ _ _ h => h) (Or.inl ⟨by rfl, ?_⟩) (by assumption) ?_
          rotate_left
          · (intro w hSw; (try dsimp only at hSw); (try have hcs := hcells w hSw); (try go_split_ands); go_simp <;> with_reducible rfl)
          (try simp only [Act.put, List.setIfInBounds_toArray, List.set_cons_zero, List.set_cons_succ])
          refine wpAnyH_take (i := 19) (oi := { dst := some 77, op := Op.move (Operand.tmp 13), type := 3, pos := "law.go:112", after := #[{ on := 17, ground := Ground.guard }], guard := some (17, true) }) (v := ?_) rfl (by kernel_rfl) (by kernel_rfl) (by kernel_rfl) (fun _ _ _ h => h) (Or.inl ⟨by rfl, ?_⟩) (by assumption) ?_
          rotate_left
          · (intro w hSw; (try dsimp only at hSw); (try have hcs := hcells w hSw); (try go_split_ands); go_simp <;> with_reducible rfl)
          (try simp only [Act.put, List.setIfInBounds_toArray, List.set_cons_zero, List.set_cons_succ])
          refine wpAnyH_take (i := 20) (oi := { dst := some 78, op := Op.binOp BinOp.sub 3 (Operand.tmp 77) (Operand.const (Value.int IntKind.i64 1)) 3, type := 3, pos := "law.go:112", after := #[{ on := 19, ground := Ground.data }, { on := 17, ground := Ground.guard }], guard := some (17, true) }) (v := ?_) rfl (by kernel_rfl) (by kernel_rfl) (by kernel_rfl) (fun _ _ _ h => h) (Or.inl ⟨by rfl, ?_⟩) (by assumption) ?_
          rotate_left
          · (intro w hSw; (try dsimp only at hSw); (try have hcs := hcells w hSw); (try go_split_ands); go_simp <;> with_reducible rfl)
          (try simp only [Act.put, List.setIfInBounds_toArray, List.set_cons_zero, List.set_cons_succ])
          refine wpAnyH_take (i := 21) (oi := { dst := some 79, op := Op.indexAddr 26 (Operand.tmp 76) (Operand.tmp 78), type := 0, pos := "law.go:112", after := #[{ on := 18, ground := Ground.data }, { on := 20, ground := Ground.data }, { on := 17, ground := Ground.guard }], guard := some (17, true) }) (v := ?_) rfl (by kernel_rfl) (by kernel_rfl) (by kernel_rfl) (fun _ _ _ h => h) (Or.inl ⟨by rfl, ?_⟩) (by assumption) ?_
          rotate_left
          · (intro w hSw; (try dsimp only at hSw); (try have hcs := hcells w hSw); (try go_split_ands); go_simp <;> with_reducible rfl)
          (try simp only [Act.put, List.setIfInBounds_toArray, List.set_cons_zero, List.set_cons_succ])
          refine wpAnyH_take (i := 22) (oi := { dst := some 80, op := Op.load 3 (Operand.tmp 79), type := 3, pos := "law.go:112", after := #[{ on := 21, ground := Ground.data }, { on := 17, ground := Ground.guard }], guard := some (17, true) }) (v := ?_) rfl (by kernel_rfl) (by kernel_rfl) (by kernel_rfl) (fun _ _ _ h => h) (Or.inl ⟨by rfl, ?_⟩) (by assumption) ?_
          rotate_left
          · (intro w hSw; (try dsimp only at hSw); (try have hcs := hcells w hSw); (try go_split_ands); go_simp <;> with_reducible rfl)
          (try simp only [Act.put, List.setIfInBounds_toArray, List.set_cons_zero, List.set_cons_succ])
          refine wpAnyH_take (i := 23) (oi := { dst := some 81, op := Op.move (Operand.tmp 14), type := 3, pos := "law.go:112", after := #[{ on := 17, ground := Ground.guard }], guard := some (17, true) }) (v := ?_) rfl (by kernel_rfl) (by kernel_rfl) (by kernel_rfl) (fun _ _ _ h => h) (Or.inl ⟨by rfl, ?_⟩) (by assumption) ?_
          rotate_left
          · (intro w hSw; (try dsimp only at hSw); (try have hcs := hcells w hSw); (try go_split_ands); go_simp <;> with_reducible rfl)
          (try simp only [Act.put, List.setIfInBounds_toArray, List.set_cons_zero, List.set_cons_succ])
          refine wpAnyH_take (i := 24) (oi := { dst := some 82, op := Op.binOp BinOp.geq 3 (Operand.tmp 80) (Operand.tmp 81) 3, type := 4, pos := "law.go:112", after := #[{ on := 22, ground := Ground.data }, { on := 23, ground := Ground.data }, { on := 17, ground := Ground.guard }], guard := some (17, true) }) (v := ?_) rfl (by kernel_rfl) (by kernel_rfl) (by kernel_rfl) (fun _ _ _ h => h) (Or.inl ⟨by rfl, ?_⟩) (by assumption) ?_
          rotate_left
          · (intro w hSw; (try dsimp only at hSw); (try have hcs := hcells w hSw); (try go_split_ands); go_simp <;> with_reducible rfl)
          (try simp only [Act.put, List.setIfInBounds_toArray, List.set_cons_zero, List.set_cons_succ])
          refine wpAnyH_take (i := 25) (oi := { dst := some 83, op := Op.pick (Operand.tmp 75) (Operand.tmp 82) (Operand.const (Value.bool false)), type := 4, pos := "law.go:112", after := #[{ on := 17, ground := Ground.data }, { on := 24, ground := Ground.data }, { on := 14, ground := Ground.guard }], guard := some (14, false) }) (v := ?_) rfl (by kernel_rfl) (by kernel_rfl) (by kernel_rfl) (fun _ _ _ h => h) (Or.inl ⟨by rfl, ?_⟩) (by assumption) ?_
          rotate_left
          · (intro w hSw; (try dsimp only at hSw); (try have hcs := hcells w hSw); (try go_split_ands); go_simp <;> with_reducible rfl)
          (try simp only [Act.put, List.setIfInBounds_toArray, List.set_cons_zero, List.set_cons_succ])
          refine wpAnyH_take (i := 26) (oi := { dst := some 84, op := Op.pick (Operand.tmp 72) (Operand.const (Value.bool true)) (Operand.tmp 83), type := 4, pos := "law.go:112", after := #[{ on := 14, ground := Ground.data }, { on := 25, ground := Ground.data }], guard := none }) (v := ?_) rfl (by kernel_rfl) (by kernel_rfl) (by kernel_rfl) (fun _ _ _ h => h) (Or.inl ⟨by rfl, ?_⟩) (by assumption) ?_
          rotate_left
          · (intro w hSw; (try dsimp only at hSw); (try have hcs := hcells w hSw); (try go_split_ands); go_simp <;> with_reducible rfl)
          (try simp only [Act.put, List.setIfInBounds_toArray, List.set_cons_zero, List.set_cons_succ])
          refine wpAnyH_done (by kernel_rfl) ?_ _
          have hgq := hgr _ hHeld
          obtain ⟨wq, hwq⟩ : ∃ W, W = wr.drew := ⟨_, rfl⟩
          rw [← hwq] at hgq ⊢
          have HG2 : Hid (IsGr W2 wq) := HG.out.trans hgq
          clear hHeld hgr hin hcl hcells CW c0 cx ca cb cg XCL hd1 hyb hyb2 hiq er er2 hqk hgq hwq HG
          gi_wp2
          go_roundw
          case rel => exact ⟨i + 1, by simp, by omega, HG2⟩
          case measure => simp [intOf]; omega

      · have HIk : Hid (i = kk) := by show i = kk; omega
        have hin' : ¬ (i : Int) < kk := by omega
        have hVr := H2.out.1.gr HG.out
        have cs := hVr.cs
        have fs := hVr.fs
        have K3 : Hid (KpG w5.heap.size W wr) := H2.out.2.trans (KpG.gr HG.out)
        have es : IntKind.i64.wrap ((s : Int) + (kk : Int)) = (s : Int) + (kk : Int) := by rw [IntKind.wrap_i64]; have := HF.out; have := HX.out; omega
        have HV3 : Hid (LuV w w1.heap.size n stop x (.slice sa n sc) (s + kk) k l0 (wr.setCell ⟨w1.heap.size + 1, 0, none⟩ (.int .i64 ((s + kk : Nat) : Int)))) := hVr.setS (s + kk)
        have hcast : ((s + kk : Nat) : Int) = (s : Int) + (kk : Int) := by simp
        rw [hcast] at HV3
        clear hik hin2 hVr HG H2 HL2 HL HV hcast
        gi_upto_region 19 with fail
        obtain ⟨W3, hW3⟩ : ∃ V, wr.setCell ⟨w1.heap.size + 1, 0, none⟩ (.int .i64 ((s : Int) + (kk : Int))) = V := ⟨_, rfl⟩
        have K4 : Hid (KpG w5.heap.size W W3) := by rw [← hW3]; exact K3.out.trans (KpG.set (by have := HS5.out; omega))
        rw [hW3] at HV3 ⊢
        have ck := HV3.out.ck
        have fk := HV3.out.fk
        have ek : IntKind.i64.wrap ((k : Int) + 1) = (k : Int) + 1 := by rw [IntKind.wrap_i64]; have := HF.out; have := HX.out; have := cntU_le x x.length; omega
        have HV4 : Hid (LuV w w1.heap.size n stop x (.slice sa n sc) (s + kk) (k + 1) l0 (W3.setCell ⟨w1.heap.size + 1 + 1, 0, none⟩ (.int .i64 ((k + 1 : Nat) : Int)))) := HV3.out.setK (k + 1)
        have hcast : ((k + 1 : Nat) : Int) = (k : Int) + 1 := by simp
        rw [hcast] at HV4
        clear cs fs es hW3 K3 HV3 hcast
        gi_upto_region 20 with fail
        obtain ⟨W4, hW4⟩ : ∃ V, W3.setCell ⟨w1.heap.size + 1 + 1, 0, none⟩ (.int .i64 ((k : Int) + 1)) = V := ⟨_, rfl⟩
        have K5 : Hid (KpG w5.heap.size W W4) := by rw [← hW4]; exact K4.out.trans (KpG.set (by have := HS5.out; omega))
        rw [hW4] at HV4 ⊢
        have ck := HV4.out.ck
        have hcast : ((k + 1 : Nat) : Int) = (k : Int) + 1 := by simp
        rw [hcast] at ck
        have c1 := HV4.out.c1
        clear fk ek hW4 K4 hcast
        by_cases hss : (k : Int) + 1 = stop
        · have hs1 : ((k : Int) + 1 == stop) = true := by simpa using hss
          have CA := awake_any W4
          clear hss
          gi_wp2
          refine ⟨trivial, ?_⟩
          refine (CallsIn.inRound lq (callsIn_wide.2 CA)).mono ?_
          clear CA
          rintro e W5 ⟨rfl, hb5⟩
          have h2 := (hb5.cell (p := ⟨w.heap.size + 1 + 1, 0, none⟩) (block_lt HV4.out.c2)).trans HV4.out.c2
          have k2 := (hb5.frozen (p := ⟨w.heap.size + 1 + 1, 0, none⟩) (block_lt HV4.out.c2)).trans HV4.out.f2
          have K6 : KpG w5.heap.size W (W5.setCell ⟨w.heap.size + 1 + 1, 0, none⟩ (.bool true)) := (K5.out.trans (KpG.gr (IsGr.of_below hb5))).trans (KpG.set (by have := HS5.out; omega))
          have FX : Hid ((KeptB w5.heap.size W (W5.setCell ⟨w.heap.size + 1 + 1, 0, none⟩ (.bool true)) ∧ KpG (w5.heap.size + 2) W (W5.setCell ⟨w.heap.size + 1 + 1, 0, none⟩ (.bool true))) ∧ LuX w (W5.setCell ⟨w.heap.size + 1 + 1, 0, none⟩ (.bool true))) :=
            ⟨⟨K6.kept HVs.out, K6.mono (by omega)⟩, ⟨cell_s h2, by rw [World.frozen?_setCell]; exact k2⟩, (HV4.out.bel.trans (hb5.mono HV4.out.bel.size)).setCell (p := ⟨w.heap.size + 1 + 1, 0, none⟩) (by simp; omega) _, by rw [set_size]; have := HV4.out.size; have := hb5.size; have := HS5.out; omega⟩
          clear K6 hb5 c1 ck hs1
          gi_wp2
          exact ⟨FX.out.1, rfl, FX.out.2⟩
        · have hs1 : ((k : Int) + 1 == stop) = false := by simpa using hss
          have FX : Hid ((KeptB w5.heap.size W W4 ∧ KpG (w5.heap.size + 2) W W4) ∧ LuI w w1.heap.size n stop x (.slice sa n sc) (pre ++ [Value.slice (some ⟨gr, 0, none⟩) kk kr]) W4) := by
            refine ⟨⟨K5.out.kept HVs.out, K5.out.mono (by omega)⟩, (l0 : Int), ?_, ?_⟩
            · have := HV4.out
              rw [← HF.out.2.1, ← HF.out.1] at this
              rw [List.length_append]
              exact this
            · rw [List.length_append, HF.out.1]
              exact LastO.next HF.out.2.2.1
          clear hss
          gi_wp2
          exact FX.out
theorem law_groups (k : Int) (a : Option Addr) (m c : Nat) (l : List (Int × Int)) (z : Int) (_ : -9223372036854775808 ≤ k) (_ : k < 9223372036854775808) (_ : -9223372036854775808 ≤ z) (_ : z < 9223372036854775808) (w : World) (h : Ops w a m l) :
    Calls Try.prog 4 #[.int .i64 k, .slice a m c, .int .i64 z] w fun e w' => e = .returned (.bool true) ∧ Below w.heap.size w w' := by
  by_cases h1 : k < 0
  · exact law_groups_lo k h1 a m c z w
  · by_cases h2 : 60 < k
    · exact law_groups_hi k h2 a m c z w
    · by_cases hm : m ≤ 80
      · have h3 := law_groups_few k.toNat a m c l z w h (by omega) hm
        have e : ((k.toNat : Nat) : Int) = k := by omega
        rw [e] at h3
        exact h3
      · exact law_groups_len k h1 h2 a m c z w hm
end Go.Proofs.Ytchbnkapajnjgaa
