/- Lists of Bigs of the call's own. -/
import Derived.Test.YtfpifbfnebfdaaaDoorI2
import Derived.Test.YtfpifbfnebfdaaaDoorS2
import Derived.Test.YtfpifbfnebfdaaaDoorR8
import Derived.Maps.AppendAt
namespace Go.Proofs.YtfpifbfnebfdaaaDoor
open Go.RowKit Go.Shelf
abbrev Bw := Bool × Option Addr × Nat × Nat
def bwV (t : Bw) : Value := .agg #[.bool t.1, .slice t.2.1 t.2.2.1 t.2.2.2]
def bwC (t : Bw) : List Value := [.bool t.1, .slice t.2.1 t.2.2.1 t.2.2.2]
def bwL (vs : List Bw) : List Value := vs.flatMap bwC
def bw0 : Bw := (false, none, 0, 0)
theorem bwL_len : ∀ vs, (bwL vs).length = vs.length * 2
  | [] => rfl
  | t :: vs => by
    have := bwL_len vs
    unfold bwL at this ⊢
    rw [List.flatMap_cons, List.length_append, this, List.length_cons]
    simp [bwC]; omega
theorem bwL_snoc (vs : List Bw) (t : Bw) : bwL (vs ++ [t]) = bwL vs ++ bwC t := by simp [bwL]
theorem bwL_at : ∀ (vs : List Bw) (i : Nat), i < vs.length → (bwL vs)[i * 2]? = some (.bool (vs.getD i bw0).1) ∧ (bwL vs)[i * 2 + 1]? = some (.slice (vs.getD i bw0).2.1 (vs.getD i bw0).2.2.1 (vs.getD i bw0).2.2.2)
  | [], i, h => by simp at h
  | t :: vs, 0, _ => ⟨rfl, rfl⟩
  | t :: vs, i + 1, h => by
    obtain ⟨h1, h2⟩ := bwL_at vs i (by simpa using h)
    have e : bwL (t :: vs) = .bool t.1 :: .slice t.2.1 t.2.2.1 t.2.2.2 :: bwL vs := by simp [bwL, bwC]
    rw [e, show (i + 1) * 2 = i * 2 + 1 + 1 by omega]
    simp only [List.getElem?_cons_succ, List.getD_cons_succ]
    exact ⟨h1, h2⟩
/-- A list of Bigs that lies in a block of its own, at base or behind it. -/
def LsB (w : World) (base : Nat) (v : Value) (vs : List Bw) : Prop := w.ownsRow base 29 2 v vs.length (bwL vs)
theorem info_big2 : (Tryd.prog.info? 29).map (fun i => (i.zero, i.size, i.bytes)) = some (some (.agg #[.bool false, .slice none 0 0]), 2, 32) := by kernel_rfl
section
variable {w w' : World} {base : Nat} {v : Value} {vs : List Bw}
theorem LsB.keep (h : LsB w base v vs) (hk : ∀ g, v.ownBlock = some g → w'.heap[g]? = w.heap[g]?) : LsB w' base v vs := by
  obtain ⟨h1, h2⟩ := h
  refine ⟨h1, ?_⟩
  rcases h2 with h2 | ⟨g, cap, cur, rfl, h3, h4, h5⟩
  · exact Or.inl h2
  · exact Or.inr ⟨g, cap, cur, rfl, h3, (hk g rfl).trans h4, h5⟩
theorem LsB.own (h : LsB w base v vs) : ∀ k, v.ownBlock = some k → base ≤ k ∧ k < w.heap.size := World.ownsRow.lt h
theorem LsB.gr (h : LsB w base v vs) (hg : IsGr w w') : LsB w' base v vs := h.keep (fun g e => hg.below.block g (h.own g e).2)
theorem LsB.nil (w : World) (base : Nat) : LsB w base (.slice none 0 0) [] := World.ownsRow_nil w base _ _
theorem LsB.form (h : LsB w base v vs) : ∃ a c, v = .slice a vs.length c ∧ (vs = [] ∧ a = none ∧ c = 0 ∨ ∃ g, a = some ⟨g, 0, none⟩ ∧ base ≤ g ∧ g < w.heap.size ∧ ∀ i, i < vs.length → w.cell? ⟨g, i * 2, none⟩ = some (.bool (vs.getD i bw0).1) ∧ w.cell? ⟨g, i * 2 + 1, none⟩ = some (.slice (vs.getD i bw0).2.1 (vs.getD i bw0).2.2.1 (vs.getD i bw0).2.2.2)) := by
  have h' := h
  obtain ⟨h1, h2⟩ := h
  rcases h2 with ⟨rfl, h3⟩ | ⟨g, cap, cur, rfl, h3, h4, h5, h6⟩
  · exact ⟨none, 0, by rw [h3], Or.inl ⟨List.length_eq_zero_iff.1 h3, rfl, rfl⟩⟩
  · refine ⟨_, _, rfl, Or.inr ⟨g, rfl, h3, (Array.getElem?_eq_some_iff.1 h4).1, fun i hi => ?_⟩⟩
    obtain ⟨q1, q2⟩ := bwL_at vs i hi
    exact ⟨(World.ownsRow.cellAt h' _ (by omega)).trans q1, (World.ownsRow.cellAt h' _ (by omega)).trans q2⟩
end
/-- No int lies in the list's block. -/
def NoI (W : World) (v : Value) : Prop := ∀ g, v.ownBlock = some g → ∃ cur, W.heap[g]? = some (.cells cur 29 (0, 0)) ∧ ∀ u ∈ cur.toList, ∀ n, u ≠ .int .i64 n
theorem NoI.keep {W W' : World} {v : Value} (h : NoI W v) (hk : ∀ g, v.ownBlock = some g → W'.heap[g]? = W.heap[g]?) : NoI W' v := fun g e => by
  obtain ⟨cur, h1, h2⟩ := h g e
  exact ⟨cur, (hk g e).trans h1, h2⟩
theorem NoI.kb {W W' : World} {v : Value} (h : NoI W v) (hg : W.grownBy W' v.ownBlock) : Kb W W' := by
  refine ⟨hg.size, fun g o n hc => ?_⟩
  by_cases hv : v.ownBlock = some g
  · exfalso
    obtain ⟨cur, h1, h2⟩ := h g hv
    have h3 : cur[o]? = some (.int .i64 n) := by rw [← hc]; simp [World.cell?, h1]
    have h4 := Array.mem_of_getElem? h3
    exact h2 _ (by simpa using h4) n rfl
  · exact (World.cell?_of_block (a := ⟨g, o, none⟩) (hg.block g (cell_lt hc) (Ne.symm hv))).trans hc
theorem zero_noi (k : Nat) : ∀ u ∈ (Builtin.zeroCells (Value.agg #[.bool false, .slice none 0 0]).cells k).toList, ∀ n, u ≠ .int .i64 n := by
  intro u hu n
  have hz : (Value.agg #[.bool false, .slice none 0 0]).cells = #[.bool false, .slice none 0 0] := rfl
  rw [hz] at hu
  simp only [Builtin.zeroCells, Array.toList_map, List.mem_map] at hu
  obtain ⟨i, -, rfl⟩ := hu
  have h2 : i % 2 = 0 ∨ i % 2 = 1 := by omega
  simp only [List.size_toArray, List.length_cons, List.length_nil]
  rcases h2 with h2 | h2 <;> rw [h2] <;> intro h <;> cases h
theorem bwC_noi (t : Bw) : ∀ u ∈ bwC t, ∀ n, u ≠ .int .i64 n := by
  intro u hu n
  simp [bwC] at hu
  rcases hu with rfl | rfl <;> intro h <;> cases h
theorem bwL_noi (vs : List Bw) : ∀ u ∈ bwL vs, ∀ n, u ≠ .int .i64 n := by
  intro u hu n
  obtain ⟨t, _, ht⟩ := List.mem_flatMap.1 hu
  exact bwC_noi t u ht n
set_option maxRecDepth 20000 in
/-- append of one to such a list. -/
theorem wpList_append_big {w : World} {ops : Array Oper} {rest : List Oper} {o : Oper} {a : Act} {Q : Exit → Act → World → Prop} (hgd : o.guard = none) (s x : Operand)
    (ho : o.op = .call { callee := .builtin .append, args := #[s, x], argTypes := #[55, 55] }) (base : Nat) (v : Value) (vs : List Bw) (t : Bw) (b c : Nat) (hs : a.eval s = v) (hx : a.eval x = .slice (some ⟨b, 0, none⟩) 1 c)
    (hX : LsB w base v vs) (hI : NoI w v) (h0 : w.cell? ⟨b, 0, none⟩ = some (.bool t.1)) (h1 : w.cell? ⟨b, 1, none⟩ = some (.slice t.2.1 t.2.2.1 t.2.2.2)) (hn : vs.length ≤ 1000000) (hb : base ≤ w.heap.size)
    (hK : ∀ v' w', LsB w' base v' (vs ++ [t]) → NoI w' v' → w.grownBy w' v.ownBlock → wpList Tryd.prog ops Q rest (a.put o.dst v') w') : wpList Tryd.prog ops Q (o :: rest) a w := by
  obtain ⟨i0, hi, hz0, hz1, hz2⟩ := info_parts info_big2
  have hne : ∀ j u, (bwC t)[j]? = some u → w.cell? ((⟨b, 0, none⟩ : Addr).add j) = some u := fun j u hu => by
    have hj : j < 2 := by have := (List.getElem?_eq_some_iff.1 hu).1; simpa [bwC] using this
    have e : (⟨b, 0, none⟩ : Addr).add j = ⟨b, j, none⟩ := by unfold Addr.add; split <;> simp_all
    rw [e]
    match j, hj with
    | 0, _ => rw [h0]; simpa [bwC] using hu
    | 1, _ => rw [h1]; simpa [bwC] using hu
  have hone : ∀ u ∈ bwC t, u.oneCell' = true := fun u hu => by
    simp [bwC] at hu
    rcases hu with rfl | rfl <;> rfl
  refine wpList_plain hgd fun K hKK => ?_
  obtain ⟨v', w', hr, r1, r2, -, -⟩ := run_append_own_at (P := Tryd.prog) w base 55 o.type 29 i0 (.agg #[.bool false, .slice none 0 0]) 2 32 Tryd.underlying55 hi hz0 hz1 hz2 rfl (by decide) v vs.length _ hX ⟨b, 0, none⟩ 1 c (bwC t) rfl hne hone (by unfold maxLen; omega) (by omega) hb
  have hN : NoI w' v' := by
    rcases hX.2 with ⟨rfl, hn0⟩ | ⟨g, cap, cur, rfl, hbg, hg, hnc, hcm, hcs, htk⟩
    · have e := hr.symm.trans (run_append_nil (P := Tryd.prog) w 55 o.type 29 i0 _ Tryd.underlying55 hi hz0 ⟨b, 0, none⟩ 1 c (bwC t) (by rw [hz1]; rfl) hne (by omega) (by omega) (by rw [hz2]; omega))
      injection e with e1 e2
      subst e1 e2
      intro g hg
      cases hg
      exact ⟨_, World.alloc_heap_new w.drew _, fun u hu n => by
        simp only [Array.toList_append, List.mem_append] at hu
        rcases hu with hu | hu
        · exact bwC_noi t u hu n
        · exact zero_noi _ u hu n⟩
    · obtain ⟨cur', hc1, hc2⟩ := hI g rfl
      have hcc : cur' = cur := by
        have := hc1.symm.trans hg
        injection this with this
        injection this
      subst hcc
      by_cases hroom : vs.length + 1 ≤ cap
      · have e := hr.symm.trans (run_append_room (P := Tryd.prog) w 55 o.type 29 i0 Tryd.underlying55 hi g vs.length cap cur' hg ⟨b, 0, none⟩ 1 c (bwC t) (by rw [hz1]; rfl) hne hone hroom (by rw [hz1, hcs]; simp [bwC]; omega))
        injection e with e1 e2
        subst e1 e2
        intro g' hg'
        cases hg'
        refine ⟨_, setRow_heap w g cur' _ 29 _ hg, fun u hu n => ?_⟩
        simp only [List.mem_append] at hu
        rcases hu with (hu | hu) | hu
        · exact hc2 u (List.mem_of_mem_take hu) n
        · exact bwC_noi t u hu n
        · exact hc2 u (List.mem_of_mem_drop hu) n
      · have holds : ∀ j u, (bwL vs)[j]? = some u → w.cell? ((⟨g, 0, none⟩ : Addr).add j) = some u := World.ownsRow.cells hX (g := g) rfl
        have e := hr.symm.trans (run_append_grow (P := Tryd.prog) w 55 o.type 29 i0 _ Tryd.underlying55 hi hz0 ⟨g, 0, none⟩ vs.length cap (bwL vs) (by rw [hz1, bwL_len]) holds ⟨b, 0, none⟩ 1 c (bwC t) (by rw [hz1]; rfl) hne (by omega) (by omega) (by rw [hz2]; exact growslice_fits (by omega) (by omega)))
        injection e with e1 e2
        subst e1 e2
        intro g' hg'
        cases hg'
        exact ⟨_, World.alloc_heap_new w.drew _, fun u hu n => by
          simp only [Array.toList_append, List.mem_append] at hu
          rcases hu with (hu | hu) | hu
          · exact bwL_noi vs u hu n
          · exact bwC_noi t u hu n
          · exact zero_noi _ u hu n⟩
  unfold Oper.wp execOp
  simp only [ho, resolve, invoke, builtin, Sem.run_bind, Sem.run_pure, Result.andThen_ok, List.map_toArray, List.map_cons, List.map_nil, hs, hx, hr]
  refine hKK _ _ (hK v' w' ?_ hN r2)
  unfold LsB
  rw [List.length_append, bwL_snoc]
  exact r1
/-- What the list holds: y, 2 y, 4 y .. -/
def BgL (W : World) (vs : List Bw) (y : Int) : Prop := ∀ i, i < vs.length → IsBig W (bwV (vs.getD i bw0)) (y * 2 ^ i)
theorem BgL.gr {W W' : World} {vs : List Bw} {y : Int} (h : BgL W vs y) (hg : IsGr W W') : BgL W' vs y := fun i hi => (h i hi).gr hg
theorem BgL.kb {W W' : World} {vs : List Bw} {y : Int} (h : BgL W vs y) (hg : Kb W W') : BgL W' vs y := fun i hi => (h i hi).kb hg
theorem BgL.snoc {W : World} {vs : List Bw} {y : Int} {t : Bw} (h : BgL W vs y) (ht : IsBig W (bwV t) (y * 2 ^ vs.length)) : BgL W (vs ++ [t]) y := fun i hi => by
  rw [List.length_append] at hi
  simp only [List.length_cons, List.length_nil] at hi
  by_cases h1 : i < vs.length
  · have e : (vs ++ [t]).getD i bw0 = vs.getD i bw0 := by simp only [List.getD_eq_getElem?_getD]; rw [List.getElem?_append_left h1]
    rw [e]; exact h i h1
  · have : i = vs.length := by omega
    subst this
    have e : (vs ++ [t]).getD vs.length bw0 = t := by simp [List.getD_eq_getElem?_getD]
    rw [e]; exact ht
theorem BgB.kb {W W' : World} {P : Nat} {z : Int} (h : BgB W P z) (hk : Kb W W') (hb : W'.heap[P]? = W.heap[P]?) : BgB W' P z := by
  obtain ⟨s, a, n, c, h1, h2⟩ := h
  exact ⟨s, a, n, c, hb.trans h1, h2.kb hk⟩
theorem kb_put {W : World} {P : Nat} {z : Int} {x y : Value} (h : BgB W P z) : Kb W ((W.setCell ⟨P, 0, none⟩ x).setCell ⟨P, 1, none⟩ y) := by
  obtain ⟨s, a, n, c, h1, h2⟩ := h
  refine ⟨by rw [set_size, set_size]; exact Nat.le_refl _, fun g o m hc => ?_⟩
  by_cases hg : g = P
  · exfalso
    subst hg
    have e : W.cell? ⟨g, o, none⟩ = (#[.bool s, .slice a n c] : Array Value)[o]? := by simp [World.cell?, h1]
    rw [e] at hc
    match o with
    | 0 => simp at hc
    | 1 => simp at hc
    | m + 2 => simp at hc
  · rw [← hc]
    exact World.cell?_of_block (by rw [set_block _ _ _ _ _ hg, set_block _ _ _ _ _ hg])
end Go.Proofs.YtfpifbfnebfdaaaDoor
