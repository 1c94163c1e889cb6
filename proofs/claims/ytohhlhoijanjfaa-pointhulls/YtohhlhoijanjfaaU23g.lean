/- Points in a row of memory, and what slices.Clone, slices.SortFunc and slices.Reverse make of them. -/
import Derived.Test.YtohhlhoijanjfaaShelf
import Derived.Test.YtohhlhoijanjfaaShelf2
import Derived.Test.YtohhlhoijanjfaaU22g
import Derived.Test.YtohhlhoijanjfaaU6
import Derived.Test.YtohhlhoijanjfaaU9
import Derived.Lib.OwnBridge
namespace Go.Proofs.Ytohhlhoijanjfaa
open Go Go.RowKit Go.Shelf Go.Sort Go.Lib
attribute [local go_sem] Gr.size Gr.cell? Gr.frozen? Gr.setCell Gr.drew Gr.drewN Gr.of_drew Gr.of_drewN Gr.gr Gr.lt_of1 Gr.le_of1 Gr.lt_of2 Gr.le_of2 Gr.lt_of3 Gr.le_of3 Gr.lt_of4 Gr.le_of4 Gr.lt_of5 Gr.le_of5 Gr.lt_of6 Gr.le_of6 Gr.lt_of7 Gr.le_of7 Gr.lt_of8 Gr.le_of8 Gr.lt_of9 Gr.le_of9 Gr.lt_of10 Gr.le_of10 Gr.lt_of11 Gr.le_of11 Gr.lt_of12 Gr.le_of12 Gr.lt_of13 Gr.le_of13 Gr.lt_of14 Gr.le_of14 Gr.lt_of15 Gr.le_of15 Gr.lt_of16 Gr.le_of16 Gr.lt_of17 Gr.le_of17 Gr.lt_of18 Gr.le_of18 Gr.lt_of19 Gr.le_of19 Gr.lt_of20 Gr.le_of20 Gr.lt_of21 Gr.le_of21 Gr.lt_of22 Gr.le_of22 Gr.lt_of23 Gr.le_of23 Gr.lt_of24 Gr.le_of24

/-- A point's two cells. -/
def encP (x : Int × Int) : List Value := [.int .i64 x.1, .int .i64 x.2]
theorem encP_one : ∀ x, ∀ v ∈ encP x, v.oneCell' = true := fun x v hv => by
  simp [encP] at hv
  rcases hv with rfl | rfl <;> rfl
/-- The row at g holds d, and may be written. -/
def RowH (w : World) (g n c : Nat) (d : List (Int × Int)) : Prop := d.length = n ∧ n ≤ c ∧ c ≤ maxLen ∧ g < w.heap.size ∧ HoldsK encP 2 w g 0 d.toArray
theorem get_list (d : List (Int × Int)) (i : Nat) (h : i < d.length) : d.toArray[i]! = d.getD i (0, 0) := by
  simp [h]
theorem RowH.cell {w : World} {g n c : Nat} {d : List (Int × Int)} (h : RowH w g n c d) {i : Nat} (hi : i < n) : (w.cell? ⟨g, i * 2, none⟩ = some (.int .i64 (d.getD i (0, 0)).1) ∧ w.cell? ⟨g, i * 2 + 1, none⟩ = some (.int .i64 (d.getD i (0, 0)).2)) ∧ w.frozen? ⟨g, i * 2, none⟩ = false ∧ w.frozen? ⟨g, i * 2 + 1, none⟩ = false := by
  obtain ⟨h1, _, _, _, h2⟩ := h
  have hs : i < d.toArray.size := by simp; omega
  have k0 := h2.cell hs (show 0 < 2 by omega)
  have k1 := h2.cell hs (show 1 < 2 by omega)
  rw [get_list d i (by omega)] at k0 k1
  simp only [Nat.zero_add, Nat.add_zero] at k0 k1
  exact ⟨⟨k0.1, k1.1⟩, k0.2, k1.2⟩
theorem RowH.pts {w : World} {g n c : Nat} {d : List (Int × Int)} (h : RowH w g n c d) : Pts w (.slice (some ⟨g, 0, none⟩) n c) d := by
  obtain ⟨h1, h2, h3, h4, _⟩ := id h
  refine ⟨some ⟨g, 0, none⟩, c, by rw [h1], by omega, h3, Or.inr ⟨g, 0, rfl, h4, fun i hi => ?_⟩⟩
  rw [Nat.zero_add]
  exact (h.cell (by omega)).1
theorem RowH.of_own {w : World} {B g n c : Nat} {T : TypeId} {d : List (Int × Int)} (h : w.ownsRow B T 2 (.slice (some ⟨g, 0, none⟩) n c) n (ptCs d)) : RowH w g n c d ∧ B ≤ g := by
  have hp := (Pts.of_own h).1
  have hQ := (Pts.of_own h).2
  obtain ⟨h1, h2⟩ := h
  rcases h2 with ⟨h2, _⟩ | ⟨g', cap, cur, e1, hB, hb, hc1, hc2, hs, ht⟩
  · cases h2
  · injection e1 with e1 e2 e3
    injection e1 with e1
    injection e1 with e1
    subst e1 e3
    refine ⟨⟨hp.symm, hc1, hc2, (Array.getElem?_eq_some_iff.1 hb).1, fun j hj => ?_⟩, hB⟩
    rw [size_flatK] at hj
    simp only [List.size_toArray] at hj
    refine ⟨?_, by simp [World.frozen?, hb]⟩
    rw [get_flatK _ _ _ _ (by simpa using hj), get_list d _ (by omega)]
    have hn : 0 < n := by omega
    obtain ⟨g2, o2, e9, _, hc⟩ := hQ.at (k := 0) hn
    injection e9 with e9
    injection e9 with e91 e92
    subst e91 e92
    have h9 := hc (j / 2) (by omega)
    rcases Nat.mod_two_eq_zero_or_one j with hm | hm
    · have ej : 0 + j = 0 + j / 2 * 2 := by omega
      rw [ej, hm]
      exact h9.1
    · have ej : 0 + j = 0 + j / 2 * 2 + 1 := by omega
      rw [ej, hm]
      exact h9.2
theorem below_grow5 {B : Nat} {w0 w : World} {os : Array Obj} (h : RowKit.Below B w0 w) (hB : B ≤ w.heap.size) : RowKit.Below B w0 (grow w os) :=
  ⟨h.os, h.tape, h.output, by have := h.size; simp [grow]; omega, fun k hk => by
    rw [← h.block k hk]
    show (w.heap ++ os)[k]? = _
    rw [Array.getElem?_append_left (by omega)]⟩
/-- A row that is laid anew, and blocks behind it. -/
theorem put_grown {w : World} {g q : Nat} {e : List (Int × Int)} {os : Array Obj} : w.grownBy (grow (putRowK encP 2 (Sort.ahead w q) g 0 e.toArray) os) (some g) := by
  have hsz : (putRowK encP 2 (Sort.ahead w q) g 0 e.toArray).heap.size = w.heap.size := by simp [putRowK, Sort.putRow, Sort.mapBlock, Sort.ahead]
  refine ⟨rfl, rfl, rfl, by simp [grow, hsz], fun k hk hne => ?_⟩
  show ((putRowK encP 2 (Sort.ahead w q) g 0 e.toArray).heap ++ os)[k]? = _
  rw [Array.getElem?_append_left (by omega)]
  have : g ≠ k := fun h => hne (by rw [h])
  simp [putRowK, Sort.putRow, Sort.mapBlock, Sort.ahead, Array.getElem?_modify, this]
theorem RowH.put {w : World} {g n c q : Nat} {d e : List (Int × Int)} {os : Array Obj} (h : RowH w g n c d) (hl : e.length = d.length) : RowH (grow (putRowK encP 2 (Sort.ahead w q) g 0 e.toArray) os) g n c e ∧ ∀ B, B ≤ g → RowKit.Below B w (grow (putRowK encP 2 (Sort.ahead w q) g 0 e.toArray) os) := by
  obtain ⟨h1, h2, h3, h4, h5⟩ := h
  have hsz : (putRowK encP 2 (Sort.ahead w q) g 0 e.toArray).heap.size = w.heap.size := by simp [putRowK, Sort.putRow, Sort.mapBlock, Sort.ahead]
  refine ⟨⟨by omega, h2, h3, by simp [grow, hsz]; omega, ?_⟩, fun B hB => ?_⟩
  · exact holdsK_grow encP 2 _ os g 0 _ (by rw [hsz]; exact h4) (holdsK_putRowK encP 2 _ g 0 d.toArray e.toArray (holdsK_ahead encP 2 w q g 0 _ h5) (by simp [hl]))
  · exact below_grow5 (Go.Lib.below_putRow (RowKit.Below.refl B w) hB) (by show B ≤ (putRowK encP 2 (Sort.ahead w q) g 0 e.toArray).heap.size; rw [hsz]; omega)
set_option maxRecDepth 20000 in set_option maxHeartbeats 2000000 in
theorem Reverse_any (g n c : Nat) (d : List (Int × Int)) (w : World) (h : RowH w g n c d) (hn : n ≤ 4096) :
    Calls Try.prog 57 #[.slice (some ⟨g, 0, none⟩) n c] w fun e w' => e = .returned (.tuple #[]) ∧ RowH w' g n c d.reverse ∧ w.grownBy w' (some g) ∧ ∀ B, B ≤ g → RowKit.Below B w w' := by
  have hcon := AnyQ.slices_Reverse Try.laysRev 2 Try.isAgg24 Try.sizeOf24 encP (fun _ => rfl) encP_one g 0 c d.toArray w h.2.2.2.2 (by have := h.1; simp; omega)
  have hs : d.toArray.size = n := by simp [h.1]
  rw [hs] at hcon
  change Calls Try.prog 57 _ _ _ at hcon
  refine hcon.mono fun e w' ⟨he, q, hw⟩ => ⟨he, ?_⟩
  have h1 := h.put (e := d.reverse) (q := q) (os := #[]) (by simp)
  have h2 := put_grown (w := w) (g := g) (q := q) (e := d.reverse) (os := #[])
  rw [grow_empty] at h1 h2
  rw [hw]
  rw [List.reverse_toArray]
  exact ⟨h1.1, h2, h1.2⟩
theorem cmpP_lt (x y : Int × Int) : ltOf (fun x y : Int × Int => cmpP x.1 x.2 y.1 y.2) x y = decide (x.1 < y.1 ∨ x.1 = y.1 ∧ x.2 < y.2) := by
  unfold ltOf
  rw [Bool.eq_iff_iff]
  simp only [decide_eq_true_eq]
  rcases cmpP_cases x.1 x.2 y.1 y.2 with ⟨e, h⟩ | ⟨e, h⟩ | ⟨e, h⟩ <;> rw [e] <;> omega
theorem cmpP_swo : SWO (ltOf fun x y : Int × Int => cmpP x.1 x.2 y.1 y.2) where
  irrefl x := by rw [cmpP_lt]; simp
  trans x y z h1 h2 := by rw [cmpP_lt, decide_eq_true_eq] at *; omega
  ntrans x y z h1 h2 := by rw [cmpP_lt, decide_eq_false_iff_not] at *; omega
theorem compareInt_eq (x y : Int) : Lib.compareInt x y = cmpI x y := by
  unfold Lib.compareInt cmpI
  repeat' split
  all_goals omega
set_option maxRecDepth 20000 in set_option maxHeartbeats 2000000 in
theorem PCmp_lays (x y : Int × Int) (W : World) : Calls Try.prog 47 #[.agg #[.int .i64 x.1, .int .i64 x.2], .agg #[.int .i64 y.1, .int .i64 y.2]] W fun e w' => e = .returned (.int .i64 (cmpP x.1 x.2 y.1 y.2)) ∧ ∃ q os', w' = grow (W.drewN q) os' := by
  obtain ⟨a1, a2⟩ := x
  obtain ⟨b1, b2⟩ := y
  show Calls Try.prog 47 #[.agg #[.int .i64 a1, .int .i64 a2], .agg #[.int .i64 b1, .int .i64 b2]] W fun e w' => e = .returned (.int .i64 (cmpP a1 a2 b1 b2)) ∧ ∃ q os', w' = grow (W.drewN q) os'
  by_cases h : a1 = b1
  · have CC := fun w => Try.cmp_Compare_int a2 b2 w
    rw [compareInt_eq] at CC
    have HR : Hid (cmpI a2 b2 = cmpP a1 a2 b1 b2) := by unfold Hid cmpP; rw [if_pos h]
    generalize cmpI a2 b2 = K at CC HR
    subst h
    go_enter Try.func47, Try.ntmps47
    go_wp2_with fail
    refine (CC _).mono ?_
    rintro e w1 ⟨rfl, rfl⟩
    go_wp2
    go_ret
    refine ⟨ret_int' HR.out, ?_⟩
    first
      | exact ⟨0, _, by rw [alloc_eq_grow, alloc_eq_grow, grow_grow]; rfl⟩
      | exact ⟨1, _, by rw [alloc_eq_grow, alloc_eq_grow, grow_grow]; rfl⟩
      | exact ⟨2, _, by rw [alloc_eq_grow, alloc_eq_grow, grow_grow]; rfl⟩
  · have CC := fun w => Try.cmp_Compare_int a1 b1 w
    rw [compareInt_eq] at CC
    have HR : Hid (cmpI a1 b1 = cmpP a1 a2 b1 b2) := by unfold Hid cmpP; rw [if_neg h]
    generalize cmpI a1 b1 = K at CC HR
    go_enter Try.func47, Try.ntmps47
    go_wp2_with fail
    refine (CC _).mono ?_
    rintro e w1 ⟨rfl, rfl⟩
    go_wp2
    go_ret
    refine ⟨ret_int' HR.out, ?_⟩
    first
      | exact ⟨0, _, by rw [alloc_eq_grow, alloc_eq_grow, grow_grow]; rfl⟩
      | exact ⟨1, _, by rw [alloc_eq_grow, alloc_eq_grow, grow_grow]; rfl⟩
      | exact ⟨2, _, by rw [alloc_eq_grow, alloc_eq_grow, grow_grow]; rfl⟩
set_option maxRecDepth 20000 in set_option maxHeartbeats 2000000 in
theorem Sort_any (g n c : Nat) (d : List (Int × Int)) (w : World) (h : RowH w g n c d) (hn : n ≤ 4096) :
    Calls Try.prog 54 #[.slice (some ⟨g, 0, none⟩) n c, .func (.func 47) #[] #[]] w fun e w' => e = .returned (.tuple #[]) ∧ ∃ d' : List (Int × Int), d'.Perm d ∧ d'.Pairwise (fun x y => ltP 1 x y ∨ x = y) ∧ RowH w' g n c d' ∧ ∀ B, B ≤ g → RowKit.Below B w w' := by
  have eg : ∀ args w, (callFunc 47 args).run Try.prog w = .ok (.enter 47 args) w := enters_of Try.func47 (by kernel_rfl) rfl
  have hcon := AnyQ.slices_SortFunc Try.laysSort 2 Try.isAgg24 Try.sizeOf24 encP (fun _ => rfl) encP_one (fun x y => cmpP x.1 x.2 y.1 y.2) cmpP_swo 47 #[] g 0 c d.toArray w eg (fun _ _ _ _ x y => PCmp_lays x y _) h.2.2.2.2 h.2.2.2.1 (by have := h.1; simp; omega)
  have hs : d.toArray.size = n := by simp [h.1]
  rw [hs] at hcon
  change Calls Try.prog 54 _ _ _ at hcon
  refine hcon.mono fun e w' ⟨he, d', q, os, hp, ho, hw⟩ => ⟨he, d'.toList, ?_, ?_, ?_⟩
  · have h3 := hp.2.2
    have e1 : d'.extract 0 n = d' := by rw [← hs, ← hp.1]; simp
    have e2 : d.toArray.extract 0 n = d.toArray := by rw [← hs]; simp
    rw [e1, e2] at h3
    simpa using h3
  · have hl : d'.size = n := hp.1.trans hs
    rw [List.pairwise_iff_getElem]
    intro i j hi hj hij
    have := ho i j (Nat.zero_le _) hij (by simp at hj; omega)
    rw [cmpP_lt, decide_eq_false_iff_not] at this
    have g1 : d'[i]! = d'.toList[i] := by simp at hi; simp [hi]
    have g2 : d'[j]! = d'.toList[j] := by simp at hj; simp [hj]
    rw [g1, g2] at this
    generalize d'.toList[i] = x at *
    generalize d'.toList[j] = y at *
    by_cases hxy : x = y
    · exact Or.inr hxy
    · left
      have : ¬ (x.1 = y.1 ∧ x.2 = y.2) := fun h => hxy (Prod.ext h.1 h.2)
      unfold ltP posV
      omega
  · have hl : d'.toList.length = d.length := by have := hp.1; simpa using this
    have := h.put (e := d'.toList) (q := q) (os := os) hl
    rw [hw]
    simpa [sortWorldK] using this
end Go.Proofs.Ytohhlhoijanjfaa
