/- gromalaw07 over the loaded program: awake. -/
import Derived.Test.YtblnpabgakmghaaN9
import Derived.Test.YtblnpabgakmghaaN7
namespace Go.Proofs.Ytblnpabgakmghaa
open Go.RowKit Go.Shelf
attribute [local go_sem] Gr.size Gr.cell? Gr.frozen? Gr.setCell Gr.drew Gr.drewN Gr.of_drew Gr.of_drewN Gr.gr Gr.lt_of1 Gr.le_of1 Gr.lt_of2 Gr.le_of2 Gr.lt_of3 Gr.le_of3 Gr.lt_of4 Gr.le_of4 Gr.lt_of5 Gr.le_of5 Gr.lt_of6 Gr.le_of6 Gr.lt_of7 Gr.le_of7 Gr.lt_of8 Gr.le_of8 Gr.lt_of9 Gr.le_of9 Gr.lt_of10 Gr.le_of10 Gr.lt_of11 Gr.le_of11 Gr.lt_of12 Gr.le_of12 Gr.lt_of13 Gr.le_of13 Gr.lt_of14 Gr.le_of14 Gr.lt_of15 Gr.le_of15 Gr.lt_of16 Gr.le_of16 Gr.lt_of17 Gr.le_of17 Gr.lt_of18 Gr.le_of18 Gr.lt_of19 Gr.le_of19 Gr.lt_of20 Gr.le_of20 Gr.lt_of21 Gr.le_of21 Gr.lt_of22 Gr.le_of22 Gr.lt_of23 Gr.le_of23 Gr.lt_of24 Gr.le_of24
theorem lit_rd (W : World) (X : List Int) (n : Nat) (hn : n = X.length) (hi : ∀ x ∈ X, I64 x) : Rd (W.alloc (.cells (X.map fun x => Value.int .i64 x).toArray 3)) (.slice (some ⟨W.heap.size, 0, none⟩) n n) X :=
  Seg.rd (X := X) ⟨_, World.alloc_heap_new W _, fun i hi => by rw [Nat.zero_add]; simp [List.getD, hi]⟩ hn (Nat.le_refl _) hi
theorem ints_lit {X : List Int} (h : X.all (fun z => decide (-9223372036854775808 ≤ z ∧ z < 9223372036854775808)) = true) : ∀ x ∈ X, I64 x := fun x hx => i64_lit (List.all_eq_true.1 h x hx)
set_option maxRecDepth 20000 in set_option maxHeartbeats 2000000 in
theorem awake_any (w : World) : Calls Try.prog 9 #[] w fun e w' => e = .returned (.bool true) ∧ Below w.heap.size w w' := by
  have R0 := lit_rd w [31, 12, 33, 14] 4 rfl (ints_lit (by decide))
  obtain ⟨w0, hw0⟩ : ∃ W, w.alloc (.cells ([31, 12, 33, 14].map fun x => Value.int .i64 x).toArray 3) = W := ⟨_, rfl⟩
  have B0 : Below w.heap.size w w0 := hw0 ▸ ((IsGr.refl w).alloc _).below
  have hs0 : w0.heap.size = w.heap.size + 1 := by rw [← hw0]; simp
  have R1 := lit_rd w0 [12, 31] 2 rfl (ints_lit (by decide))
  have CF := Find_any tens_ordr _ [12, 31] 35 1 true _ R1 (by unfold Srt; decide) (i64_lit (by decide)) (by decide) ⟨by decide, by decide⟩
  rw [hw0] at R0
  have HL : Hid (∀ W, Below w0.heap.size w0 W → Below w.heap.size w W ∧ Rd W (.slice (some ⟨w.heap.size, 0, none⟩) 4 4) [31, 12, 33, 14]) := fun W hB => ⟨B0.trans (hB.mono B0.size), R0.below hB⟩
  have HG : Hid (IsGr w0 (w0.alloc (.cells ([12, 31].map fun x => Value.int .i64 x).toArray 3))) := (IsGr.refl w0).alloc _
  clear R0 R1 B0 hs0
  simp only [List.map_cons, List.map_nil] at hw0 CF HG
  go_enter Try.func9, Try.ntmps9
  go_wp2_with fail
  refine CF.mono ?_
  clear CF
  rintro e w1 ⟨rfl, hg1⟩
  have H1 := HL.out w1 ((HG.out.trans hg1).below)
  have CS := Sort_any tens_ordr _ _ w1 H1.2 (zn_some _ _ _) (by decide)
  have e1 : isort tq [31, 12, 33, 14] = [12, 14, 31, 33] := by decide
  rw [e1] at CS
  have H1h : Hid (Below w0.heap.size w0 w1) := (HG.out.trans hg1).below
  clear H1 hg1 HG hw0
  go_wp2_with fail
  refine CS.mono ?_
  clear CS
  rintro e w2 ⟨v2, rfl, hl2, hb2⟩
  have H2 : Hid (Below w0.heap.size w0 w2) := H1h.out.trans (hb2.mono H1h.out.size)
  have R2 := lit_rd w2 [12, 14, 31, 33] 4 rfl (ints_lit (by decide))
  obtain ⟨w3, hw3⟩ : ∃ W, w2.alloc (.cells ([12, 14, 31, 33].map fun x => Value.int .i64 x).toArray 3) = W := ⟨_, rfl⟩
  have hg3 : IsGr w2 w3 := hw3 ▸ (IsGr.refl w2).alloc _
  rw [hw3] at R2
  have E1 := equal_any _ _ _ _ w3 ((Rd.of_lst hl2 (ints_lit (by decide))).gr hg3) R2 (by decide)
  rw [decide_eq_true rfl] at E1
  have H3 : Hid (Below w0.heap.size w0 w3) := H2.out.trans (hg3.below.mono H2.out.size)
  simp only [List.map_cons, List.map_nil] at hw3
  clear R2 hg3 hl2 hb2
  go_wp2_with fail
  refine E1.mono ?_
  clear E1
  rintro e w4 ⟨rfl, hg4⟩
  have H4 : Hid (Below w0.heap.size w0 w4) := H3.out.trans (hg4.below.mono H3.out.size)
  have CO := Once_any tens_ordr _ _ w4 (HL.out w4 H4.out).2 (zn_some _ _ _) (by decide)
  have e2 : onc tq none (isort tq [31, 12, 33, 14]) = [12, 31] := by decide
  rw [e2] at CO
  clear hg4 hw3 e1 e2
  go_wp2_with fail
  refine CO.mono ?_
  clear CO
  rintro e w5 ⟨v5, rfl, hl5, hb5⟩
  have H5 : Hid (Below w0.heap.size w0 w5) := H4.out.trans (hb5.mono H4.out.size)
  have R5 := lit_rd w5 [12, 31] 2 rfl (ints_lit (by decide))
  obtain ⟨w6, hw6⟩ : ∃ W, w5.alloc (.cells ([12, 31].map fun x => Value.int .i64 x).toArray 3) = W := ⟨_, rfl⟩
  have hg6 : IsGr w5 w6 := hw6 ▸ (IsGr.refl w5).alloc _
  rw [hw6] at R5
  have E2 := equal_any _ _ _ _ w6 ((Rd.of_lst hl5 (ints_lit (by decide))).gr hg6) R5 (by decide)
  rw [decide_eq_true rfl] at E2
  have H6 : Hid (Below w0.heap.size w0 w6) := H5.out.trans (hg6.below.mono H5.out.size)
  simp only [List.map_cons, List.map_nil] at hw6
  clear R5 hg6 hl5 hb5
  go_wp2_with fail
  refine E2.mono ?_
  clear E2
  rintro e w7 ⟨rfl, hg7⟩
  have H7 : Hid (Below w0.heap.size w0 w7) := H6.out.trans (hg7.below.mono H6.out.size)
  have CT := Sorted_any tens_ordr _ _ w7 (HL.out w7 H7.out).2 (by decide)
  have e3 : decide (Srt tq [31, 12, 33, 14]) = false := by decide
  rw [e3] at CT
  clear hg7 hw6 e3
  go_wp2_with fail
  refine CT.mono ?_
  clear CT
  rintro e w8 ⟨rfl, hg8⟩
  have H8 : Hid (Below w0.heap.size w0 w8) := H7.out.trans (hg8.below.mono H7.out.size)
  clear hg8
  go_wp2_with fail
  go_ret
  exact ⟨rfl, (HL.out w8 H8.out).1⟩
end Go.Proofs.Ytblnpabgakmghaa
