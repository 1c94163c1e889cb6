/- gromalaw07 over the loaded program: MergeSorts' law. -/
import Derived.Test.YtblnpabgakmghaaN10
import Derived.OwnWalk
namespace Go.Proofs.Ytblnpabgakmghaa
open Go.RowKit Go.Shelf
attribute [local go_sem] Gr.size Gr.cell? Gr.frozen? Gr.setCell Gr.drew Gr.drewN Gr.of_drew Gr.of_drewN Gr.gr Gr.lt_of1 Gr.le_of1 Gr.lt_of2 Gr.le_of2 Gr.lt_of3 Gr.le_of3 Gr.lt_of4 Gr.le_of4 Gr.lt_of5 Gr.le_of5 Gr.lt_of6 Gr.le_of6 Gr.lt_of7 Gr.le_of7 Gr.lt_of8 Gr.le_of8 Gr.lt_of9 Gr.le_of9 Gr.lt_of10 Gr.le_of10 Gr.lt_of11 Gr.le_of11 Gr.lt_of12 Gr.le_of12 Gr.lt_of13 Gr.le_of13 Gr.lt_of14 Gr.le_of14 Gr.lt_of15 Gr.le_of15 Gr.lt_of16 Gr.le_of16 Gr.lt_of17 Gr.le_of17 Gr.lt_of18 Gr.le_of18 Gr.lt_of19 Gr.le_of19 Gr.lt_of20 Gr.le_of20 Gr.lt_of21 Gr.le_of21 Gr.lt_of22 Gr.le_of22 Gr.lt_of23 Gr.le_of23 Gr.lt_of24 Gr.le_of24
theorem Lst.made0 (w : World) : Lst (w.alloc (.cells #[] 3)) w.heap.size (.slice (some ⟨w.heap.size, 0, none⟩) 0 0) [] := World.ownsRow_made w #[] 0 (Nat.le_refl _) (by unfold maxLen; omega) rfl

set_option maxRecDepth 20000 in set_option maxHeartbeats 2000000 in
theorem law_sorts_many (a : Option Addr) (n c : Nat) (w : World) (h : ¬ n ≤ 200) : Calls Try.prog 3 #[.slice a n c] w fun e w' => e = .returned (.bool true) ∧ Below w.heap.size w w' := by
  have h1 : (200 : Int) < n := by omega
  clear h
  have CA := awake_any w
  go_enter Try.func3, Try.ntmps3
  go_wp2_with fail
  refine CA.mono ?_
  rintro e w2 ⟨rfl, hb⟩
  go_wp2_with fail
  go_ret
  exact ⟨rfl, hb⟩
set_option maxRecDepth 20000 in set_option maxHeartbeats 2000000 in
theorem law_sorts_few (a : Option Addr) (n c : Nat) (l : List Int) (w : World) (h : Rd w (.slice a n c) l) (hz : Zn (.slice a n c)) (hn : n ≤ 200) :
    Calls Try.prog 3 #[.slice a n c] w fun e w' => e = .returned (.bool true) ∧ Below w.heap.size w w' := by
  have q1 : ¬ (200 : Int) < n := by omega
  have HR : Hid (∀ W, Below w.heap.size w W → Rd W (.slice a n c) l) := fun W hB => h.below hB
  have HN : Hid (n = l.length ∧ n ≤ 200 ∧ ∀ x ∈ l, I64 x) := ⟨h.len.1, hn, h.ints⟩
  have hX : Lst (w.alloc (.cells #[] 3)) w.heap.size (.slice (some ⟨w.heap.size, 0, none⟩) 0 0) [] := Lst.made0 w
  have hR0 : Rd (w.alloc (.cells #[] 3)) (.slice a n c) l := h.gr ((IsGr.refl w).alloc _)
  have HZ : Hid (Zn (.slice a n c)) := hz
  have e0 : decide (l = isort tq l) = decide (Srt tq l) := decide_eq_decide.2 srt_iff.symm
  obtain ⟨b, hb⟩ : ∃ b, decide (Srt tq l) = b := ⟨_, rfl⟩
  have HB : Hid (decide (Srt tq l) = b ∧ decide (l = isort tq l) = b) := ⟨hb, e0.trans hb⟩
  clear h hz e0 hb hn
  go_enter Try.func3, Try.ntmps3
  go_wp2_with (at_builtin; refine wpList_append_all rfl _ _ rfl w.heap.size (.slice (some ⟨w.heap.size, 0, none⟩) 0 0) (.slice a n c) [] l rfl rfl hX hR0 HZ.out (by have := HN.out; simp; omega) (by simp) ?_; intro v1 w1 h1 g1)
  rw [List.nil_append] at h1
  have B1 : Hid (Below w.heap.size w w1) := ((IsGr.refl w).alloc (.cells #[] 3)).below.grown g1 (by simp) (fun k e => by cases e; exact Nat.le_refl _)
  have HV1 : Hid (Lst w1 w.heap.size v1 l) := h1
  have CS := Sort_any tens_ordr _ l w1 (HR.out w1 B1.out) HZ.out (by have := HN.out; omega)
  clear h1 g1 hX hR0
  refine CS.mono ?_
  clear CS
  rintro e w2 ⟨v2, rfl, hl2, hb2⟩
  have B2 : Hid (Below w.heap.size w w2) := B1.out.trans (hb2.mono B1.out.size)
  have HV2 : Hid (Lst w2 w1.heap.size v2 (isort tq l) ∧ Below w1.heap.size w1 w2) := ⟨hl2, hb2⟩
  have CR := RSort_any _ l w2 (HR.out w2 B2.out) (by have := HN.out; omega)
  clear hl2 hb2
  go_wp2_with fail
  refine CR.mono ?_
  clear CR
  rintro e w3 ⟨v3, rfl, hl3, hb3⟩
  have HI : Hid (∀ x ∈ isort tq l, I64 x) := isort_ints HN.out.2.2
  have HW : Hid (∀ W, Below w3.heap.size w3 W → Below w.heap.size w W ∧ Rd W v1 l ∧ Rd W v2 (isort tq l) ∧ Rd W v3 (isort tq l)) := fun W hB => by
    have s1 := HV2.out.2.size
    have s2 := hb3.size
    have b3 : Below w2.heap.size w2 W := hb3.trans (hB.mono s2)
    have b1 : Below w1.heap.size w1 W := HV2.out.2.trans (b3.mono s1)
    exact ⟨B1.out.trans (b1.mono B1.out.size), (Rd.of_lst HV1.out HN.out.2.2).below b1, (Rd.of_lst HV2.out.1 HI.out).below b3, (Rd.of_lst hl3 HI.out).below hB⟩
  have HL : Hid ((isort tq l).length ≤ 2000 ∧ l.length ≤ 2000) := by have := HN.out; show _ ∧ _; rw [isort_len]; omega
  have S3 := HW.out w3 (Below.refl _ _)
  have E1 := equal_any v2 v3 _ _ w3 S3.2.2.1 S3.2.2.2 HL.out.1
  rw [decide_eq_true rfl] at E1
  clear hl3 hb3 S3
  go_wp2_with fail
  refine E1.mono ?_
  clear E1
  rintro e w4 ⟨rfl, hg⟩
  have B4 : Hid (Below w3.heap.size w3 w4) := hg.below
  have T1 := Sorted_any tens_ordr v2 _ w4 (HW.out w4 B4.out).2.2.1 HL.out.1
  rw [decide_eq_true (isort_srt tq l)] at T1
  clear hg
  go_wp2_with fail
  refine T1.mono ?_
  clear T1
  rintro e w5 ⟨rfl, hg⟩
  have B5 : Hid (Below w3.heap.size w3 w5) := B4.out.trans (hg.below.mono B4.out.size)
  have T2 := Sorted_any tens_ordr _ l w5 (HR.out w5 (HW.out w5 B5.out).1) HL.out.2
  rw [HB.out.1] at T2
  clear hg
  go_wp2_with fail
  refine T2.mono ?_
  clear T2
  rintro e w6 ⟨rfl, hg⟩
  have B6 : Hid (Below w3.heap.size w3 w6) := B5.out.trans (hg.below.mono B5.out.size)
  have E2 := equal_any _ v3 l _ w6 (HR.out w6 (HW.out w6 B6.out).1) (HW.out w6 B6.out).2.2.2 HL.out.2
  rw [HB.out.2] at E2
  clear hg
  go_wp2_with fail
  refine E2.mono ?_
  clear E2
  rintro e w7 ⟨rfl, hg⟩
  have B7 : Hid (Below w3.heap.size w3 w7) := B6.out.trans (hg.below.mono B6.out.size)
  have E3 := equal_any _ v1 l l w7 (HR.out w7 (HW.out w7 B7.out).1) (HW.out w7 B7.out).2.1 HL.out.2
  rw [decide_eq_true rfl] at E3
  have hbb : (b == b) = true := by cases b <;> rfl
  clear hg
  go_wp2_with fail
  refine E3.mono ?_
  clear E3
  rintro e w8 ⟨rfl, hg⟩
  have B8 : Hid (Below w3.heap.size w3 w8) := B7.out.trans (hg.below.mono B7.out.size)
  have CA := awake_any w8
  clear hg
  go_wp2_with fail
  refine CA.mono ?_
  clear CA
  rintro e w9 ⟨rfl, hb9⟩
  have B9 : Hid (Below w3.heap.size w3 w9) := B8.out.trans (hb9.mono B8.out.size)
  clear hb9
  go_wp2_with fail
  go_ret
  exact ⟨rfl, (HW.out w9 B9.out).1⟩
theorem law_sorts (a : Option Addr) (n c : Nat) (l : List Int) (w : World) (h : Rd w (.slice a n c) l ∧ Zn (.slice a n c)) : Calls Try.prog 3 #[.slice a n c] w fun e w' => e = .returned (.bool true) ∧ Below w.heap.size w w' := by
  by_cases hn : n ≤ 200
  · exact law_sorts_few a n c l w h.1 h.2 hn
  · exact law_sorts_many a n c w hn
end Go.Proofs.Ytblnpabgakmghaa
