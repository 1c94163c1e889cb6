/- gromalaw09 over the loaded program, given what package lex answers: LexTexts. -/
import Derived.Test.YtpgcfnpnpmpkeaaC4
namespace Go.Proofs.Ytpgcfnpnpmpkeaa
open Go.RowKit Go.Shelf
attribute [local go_sem] Gr.size Gr.cell? Gr.frozen? Gr.setCell Gr.drew Gr.drewN Gr.of_drew Gr.of_drewN Gr.gr Gr.lt_of1 Gr.le_of1 Gr.lt_of2 Gr.le_of2 Gr.lt_of3 Gr.le_of3 Gr.lt_of4 Gr.le_of4 Gr.lt_of5 Gr.le_of5 Gr.lt_of6 Gr.le_of6 Gr.lt_of7 Gr.le_of7 Gr.lt_of8 Gr.le_of8 Gr.lt_of9 Gr.le_of9 Gr.lt_of10 Gr.le_of10 Gr.lt_of11 Gr.le_of11 Gr.lt_of12 Gr.le_of12 Gr.lt_of13 Gr.le_of13 Gr.lt_of14 Gr.le_of14 Gr.lt_of15 Gr.le_of15 Gr.lt_of16 Gr.le_of16 Gr.lt_of17 Gr.le_of17 Gr.lt_of18 Gr.le_of18 Gr.lt_of19 Gr.le_of19 Gr.lt_of20 Gr.le_of20 Gr.lt_of21 Gr.le_of21 Gr.lt_of22 Gr.le_of22 Gr.lt_of23 Gr.le_of23 Gr.lt_of24 Gr.le_of24
theorem txtOf_in {s : ByteArray} {i j : Nat} (hij : i ≤ j) (hj : j ≤ s.size) : txtOf s i j = s.extract i j := by
  unfold txtOf
  rw [if_pos (by omega)]
  simp
theorem txtOf_out {s : ByteArray} {i j : Int} (h : ¬ (0 ≤ i ∧ i ≤ j ∧ j ≤ s.size)) : txtOf s i j = ByteArray.empty := by
  unfold txtOf; rw [if_neg h]
set_option maxRecDepth 20000 in set_option maxHeartbeats 2000000 in
theorem law_texts_big (C : LexC) (s : ByteArray) (k i j : Int) (w : World) (hs : ¬ s.size ≤ 2000) : Calls Try.prog 5 #[.string s, .agg #[.int .i64 k, .int .i64 i, .int .i64 j]] w fun e w' => e = .returned (.bool true) ∧ Below w.heap.size w w' := by
  have hs' : (2000 : Int) < s.size := by omega
  have CA := fun w => awake_any C w
  go_enter Try.func5, Try.ntmps5
  go_wp2_with fail
  refine (CA _).mono ?_
  rintro e w1 ⟨rfl, hb1⟩
  go_wp2_with fail
  go_ret
  have hg : IsGr w (w.alloc (.cells #[.int .i64 k, .int .i64 i, .int .i64 j] 31)) := (IsGr.refl w).alloc _
  exact ⟨rfl, hg.below.trans (hb1.mono hg.size)⟩

set_option maxRecDepth 20000 in set_option maxHeartbeats 2000000 in
theorem law_texts_in (C : LexC) (s : ByteArray) (k : Int) (i j : Nat) (hij : i ≤ j) (hj : j ≤ s.size) (w : World) (hs : s.size ≤ 2000) : Calls Try.prog 5 #[.string s, .agg #[.int .i64 k, .int .i64 i, .int .i64 j]] w fun e w' => e = .returned (.bool true) ∧ Below w.heap.size w w' := by
  have hs' : ¬ (2000 : Int) < s.size := by omega
  have CA := fun w => awake_any C w
  have C1 := fun w => C.upper s w (by omega)
  have C2 := fun w => RUpper_any s w (by omega)
  have CT := fun w => C.text k i j s w (by omega)
  rw [txtOf_in hij hj] at CT
  obtain ⟨u, hu⟩ : ∃ u, strOfNums (upL (bts s)) = u := ⟨_, rfl⟩
  simp only [hu] at C1 C2
  clear hu
  have h1 : (i : Int) ≤ j := by omega
  have h2 : (j : Int) ≤ s.size := by omega
  go_enter Try.func5, Try.ntmps5
  go_wp2_with fail
  refine (CT _).mono ?_
  clear CT
  rintro e w1 ⟨rfl, hg1⟩
  have hg : IsGr w (w.alloc (.cells #[.int .i64 k, .int .i64 i, .int .i64 j] 31)) := (IsGr.refl w).alloc _
  have HG1 : Hid (IsGr w w1) := hg.trans hg1
  clear hg1 hg
  go_wp2_with fail
  refine (C1 _).mono ?_
  clear C1
  rintro e w2 ⟨rfl, hg2⟩
  have HG2 : Hid (IsGr w w2) := HG1.out.trans hg2
  clear hg2 HG1
  go_wp2_with fail
  refine (C2 _).mono ?_
  clear C2
  rintro e w3 ⟨rfl, hb3⟩
  have HG3 : Hid (Below w.heap.size w w3) := HG2.out.below.trans (hb3.mono HG2.out.size)
  clear hb3 HG2
  go_wp2_with fail
  refine (CA _).mono ?_
  rintro e w4 ⟨rfl, hb4⟩
  go_wp2_with fail
  go_ret
  exact ⟨rfl, HG3.out.trans (hb4.mono HG3.out.size)⟩

set_option maxRecDepth 20000 in set_option maxHeartbeats 2000000 in
theorem law_texts_lo (C : LexC) (s : ByteArray) (k : Int) (i j : Int) (h1 : ¬ 0 ≤ i) (w : World) (hs : s.size ≤ 2000) : Calls Try.prog 5 #[.string s, .agg #[.int .i64 k, .int .i64 i, .int .i64 j]] w fun e w' => e = .returned (.bool true) ∧ Below w.heap.size w w' := by
  have hs' : ¬ (2000 : Int) < s.size := by omega
  have CA := fun w => awake_any C w
  have C1 := fun w => C.upper s w (by omega)
  have C2 := fun w => RUpper_any s w (by omega)
  have CT := fun w => C.text k i j s w (by omega)
  rw [txtOf_out (by omega)] at CT
  obtain ⟨u, hu⟩ : ∃ u, strOfNums (upL (bts s)) = u := ⟨_, rfl⟩
  simp only [hu] at C1 C2
  clear hu
  go_enter Try.func5, Try.ntmps5
  go_wp2_with fail
  refine (CT _).mono ?_
  clear CT
  rintro e w1 ⟨rfl, hg1⟩
  have hg : IsGr w (w.alloc (.cells #[.int .i64 k, .int .i64 i, .int .i64 j] 31)) := (IsGr.refl w).alloc _
  have HG1 : Hid (IsGr w w1) := hg.trans hg1
  clear hg1 hg
  go_wp2_with fail
  refine (C1 _).mono ?_
  clear C1
  rintro e w2 ⟨rfl, hg2⟩
  have HG2 : Hid (IsGr w w2) := HG1.out.trans hg2
  clear hg2 HG1
  go_wp2_with fail
  refine (C2 _).mono ?_
  clear C2
  rintro e w3 ⟨rfl, hb3⟩
  have HG3 : Hid (Below w.heap.size w w3) := HG2.out.below.trans (hb3.mono HG2.out.size)
  clear hb3 HG2
  go_wp2_with fail
  refine (CA _).mono ?_
  rintro e w4 ⟨rfl, hb4⟩
  go_wp2_with fail
  go_ret
  exact ⟨rfl, HG3.out.trans (hb4.mono HG3.out.size)⟩

set_option maxRecDepth 20000 in set_option maxHeartbeats 2000000 in
theorem law_texts_hi (C : LexC) (s : ByteArray) (k : Int) (i : Nat) (j : Int) (h2 : ¬ j ≤ s.size) (w : World) (hs : s.size ≤ 2000) : Calls Try.prog 5 #[.string s, .agg #[.int .i64 k, .int .i64 i, .int .i64 j]] w fun e w' => e = .returned (.bool true) ∧ Below w.heap.size w w' := by
  have hs' : ¬ (2000 : Int) < s.size := by omega
  have CA := fun w => awake_any C w
  have C1 := fun w => C.upper s w (by omega)
  have C2 := fun w => RUpper_any s w (by omega)
  have CT := fun w => C.text k i j s w (by omega)
  rw [txtOf_out (by omega)] at CT
  obtain ⟨u, hu⟩ : ∃ u, strOfNums (upL (bts s)) = u := ⟨_, rfl⟩
  simp only [hu] at C1 C2
  clear hu
  go_enter Try.func5, Try.ntmps5
  go_wp2_with fail
  refine (CT _).mono ?_
  clear CT
  rintro e w1 ⟨rfl, hg1⟩
  have hg : IsGr w (w.alloc (.cells #[.int .i64 k, .int .i64 i, .int .i64 j] 31)) := (IsGr.refl w).alloc _
  have HG1 : Hid (IsGr w w1) := hg.trans hg1
  clear hg1 hg
  go_wp2_with fail
  refine (C1 _).mono ?_
  clear C1
  rintro e w2 ⟨rfl, hg2⟩
  have HG2 : Hid (IsGr w w2) := HG1.out.trans hg2
  clear hg2 HG1
  go_wp2_with fail
  refine (C2 _).mono ?_
  clear C2
  rintro e w3 ⟨rfl, hb3⟩
  have HG3 : Hid (Below w.heap.size w w3) := HG2.out.below.trans (hb3.mono HG2.out.size)
  clear hb3 HG2
  go_wp2_with fail
  refine (CA _).mono ?_
  rintro e w4 ⟨rfl, hb4⟩
  go_wp2_with fail
  go_ret
  exact ⟨rfl, HG3.out.trans (hb4.mono HG3.out.size)⟩

set_option maxRecDepth 20000 in set_option maxHeartbeats 2000000 in
theorem law_texts_no (C : LexC) (s : ByteArray) (k : Int) (i : Nat) (j : Int) (h2 : j ≤ s.size) (h3 : ¬ (i : Int) ≤ j) (w : World) (hs : s.size ≤ 2000) : Calls Try.prog 5 #[.string s, .agg #[.int .i64 k, .int .i64 i, .int .i64 j]] w fun e w' => e = .returned (.bool true) ∧ Below w.heap.size w w' := by
  have hs' : ¬ (2000 : Int) < s.size := by omega
  have CA := fun w => awake_any C w
  have C1 := fun w => C.upper s w (by omega)
  have C2 := fun w => RUpper_any s w (by omega)
  have CT := fun w => C.text k i j s w (by omega)
  rw [txtOf_out (by omega)] at CT
  obtain ⟨u, hu⟩ : ∃ u, strOfNums (upL (bts s)) = u := ⟨_, rfl⟩
  simp only [hu] at C1 C2
  clear hu
  go_enter Try.func5, Try.ntmps5
  go_wp2_with fail
  refine (CT _).mono ?_
  clear CT
  rintro e w1 ⟨rfl, hg1⟩
  have hg : IsGr w (w.alloc (.cells #[.int .i64 k, .int .i64 i, .int .i64 j] 31)) := (IsGr.refl w).alloc _
  have HG1 : Hid (IsGr w w1) := hg.trans hg1
  clear hg1 hg
  go_wp2_with fail
  refine (C1 _).mono ?_
  clear C1
  rintro e w2 ⟨rfl, hg2⟩
  have HG2 : Hid (IsGr w w2) := HG1.out.trans hg2
  clear hg2 HG1
  go_wp2_with fail
  refine (C2 _).mono ?_
  clear C2
  rintro e w3 ⟨rfl, hb3⟩
  have HG3 : Hid (Below w.heap.size w w3) := HG2.out.below.trans (hb3.mono HG2.out.size)
  clear hb3 HG2
  go_wp2_with fail
  refine (CA _).mono ?_
  rintro e w4 ⟨rfl, hb4⟩
  go_wp2_with fail
  go_ret
  exact ⟨rfl, HG3.out.trans (hb4.mono HG3.out.size)⟩
theorem law_texts (C : LexC) (s : ByteArray) (k i j : Int) (w : World) : Calls Try.prog 5 #[.string s, .agg #[.int .i64 k, .int .i64 i, .int .i64 j]] w fun e w' => e = .returned (.bool true) ∧ Below w.heap.size w w' := by
  by_cases hs : s.size ≤ 2000
  · by_cases h1 : 0 ≤ i
    · obtain ⟨i', rfl⟩ : ∃ n : Nat, i = n := ⟨i.toNat, by omega⟩
      by_cases h2 : j ≤ s.size
      · by_cases h3 : (i' : Int) ≤ j
        · obtain ⟨j', rfl⟩ : ∃ n : Nat, j = n := ⟨j.toNat, by omega⟩
          exact law_texts_in C s k i' j' (by omega) (by omega) w hs
        · exact law_texts_no C s k i' j h2 h3 w hs
      · exact law_texts_hi C s k i' j h2 w hs
    · exact law_texts_lo C s k i j h1 w hs
  · exact law_texts_big C s k i j w hs
end Go.Proofs.Ytpgcfnpnpmpkeaa
