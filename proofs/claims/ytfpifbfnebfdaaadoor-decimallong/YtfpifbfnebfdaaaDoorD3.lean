/- Package lex over the loaded program: the parts of a number: unsigned, digits, power; the library's CutPrefix. -/
import Derived.Test.YtfpifbfnebfdaaaDoorD2
import Derived.Test.YtfpifbfnebfdaaaDoorC13
import Derived.BigQuiet
import Derived.Deep.QuietTactic
import Derived.Deep.Cut
namespace Go.Proofs.YtfpifbfnebfdaaaDoor
open Go.RowKit Go.Shelf
attribute [local go_sem] Gr.size Gr.cell? Gr.frozen? Gr.setCell Gr.drew Gr.drewN Gr.of_drew Gr.of_drewN Gr.gr Gr.lt_of1 Gr.le_of1 Gr.lt_of2 Gr.le_of2 Gr.lt_of3 Gr.le_of3 Gr.lt_of4 Gr.le_of4 Gr.lt_of5 Gr.le_of5 Gr.lt_of6 Gr.le_of6 Gr.lt_of7 Gr.le_of7 Gr.lt_of8 Gr.le_of8 Gr.lt_of9 Gr.le_of9 Gr.lt_of10 Gr.le_of10 Gr.lt_of11 Gr.le_of11 Gr.lt_of12 Gr.le_of12 Gr.lt_of13 Gr.le_of13 Gr.lt_of14 Gr.le_of14 Gr.lt_of15 Gr.le_of15 Gr.lt_of16 Gr.le_of16 Gr.lt_of17 Gr.le_of17 Gr.lt_of18 Gr.le_of18 Gr.lt_of19 Gr.le_of19 Gr.lt_of20 Gr.le_of20 Gr.lt_of21 Gr.le_of21 Gr.lt_of22 Gr.le_of22 Gr.lt_of23 Gr.le_of23 Gr.lt_of24 Gr.le_of24
theorem emp_bts {s : ByteArray} : s = { data := #[] } ↔ s.size = 0 := by
  constructor
  · rintro rfl; rfl
  · intro h
    refine bts_inj ?_
    have : bts s = [] := List.eq_nil_of_length_eq_zero (by rw [bts_len]; exact h)
    rw [this]; rfl
theorem emp_ne {s : ByteArray} (h : 0 < s.size) : s.toList.isEmpty = false := by
  rw [ByteArray.toList_eq]
  cases hl : s.data.toList with
  | nil =>
    have : s.size = 0 := by rw [← bts_len]; unfold bts; rw [hl]; rfl
    omega
  | cons _ _ => rfl
theorem emp_eq {s : ByteArray} (h : ¬ 0 < s.size) : s = { data := #[] } := emp_bts.2 (by omega)
/-- A text whose bytes are these. -/
def HasB (s : ByteArray) (l : List Int) : Prop := bts s = l ∧ s.size = l.length
theorem HasB.of {s : ByteArray} {l : List Int} (h : bts s = l) : HasB s l := ⟨h, by rw [← h, bts_len]⟩
theorem bts_tail {s : ByteArray} {k : Nat} : bts (s.extract k s.size) = (bts s).drop k := by
  rw [bts_extract]
  refine List.take_of_length_le ?_
  rw [List.length_drop, bts_len]; omega
set_option maxRecDepth 20000 in set_option maxHeartbeats 2000000 in
theorem lunsigned_any (s : ByteArray) (w : World) (hs : s.size ≤ 100000) : Calls Tryd.prog 55 #[.string s] w fun e w' => (∃ s', e = .returned (.string s') ∧ HasB s' ((bts s).drop (sg9 (bts s))) ∧ s'.size ≤ 100000) ∧ w' = w := by
  by_cases h0 : 0 < s.size
  · have hat := bts_at h0
    have hne := emp_ne h0
    obtain ⟨c, hc⟩ : ∃ c : Int, ((s[0]'h0).toNat : Int) = c := ⟨_, rfl⟩
    rw [hc] at hat
    have h0' : (0 : Int) < s.size := by omega
    have h1' : (1 : Int) ≤ s.size := by omega
    cases q1 : (c == 43) with
    | true =>
      have HE : Hid (HasB (s.extract 1 s.size) ((bts s).drop (sg9 (bts s))) ∧ (s.extract 1 s.size).size ≤ 100000) := by
        have : sg9 (bts s) = 1 := by unfold sg9; rw [hat, if_pos (Or.inl (by simpa using q1))]
        rw [this]; exact ⟨HasB.of bts_tail, by rw [size_extract (Nat.le_refl _)]; omega⟩
      clear hat hs
      go_enter Tryd.func55, Tryd.ntmps55
      go_wp2_with fail
      go_ret
      exact ⟨⟨_, rfl, HE.out⟩, rfl⟩
    | false =>
      cases q2 : (c == 45) with
      | true =>
        have HE : Hid (HasB (s.extract 1 s.size) ((bts s).drop (sg9 (bts s))) ∧ (s.extract 1 s.size).size ≤ 100000) := by
          have : sg9 (bts s) = 1 := by unfold sg9; rw [hat, if_pos (Or.inr (by simpa using q2))]
          rw [this]; exact ⟨HasB.of bts_tail, by rw [size_extract (Nat.le_refl _)]; omega⟩
        clear hat hs
        go_enter Tryd.func55, Tryd.ntmps55
        go_wp2_with fail
        go_ret
        exact ⟨⟨_, rfl, HE.out⟩, rfl⟩
      | false =>
        have HE : Hid (HasB s ((bts s).drop (sg9 (bts s))) ∧ s.size ≤ 100000) := by
          have : sg9 (bts s) = 0 := by unfold sg9; rw [hat, if_neg (by simp at q1 q2; omega)]
          rw [this]; exact ⟨HasB.of rfl, hs⟩
        clear hat hs
        go_enter Tryd.func55, Tryd.ntmps55
        go_wp2_with fail
        go_ret
        exact ⟨⟨_, rfl, HE.out⟩, rfl⟩
  · obtain rfl := emp_eq h0
    clear h0
    go_enter Tryd.func55, Tryd.ntmps55
    go_wp2_with fail
    go_ret
    exact ⟨⟨_, rfl, HasB.of rfl, hs⟩, rfl⟩
set_option maxRecDepth 20000 in set_option maxHeartbeats 2000000 in
theorem ldigits_any (s : ByteArray) (w : World) (hs : s.size ≤ 100000) : Calls Tryd.prog 54 #[.string s] w fun e w' => (∃ s', e = .returned (.tuple #[.int .i64 (tw dgB (bts s) : Nat), .string s']) ∧ HasB s' ((bts s).drop (tw dgB (bts s))) ∧ s'.size ≤ 100000) ∧ IsGr w w' := by
  have CS := skip_digit s 0 w (Nat.zero_le _) hs
  rw [List.drop_zero, Nat.zero_add] at CS
  obtain ⟨n, hn⟩ : ∃ n, tw dgB (bts s) = n := ⟨_, rfl⟩
  have hle := tw_le dgB (bts s)
  rw [bts_len] at hle
  rw [hn] at CS hle ⊢
  have HE : Hid (HasB (s.extract n s.size) ((bts s).drop n) ∧ (s.extract n s.size).size ≤ 100000) := ⟨HasB.of bts_tail, by rw [size_extract (Nat.le_refl _)]; omega⟩
  have hle' : (n : Int) ≤ s.size := by omega
  have hle0 : (0 : Int) ≤ n := by omega
  clear hs hn hle
  go_enter Tryd.func54, Tryd.ntmps54
  go_wp2_with fail
  refine CS.mono ?_
  clear CS
  rintro e w1 ⟨rfl, e1⟩
  obtain rfl := e1.symm
  go_upto_region 2 with fail
  go_quiet (fail)
  go_wp2_with fail
  exact bodyPost_ret (v := .tuple #[.int .i64 (n : Nat), .string (s.extract n s.size)]) (by simp [results, Tryd.results54, go_sem]) rfl ⟨⟨_, rfl, HE.out⟩, (by with_reducible repeat (first | exact IsGr.refl _ | refine IsGr.gr ?_ _ _ | refine IsGr.alloc ?_ _ | refine IsGr.drew ?_ | refine IsGr.drewN ?_ _))⟩
theorem pt_at {s : ByteArray} (h : 0 < s.size) : ((s.extract 0 1).toList == [46]) = ((bts s).getD 0 0 == 46) := by
  have h1 : (s.extract 0 1).toList = s.data.toList.take 1 := by simp [ByteArray.toList_eq, ByteArray.data_extract]
  rw [h1]
  unfold bts
  cases hl : s.data.toList with
  | nil =>
    have : s.size = 0 := by rw [← bts_len]; unfold bts; rw [hl]; rfl
    omega
  | cons a r =>
    have h2 : (a == 46) = ((a.toNat : Int) == 46) := by
      rw [Bool.eq_iff_iff, beq_iff_eq, beq_iff_eq]
      constructor
      · rintro rfl; rfl
      · intro h
        have h3 : a.toNat = 46 := by omega
        exact UInt8.toNat_inj.1 h3
    simpa using h2
set_option maxRecDepth 20000 in set_option maxHeartbeats 2000000 in
theorem hasPrefix_any (s : ByteArray) (w : World) (hs : s.size ≤ 100000) : Calls Tryd.prog 60 #[.string s, .string { data := #[46] }] w fun e w' => e = .returned (.bool ((bts s).getD 0 0 == 46)) ∧ w' = w := by
  by_cases h0 : 0 < s.size
  · have h0' : (1 : Int) ≤ s.size := by omega
    have HP : Hid (((s.extract 0 1).toList == [46]) = ((bts s).getD 0 0 == 46)) := pt_at h0
    clear hs h0
    go_enter Tryd.func60, Tryd.ntmps60
    go_wp2_with fail
    go_ret
    exact ⟨congrArg (fun z => Ending.returned (.bool z)) HP.out, rfl⟩
  · obtain rfl := emp_eq h0
    clear h0
    go_enter Tryd.func60, Tryd.ntmps60
    go_wp2_with fail
    go_ret
    exact ⟨rfl, rfl⟩
/-- The text behind a point. -/
def dotL (l : List Int) : List Int := if l.getD 0 0 = 46 then l.drop 1 else l
set_option maxRecDepth 20000 in set_option maxHeartbeats 2000000 in
theorem cutPrefix_in (s : ByteArray) (w : World) (hs : s.size ≤ 100000) : Calls Tryd.prog 42 #[.string s, .string { data := #[46] }] w fun e w' => (∃ s' b, e = .returned (.tuple #[.string s', .bool b]) ∧ HasB s' (dotL (bts s)) ∧ s'.size ≤ 100000) ∧ w' = w := by
  have CH := hasPrefix_any s w hs
  cases h : ((bts s).getD 0 0 == 46) with
  | true =>
    have h0 : 0 < s.size := by
      rcases Nat.lt_or_ge 0 s.size with h0 | h0
      · exact h0
      · rw [getD_outS (by rw [bts_len]; exact h0)] at h; cases h
    have HE : Hid (HasB (s.extract 1 s.size) (dotL (bts s)) ∧ (s.extract 1 s.size).size ≤ 100000) := by
      unfold dotL
      rw [if_pos (by simpa using h)]
      exact ⟨HasB.of bts_tail, by rw [size_extract (Nat.le_refl _)]; omega⟩
    have h1' : (1 : Int) ≤ s.size := by omega
    rw [h] at CH
    clear h h0 hs
    go_enter Tryd.func42, Tryd.ntmps42
    go_wp2_with fail
    refine CH.mono ?_
    clear CH
    rintro e w1 ⟨rfl, e1⟩
    obtain rfl := e1.symm
    go_wp2_with fail
    exact bodyPost_ret (v := .tuple #[.string (s.extract 1 s.size), .bool true]) (by simp [results, Tryd.results42, go_sem]) rfl ⟨⟨_, _, rfl, HE.out⟩, rfl⟩
  | false =>
    have HE : Hid (HasB s (dotL (bts s)) ∧ s.size ≤ 100000) := by
      unfold dotL
      rw [if_neg (by simpa using h)]
      exact ⟨HasB.of rfl, hs⟩
    rw [h] at CH
    clear h hs
    go_enter Tryd.func42, Tryd.ntmps42
    go_wp2_with fail
    refine CH.mono ?_
    clear CH
    rintro e w1 ⟨rfl, e1⟩
    obtain rfl := e1.symm
    go_wp2_with fail
    exact bodyPost_ret (v := .tuple #[.string s, .bool false]) (by simp [results, Tryd.results42, go_sem]) rfl ⟨⟨_, _, rfl, HE.out⟩, rfl⟩
set_option maxRecDepth 20000 in set_option maxHeartbeats 2000000 in
theorem cutPrefix_any (s : ByteArray) (w : World) (hs : s.size ≤ 100000) : Calls Tryd.prog 30 #[.string s, .string { data := #[46] }] w fun e w' => (∃ s' b, e = .returned (.tuple #[.string s', .bool b]) ∧ HasB s' (dotL (bts s)) ∧ s'.size ≤ 100000) ∧ w' = w := by
  have CH := cutPrefix_in s w hs
  clear hs
  go_enter Tryd.func30, Tryd.ntmps30
  go_wp2_with fail
  refine CH.mono ?_
  clear CH
  rintro e w1 ⟨⟨s', b, rfl, HE⟩, e1⟩
  obtain rfl := e1.symm
  have HE' : Hid _ := HE
  clear HE
  go_wp2_with fail
  exact bodyPost_ret (v := .tuple #[.string s', .bool b]) (by simp [results, Tryd.results30, go_sem]) rfl ⟨⟨_, _, rfl, HE'.out⟩, rfl⟩
set_option maxRecDepth 20000 in set_option maxHeartbeats 2000000 in
theorem lpower_any (s : ByteArray) (w : World) (hs : s.size ≤ 100000) : Calls Tryd.prog 56 #[.string s] w fun e w' => e = .returned (.bool (powB (bts s))) ∧ IsGr w w' := by
  have CU := lunsigned_any s w hs
  clear hs
  go_enter Tryd.func56, Tryd.ntmps56
  go_wp2_with fail
  refine CU.mono ?_
  clear CU
  rintro e w1 ⟨⟨s1, rfl, hb1, hs1⟩, e1⟩
  obtain rfl := e1.symm
  have CD := ldigits_any s1 w hs1
  have HB1 : Hid (bts s1 = (bts s).drop (sg9 (bts s))) := hb1.1
  clear hb1 hs1
  go_wp2_with fail
  refine CD.mono ?_
  clear CD
  rintro e w2 ⟨⟨s2, rfl, hb2, -⟩, hg2⟩
  obtain ⟨n, hn⟩ : ∃ n, tw dgB (bts s1) = n := ⟨_, rfl⟩
  rw [hn] at hb2 ⊢
  have hP : powB (bts s) = (decide (n ≠ 0) && decide (s2.size = 0)) := by
    unfold powB
    rw [← HB1.out, hn]
    congr 1
    have h1 := hb2.2
    have h2 := tw_le dgB (bts s1)
    rw [List.length_drop] at h1
    rw [decide_eq_decide]
    omega
  have HG : Hid (IsGr w w2) := hg2
  clear hn hb2 hg2
  by_cases hn0 : n = 0
  · subst hn0
    have HP : Hid (powB (bts s) = false) := by show _ = _; rw [hP]; rfl
    clear hP
    go_wp2_with fail
    go_ret
    exact ⟨congrArg (fun z => Ending.returned (.bool z)) HP.out.symm, HG.out⟩
  · have hn1 : (0 : Int) < n := by omega
    by_cases h2 : 0 < s2.size
    · have hne := emp_ne h2
      have HP : Hid (powB (bts s) = false) := by show _ = _; rw [hP, decide_eq_false (p := s2.size = 0) (by omega), Bool.and_false]
      clear hP h2 hn0
      go_wp2_with fail
      go_ret
      exact ⟨congrArg (fun z => Ending.returned (.bool z)) HP.out.symm, HG.out⟩
    · have HP : Hid (powB (bts s) = true) := by show _ = _; rw [hP, decide_eq_true hn0, decide_eq_true (p := s2.size = 0) (by omega)]; rfl
      obtain rfl := emp_eq h2
      clear hP h2 hn0
      go_wp2_with fail
      go_ret
      exact ⟨congrArg (fun z => Ending.returned (.bool z)) HP.out.symm, HG.out⟩
end Go.Proofs.YtfpifbfnebfdaaaDoor
