/- Package lex over the loaded program: what a byte is (blank, letter, digit, kind, within), and a run of bytes (skip). Package lex over the loaded program: within, and skip: how far a run of bytes goes. Package lex over the loaded program: the parts of a number: unsigned, digits, power; the library's CutPrefix. Package lex over the loaded program: Right. -/
import Derived.Test.YtfpifbfnebfdaaaDoorC2
import Derived.Test.YtfpifbfnebfdaaaDoorC13
import Derived.BigQuiet
import Derived.Deep.QuietTactic
import Derived.Deep.Cut
namespace Go.Proofs.YtfpifbfnebfdaaaDoor
open Go.RowKit Go.Shelf
attribute [local go_sem] Gr.size Gr.cell? Gr.frozen? Gr.setCell Gr.drew Gr.drewN Gr.of_drew Gr.of_drewN Gr.gr Gr.lt_of1 Gr.le_of1 Gr.lt_of2 Gr.le_of2 Gr.lt_of3 Gr.le_of3 Gr.lt_of4 Gr.le_of4 Gr.lt_of5 Gr.le_of5 Gr.lt_of6 Gr.le_of6 Gr.lt_of7 Gr.le_of7 Gr.lt_of8 Gr.le_of8 Gr.lt_of9 Gr.le_of9 Gr.lt_of10 Gr.le_of10 Gr.lt_of11 Gr.le_of11 Gr.lt_of12 Gr.le_of12 Gr.lt_of13 Gr.le_of13 Gr.lt_of14 Gr.le_of14 Gr.lt_of15 Gr.le_of15 Gr.lt_of16 Gr.le_of16 Gr.lt_of17 Gr.le_of17 Gr.lt_of18 Gr.le_of18 Gr.lt_of19 Gr.le_of19 Gr.lt_of20 Gr.le_of20 Gr.lt_of21 Gr.le_of21 Gr.lt_of22 Gr.le_of22 Gr.lt_of23 Gr.le_of23 Gr.lt_of24 Gr.le_of24
set_option maxRecDepth 20000 in set_option maxHeartbeats 2000000 in
theorem ldigit_any (c : Int) (w : World) : Calls Tryd.prog 70 #[.int .u8 c] w fun e w' => e = .returned (.bool (dgB c)) ∧ w' = w := by
  obtain ⟨b, hb⟩ : ∃ b, dgB c = b := ⟨_, rfl⟩
  rw [hb]
  unfold dgB at hb
  by_cases h : 48 ≤ c
  · have hb2 : decide (c ≤ 57) = b := by rw [← hb, decide_eq_true h]; rfl
    have h' : decide (48 ≤ c) = true := decide_eq_true h
    clear hb
    go_enter Tryd.func70, Tryd.ntmps70
    go_wp2_with fail
    go_ret
    first | exact ⟨rfl, rfl⟩ | (refine ⟨?_, rfl⟩; rw [← hb2]; rfl)
  · have hb2 : b = false := by rw [← hb, decide_eq_false h]; rfl
    subst hb2
    have h' : decide (48 ≤ c) = false := decide_eq_false h
    clear hb
    go_enter Tryd.func70, Tryd.ntmps70
    go_wp2_with fail
    go_ret
    exact ⟨rfl, rfl⟩
end Go.Proofs.YtfpifbfnebfdaaaDoor
namespace Go.Proofs.YtfpifbfnebfdaaaDoor
open Go.RowKit Go.Shelf
attribute [local go_sem] Gr.size Gr.cell? Gr.frozen? Gr.setCell Gr.drew Gr.drewN Gr.of_drew Gr.of_drewN Gr.gr Gr.lt_of1 Gr.le_of1 Gr.lt_of2 Gr.le_of2 Gr.lt_of3 Gr.le_of3 Gr.lt_of4 Gr.le_of4 Gr.lt_of5 Gr.le_of5 Gr.lt_of6 Gr.le_of6 Gr.lt_of7 Gr.le_of7 Gr.lt_of8 Gr.le_of8 Gr.lt_of9 Gr.le_of9 Gr.lt_of10 Gr.le_of10 Gr.lt_of11 Gr.le_of11 Gr.lt_of12 Gr.le_of12 Gr.lt_of13 Gr.le_of13 Gr.lt_of14 Gr.le_of14 Gr.lt_of15 Gr.le_of15 Gr.lt_of16 Gr.le_of16 Gr.lt_of17 Gr.le_of17 Gr.lt_of18 Gr.le_of18 Gr.lt_of19 Gr.le_of19 Gr.lt_of20 Gr.le_of20 Gr.lt_of21 Gr.le_of21 Gr.lt_of22 Gr.le_of22 Gr.lt_of23 Gr.le_of23 Gr.lt_of24 Gr.le_of24
set_option maxRecDepth 20000 in set_option maxHeartbeats 2000000 in
theorem skip_digit (s : ByteArray) (i0 : Nat) (w : World) (h0 : i0 ≤ s.size) (hs : s.size ≤ 100000) : Calls Tryd.prog 69 #[.string s, .int .i64 i0, .func (.func 70) #[] #[]] w fun e w' => e = .returned (.int .i64 ((i0 + tw dgB ((bts s).drop i0) : Nat) : Int)) ∧ w' = w := by
  have CS := fun c w => ldigit_any c w
  have HS : Hid (s.size ≤ 100000) := hs
  have H0 : Hid (i0 ≤ s.size) := h0
  clear hs h0
  go_enter Tryd.func69, Tryd.ntmps69
  go_wp2_with fail
  go_loopg [1] (s.size - i0) (fun r p1 wr => wr = w ∧ ∃ i : Nat, i + r = s.size ∧ p1 = .int .i64 i ∧ Hid (i0 ≤ i ∧ i ≤ s.size ∧ ∀ j, i0 ≤ j → j < i → dgB ((bts s).getD j 0) = true))
  case atStart => exact ⟨rfl, i0, by have := H0.out; omega, rfl, Nat.le_refl _, H0.out, fun j h1 h2 => by omega⟩
  case round =>
    obtain ⟨hww, i, hk, rfl, HI⟩ := hrel
    obtain rfl := hww.symm
    by_cases hi : i < s.size
    · have hat := bts_at hi
      obtain ⟨c, hc⟩ : ∃ c : Int, ((s[i]'hi).toNat : Int) = c := ⟨_, rfl⟩
      rw [hc] at hat
      have hi' : (i : Int) < s.size := by omega
      have e1 : IntKind.i64.wrap ((i : Int) + 1) = (i : Int) + 1 := by rw [IntKind.wrap_i64]; have := HS.out; omega
      have CC := CS c w
      cases hp : dgB c with
      | true =>
        rw [hp] at CC
        have HP : Hid (dgB ((bts s).getD i 0) = true) := by show _ = _; rw [hat]; exact hp
        clear hp hat CS
        go_wp2_with fail
        refine CC.mono ?_
        clear CC
        rintro e w2 ⟨rfl, e2⟩
        obtain rfl := e2.symm
        go_wp2_with fail
        go_roundg (s.size - (i + 1))
        case measure => omega
        case rel => exact ⟨rfl, i + 1, by omega, by simp, by have := HI.out.1; omega, hi, fun j h1 h2 => by
          by_cases e : j = i
          · rw [e]; exact HP.out
          · exact HI.out.2.2 j h1 (by omega)⟩
      | false =>
        rw [hp] at CC
        have HP : Hid (i0 + tw dgB ((bts s).drop i0) = i) := by
          show _ = _
          rw [tw_run HI.out.1 (by rw [bts_len]; exact HI.out.2.1) HI.out.2.2 (Or.inr (by rw [hat]; exact hp))]
          have := HI.out.1; omega
        clear hp hat CS
        go_wp2_with fail
        refine CC.mono ?_
        clear CC
        rintro e w2 ⟨rfl, e2⟩
        obtain rfl := e2.symm
        go_wp2_with fail
        go_ret
        exact ⟨congrArg (fun z : Nat => Ending.returned (.int .i64 (z : Int))) HP.out.symm, rfl⟩
    · have hi' : ¬ (i : Int) < s.size := by omega
      have HP : Hid (i0 + tw dgB ((bts s).drop i0) = i) := by
        show _ = _
        rw [tw_run HI.out.1 (by rw [bts_len]; exact HI.out.2.1) HI.out.2.2 (Or.inl (by rw [bts_len]; have := HI.out.2.1; omega))]
        have := HI.out.1; omega
      go_wp2_with fail
      go_ret
      exact ⟨congrArg (fun z : Nat => Ending.returned (.int .i64 (z : Int))) HP.out.symm, rfl⟩
end Go.Proofs.YtfpifbfnebfdaaaDoor
namespace Go.Proofs.YtfpifbfnebfdaaaDoor
open Go.RowKit Go.Shelf
attribute [local go_sem] Gr.size Gr.cell? Gr.frozen? Gr.setCell Gr.drew Gr.drewN Gr.of_drew Gr.of_drewN Gr.gr Gr.lt_of1 Gr.le_of1 Gr.lt_of2 Gr.le_of2 Gr.lt_of3 Gr.le_of3 Gr.lt_of4 Gr.le_of4 Gr.lt_of5 Gr.le_of5 Gr.lt_of6 Gr.le_of6 Gr.lt_of7 Gr.le_of7 Gr.lt_of8 Gr.le_of8 Gr.lt_of9 Gr.le_of9 Gr.lt_of10 Gr.le_of10 Gr.lt_of11 Gr.le_of11 Gr.lt_of12 Gr.le_of12 Gr.lt_of13 Gr.le_of13 Gr.lt_of14 Gr.le_of14 Gr.lt_of15 Gr.le_of15 Gr.lt_of16 Gr.le_of16 Gr.lt_of17 Gr.le_of17 Gr.lt_of18 Gr.le_of18 Gr.lt_of19 Gr.le_of19 Gr.lt_of20 Gr.le_of20 Gr.lt_of21 Gr.le_of21 Gr.lt_of22 Gr.le_of22 Gr.lt_of23 Gr.le_of23 Gr.lt_of24 Gr.le_of24
theorem emp_bts {s : ByteArray} : s = { data := #[] } ↔ s.size = 0 := by
  constructor
  · rintro rfl; rfl
  · intro h
    refine bts_inj ?_
    have : bts s = [] := List.eq_nil_of_length_eq_zero (by rw [bts_len]; exact h)
    rw [this]; rfl
theorem emp_ne {s : ByteArray} (h : 0 < s.size) : s.toList.isEmpty = false := by
  rw [ByteArray.toList_eq]
  cases hl : s.data.toList with
  | nil =>
    have : s.size = 0 := by rw [← bts_len]; unfold bts; rw [hl]; rfl
    omega
  | cons _ _ => rfl
theorem emp_eq {s : ByteArray} (h : ¬ 0 < s.size) : s = { data := #[] } := emp_bts.2 (by omega)
/-- A text whose bytes are these. -/
def HasB (s : ByteArray) (l : List Int) : Prop := bts s = l ∧ s.size = l.length
theorem HasB.of {s : ByteArray} {l : List Int} (h : bts s = l) : HasB s l := ⟨h, by rw [← h, bts_len]⟩
theorem bts_tail {s : ByteArray} {k : Nat} : bts (s.extract k s.size) = (bts s).drop k := by
  rw [bts_extract]
  refine List.take_of_length_le ?_
  rw [List.length_drop, bts_len]; omega
set_option maxRecDepth 20000 in set_option maxHeartbeats 2000000 in
theorem lunsigned_any (s : ByteArray) (w : World) (hs : s.size ≤ 100000) : Calls Tryd.prog 55 #[.string s] w fun e w' => (∃ s', e = .returned (.string s') ∧ HasB s' ((bts s).drop (sg9 (bts s))) ∧ s'.size ≤ 100000) ∧ w' = w := by
  by_cases h0 : 0 < s.size
  · have hat := bts_at h0
    have hne := emp_ne h0
    obtain ⟨c, hc⟩ : ∃ c : Int, ((s[0]'h0).toNat : Int) = c := ⟨_, rfl⟩
    rw [hc] at hat
    have h0' : (0 : Int) < s.size := by omega
    have h1' : (1 : Int) ≤ s.size := by omega
    cases q1 : (c == 43) with
    | true =>
      have HE : Hid (HasB (s.extract 1 s.size) ((bts s).drop (sg9 (bts s))) ∧ (s.extract 1 s.size).size ≤ 100000) := by
        have : sg9 (bts s) = 1 := by unfold sg9; rw [hat, if_pos (Or.inl (by simpa using q1))]
        rw [this]; exact ⟨HasB.of bts_tail, by rw [size_extract (Nat.le_refl _)]; omega⟩
      clear hat hs
      go_enter Tryd.func55, Tryd.ntmps55
      go_wp2_with fail
      go_ret
      exact ⟨⟨_, rfl, HE.out⟩, rfl⟩
    | false =>
      cases q2 : (c == 45) with
      | true =>
        have HE : Hid (HasB (s.extract 1 s.size) ((bts s).drop (sg9 (bts s))) ∧ (s.extract 1 s.size).size ≤ 100000) := by
          have : sg9 (bts s) = 1 := by unfold sg9; rw [hat, if_pos (Or.inr (by simpa using q2))]
          rw [this]; exact ⟨HasB.of bts_tail, by rw [size_extract (Nat.le_refl _)]; omega⟩
        clear hat hs
        go_enter Tryd.func55, Tryd.ntmps55
        go_wp2_with fail
        go_ret
        exact ⟨⟨_, rfl, HE.out⟩, rfl⟩
      | false =>
        have HE : Hid (HasB s ((bts s).drop (sg9 (bts s))) ∧ s.size ≤ 100000) := by
          have : sg9 (bts s) = 0 := by unfold sg9; rw [hat, if_neg (by simp at q1 q2; omega)]
          rw [this]; exact ⟨HasB.of rfl, hs⟩
        clear hat hs
        go_enter Tryd.func55, Tryd.ntmps55
        go_wp2_with fail
        go_ret
        exact ⟨⟨_, rfl, HE.out⟩, rfl⟩
  · obtain rfl := emp_eq h0
    clear h0
    go_enter Tryd.func55, Tryd.ntmps55
    go_wp2_with fail
    go_ret
    exact ⟨⟨_, rfl, HasB.of rfl, hs⟩, rfl⟩
set_option maxRecDepth 20000 in set_option maxHeartbeats 2000000 in
theorem ldigits_any (s : ByteArray) (w : World) (hs : s.size ≤ 100000) : Calls Tryd.prog 54 #[.string s] w fun e w' => (∃ s', e = .returned (.tuple #[.int .i64 (tw dgB (bts s) : Nat), .string s']) ∧ HasB s' ((bts s).drop (tw dgB (bts s))) ∧ s'.size ≤ 100000) ∧ IsGr w w' := by
  have CS := skip_digit s 0 w (Nat.zero_le _) hs
  rw [List.drop_zero, Nat.zero_add] at CS
  obtain ⟨n, hn⟩ : ∃ n, tw dgB (bts s) = n := ⟨_, rfl⟩
  have hle := tw_le dgB (bts s)
  rw [bts_len] at hle
  rw [hn] at CS hle ⊢
  have HE : Hid (HasB (s.extract n s.size) ((bts s).drop n) ∧ (s.extract n s.size).size ≤ 100000) := ⟨HasB.of bts_tail, by rw [size_extract (Nat.le_refl _)]; omega⟩
  have hle' : (n : Int) ≤ s.size := by omega
  have hle0 : (0 : Int) ≤ n := by omega
  clear hs hn hle
  go_enter Tryd.func54, Tryd.ntmps54
  go_wp2_with fail
  refine CS.mono ?_
  clear CS
  rintro e w1 ⟨rfl, e1⟩
  obtain rfl := e1.symm
  go_upto_region 2 with fail
  go_quiet (fail)
  go_wp2_with fail
  exact bodyPost_ret (v := .tuple #[.int .i64 (n : Nat), .string (s.extract n s.size)]) (by simp [results, Tryd.results54, go_sem]) rfl ⟨⟨_, rfl, HE.out⟩, (by with_reducible repeat (first | exact IsGr.refl _ | refine IsGr.gr ?_ _ _ | refine IsGr.alloc ?_ _ | refine IsGr.drew ?_ | refine IsGr.drewN ?_ _))⟩
theorem pt_at {s : ByteArray} (h : 0 < s.size) : ((s.extract 0 1).toList == [46]) = ((bts s).getD 0 0 == 46) := by
  have h1 : (s.extract 0 1).toList = s.data.toList.take 1 := by simp [ByteArray.toList_eq, ByteArray.data_extract]
  rw [h1]
  unfold bts
  cases hl : s.data.toList with
  | nil =>
    have : s.size = 0 := by rw [← bts_len]; unfold bts; rw [hl]; rfl
    omega
  | cons a r =>
    have h2 : (a == 46) = ((a.toNat : Int) == 46) := by
      rw [Bool.eq_iff_iff, beq_iff_eq, beq_iff_eq]
      constructor
      · rintro rfl; rfl
      · intro h
        have h3 : a.toNat = 46 := by omega
        exact UInt8.toNat_inj.1 h3
    simpa using h2
set_option maxRecDepth 20000 in set_option maxHeartbeats 2000000 in
theorem hasPrefix_any (s : ByteArray) (w : World) (hs : s.size ≤ 100000) : Calls Tryd.prog 60 #[.string s, .string { data := #[46] }] w fun e w' => e = .returned (.bool ((bts s).getD 0 0 == 46)) ∧ w' = w := by
  by_cases h0 : 0 < s.size
  · have h0' : (1 : Int) ≤ s.size := by omega
    have HP : Hid (((s.extract 0 1).toList == [46]) = ((bts s).getD 0 0 == 46)) := pt_at h0
    clear hs h0
    go_enter Tryd.func60, Tryd.ntmps60
    go_wp2_with fail
    go_ret
    exact ⟨congrArg (fun z => Ending.returned (.bool z)) HP.out, rfl⟩
  · obtain rfl := emp_eq h0
    clear h0
    go_enter Tryd.func60, Tryd.ntmps60
    go_wp2_with fail
    go_ret
    exact ⟨rfl, rfl⟩
/-- The text behind a point. -/
def dotL (l : List Int) : List Int := if l.getD 0 0 = 46 then l.drop 1 else l
set_option maxRecDepth 20000 in set_option maxHeartbeats 2000000 in
theorem cutPrefix_in (s : ByteArray) (w : World) (hs : s.size ≤ 100000) : Calls Tryd.prog 42 #[.string s, .string { data := #[46] }] w fun e w' => (∃ s' b, e = .returned (.tuple #[.string s', .bool b]) ∧ HasB s' (dotL (bts s)) ∧ s'.size ≤ 100000) ∧ w' = w := by
  have CH := hasPrefix_any s w hs
  cases h : ((bts s).getD 0 0 == 46) with
  | true =>
    have h0 : 0 < s.size := by
      rcases Nat.lt_or_ge 0 s.size with h0 | h0
      · exact h0
      · rw [getD_outS (by rw [bts_len]; exact h0)] at h; cases h
    have HE : Hid (HasB (s.extract 1 s.size) (dotL (bts s)) ∧ (s.extract 1 s.size).size ≤ 100000) := by
      unfold dotL
      rw [if_pos (by simpa using h)]
      exact ⟨HasB.of bts_tail, by rw [size_extract (Nat.le_refl _)]; omega⟩
    have h1' : (1 : Int) ≤ s.size := by omega
    rw [h] at CH
    clear h h0 hs
    go_enter Tryd.func42, Tryd.ntmps42
    go_wp2_with fail
    refine CH.mono ?_
    clear CH
    rintro e w1 ⟨rfl, e1⟩
    obtain rfl := e1.symm
    go_wp2_with fail
    exact bodyPost_ret (v := .tuple #[.string (s.extract 1 s.size), .bool true]) (by simp [results, Tryd.results42, go_sem]) rfl ⟨⟨_, _, rfl, HE.out⟩, rfl⟩
  | false =>
    have HE : Hid (HasB s (dotL (bts s)) ∧ s.size ≤ 100000) := by
      unfold dotL
      rw [if_neg (by simpa using h)]
      exact ⟨HasB.of rfl, hs⟩
    rw [h] at CH
    clear h hs
    go_enter Tryd.func42, Tryd.ntmps42
    go_wp2_with fail
    refine CH.mono ?_
    clear CH
    rintro e w1 ⟨rfl, e1⟩
    obtain rfl := e1.symm
    go_wp2_with fail
    exact bodyPost_ret (v := .tuple #[.string s, .bool false]) (by simp [results, Tryd.results42, go_sem]) rfl ⟨⟨_, _, rfl, HE.out⟩, rfl⟩
set_option maxRecDepth 20000 in set_option maxHeartbeats 2000000 in
theorem cutPrefix_any (s : ByteArray) (w : World) (hs : s.size ≤ 100000) : Calls Tryd.prog 30 #[.string s, .string { data := #[46] }] w fun e w' => (∃ s' b, e = .returned (.tuple #[.string s', .bool b]) ∧ HasB s' (dotL (bts s)) ∧ s'.size ≤ 100000) ∧ w' = w := by
  have CH := cutPrefix_in s w hs
  clear hs
  go_enter Tryd.func30, Tryd.ntmps30
  go_wp2_with fail
  refine CH.mono ?_
  clear CH
  rintro e w1 ⟨⟨s', b, rfl, HE⟩, e1⟩
  obtain rfl := e1.symm
  have HE' : Hid _ := HE
  clear HE
  go_wp2_with fail
  exact bodyPost_ret (v := .tuple #[.string s', .bool b]) (by simp [results, Tryd.results30, go_sem]) rfl ⟨⟨_, _, rfl, HE'.out⟩, rfl⟩
set_option maxRecDepth 20000 in set_option maxHeartbeats 2000000 in
theorem lpower_any (s : ByteArray) (w : World) (hs : s.size ≤ 100000) : Calls Tryd.prog 56 #[.string s] w fun e w' => e = .returned (.bool (powB (bts s))) ∧ IsGr w w' := by
  have CU := lunsigned_any s w hs
  clear hs
  go_enter Tryd.func56, Tryd.ntmps56
  go_wp2_with fail
  refine CU.mono ?_
  clear CU
  rintro e w1 ⟨⟨s1, rfl, hb1, hs1⟩, e1⟩
  obtain rfl := e1.symm
  have CD := ldigits_any s1 w hs1
  have HB1 : Hid (bts s1 = (bts s).drop (sg9 (bts s))) := hb1.1
  clear hb1 hs1
  go_wp2_with fail
  refine CD.mono ?_
  clear CD
  rintro e w2 ⟨⟨s2, rfl, hb2, -⟩, hg2⟩
  obtain ⟨n, hn⟩ : ∃ n, tw dgB (bts s1) = n := ⟨_, rfl⟩
  rw [hn] at hb2 ⊢
  have hP : powB (bts s) = (decide (n ≠ 0) && decide (s2.size = 0)) := by
    unfold powB
    rw [← HB1.out, hn]
    congr 1
    have h1 := hb2.2
    have h2 := tw_le dgB (bts s1)
    rw [List.length_drop] at h1
    rw [decide_eq_decide]
    omega
  have HG : Hid (IsGr w w2) := hg2
  clear hn hb2 hg2
  by_cases hn0 : n = 0
  · subst hn0
    have HP : Hid (powB (bts s) = false) := by show _ = _; rw [hP]; rfl
    clear hP
    go_wp2_with fail
    go_ret
    exact ⟨congrArg (fun z => Ending.returned (.bool z)) HP.out.symm, HG.out⟩
  · have hn1 : (0 : Int) < n := by omega
    by_cases h2 : 0 < s2.size
    · have hne := emp_ne h2
      have HP : Hid (powB (bts s) = false) := by show _ = _; rw [hP, decide_eq_false (p := s2.size = 0) (by omega), Bool.and_false]
      clear hP h2 hn0
      go_wp2_with fail
      go_ret
      exact ⟨congrArg (fun z => Ending.returned (.bool z)) HP.out.symm, HG.out⟩
    · have HP : Hid (powB (bts s) = true) := by show _ = _; rw [hP, decide_eq_true hn0, decide_eq_true (p := s2.size = 0) (by omega)]; rfl
      obtain rfl := emp_eq h2
      clear hP h2 hn0
      go_wp2_with fail
      go_ret
      exact ⟨congrArg (fun z => Ending.returned (.bool z)) HP.out.symm, HG.out⟩
end Go.Proofs.YtfpifbfnebfdaaaDoor
namespace Go.Proofs.YtfpifbfnebfdaaaDoor
open Go.RowKit Go.Shelf
attribute [local go_sem] Gr.size Gr.cell? Gr.frozen? Gr.setCell Gr.drew Gr.drewN Gr.of_drew Gr.of_drewN Gr.gr Gr.lt_of1 Gr.le_of1 Gr.lt_of2 Gr.le_of2 Gr.lt_of3 Gr.le_of3 Gr.lt_of4 Gr.le_of4 Gr.lt_of5 Gr.le_of5 Gr.lt_of6 Gr.le_of6 Gr.lt_of7 Gr.le_of7 Gr.lt_of8 Gr.le_of8 Gr.lt_of9 Gr.le_of9 Gr.lt_of10 Gr.le_of10 Gr.lt_of11 Gr.le_of11 Gr.lt_of12 Gr.le_of12 Gr.lt_of13 Gr.le_of13 Gr.lt_of14 Gr.le_of14 Gr.lt_of15 Gr.le_of15 Gr.lt_of16 Gr.le_of16 Gr.lt_of17 Gr.le_of17 Gr.lt_of18 Gr.le_of18 Gr.lt_of19 Gr.le_of19 Gr.lt_of20 Gr.le_of20 Gr.lt_of21 Gr.le_of21 Gr.lt_of22 Gr.le_of22 Gr.lt_of23 Gr.le_of23 Gr.lt_of24 Gr.le_of24
theorem tw_drop0 (p : Int → Bool) (l : List Int) : tw p (l.drop (tw p l)) = 0 := by
  cases h : l.drop (tw p l) with
  | nil => rfl
  | cons c r => rw [tw_cons, drop_tw l c r h]; rfl
theorem rgt_parts {b l1 l2 l3 l4 : List Int} {n1 n2 : Nat} (h1 : l1 = b.drop (sg9 b)) (hn1 : tw dgB l1 = n1) (h2 : l2 = l1.drop n1) (h3 : l3 = dotL l2) (hn2 : tw dgB l3 = n2) (h4 : l4 = l3.drop n2) :
    rgtB b = (decide (n1 + n2 ≠ 0) && endB l4) := by
  subst h1 hn1 h2
  by_cases h : ∃ r, (b.drop (sg9 b)).drop (tw dgB (b.drop (sg9 b))) = 46 :: r
  · obtain ⟨r, hr⟩ := h
    have h5 : l3 = r := by rw [h3, hr]; rfl
    subst h5
    rw [rgt_dot hr, hn2, h4]
  · have h5 : ∀ r, (b.drop (sg9 b)).drop (tw dgB (b.drop (sg9 b))) ≠ 46 :: r := fun r hr => h ⟨r, hr⟩
    have h6 : l3 = (b.drop (sg9 b)).drop (tw dgB (b.drop (sg9 b))) := by
      rw [h3]
      unfold dotL
      rw [if_neg]
      intro h7
      cases hl : (b.drop (sg9 b)).drop (tw dgB (b.drop (sg9 b))) with
      | nil => rw [hl] at h7; simp at h7
      | cons c r => rw [hl] at h7; simp at h7; exact h5 r (by rw [hl, h7])
    have h7 : n2 = 0 := by rw [← hn2, h6, tw_drop0]
    subst h7
    rw [rgt_whole h5, h4, h6]
    rfl
theorem end_cons {l : List Int} {c : Int} (h : l.getD 0 0 = c) (hl : 0 < l.length) : endB l = if c = 101 ∨ c = 69 then powB (l.drop 1) else false := by
  cases l with
  | nil => simp at hl
  | cons x r => simp at h; subst h; rw [endB_cons]; rfl
set_option maxRecDepth 20000 in set_option maxHeartbeats 2000000 in
theorem lright_any (s : ByteArray) (w : World) (hs : s.size ≤ 100000) : Calls Tryd.prog 34 #[.string s] w fun e w' => e = .returned (.bool (rgtB (bts s))) ∧ IsGr w w' := by
  have CU := lunsigned_any s w hs
  clear hs
  go_enter Tryd.func34, Tryd.ntmps34
  go_wp2_with fail
  refine CU.mono ?_
  clear CU
  rintro e w1 ⟨⟨s1, rfl, hb1, hs1⟩, e1⟩
  obtain rfl := e1.symm
  have CD := ldigits_any s1 w hs1
  have HB1 : Hid (bts s1 = (bts s).drop (sg9 (bts s))) := hb1.1
  have HL1 : Hid (s1.size ≤ 100000) := hs1
  clear hb1 hs1
  go_wp2_with fail
  refine CD.mono ?_
  clear CD
  rintro e w2 ⟨⟨s2, rfl, hb2, hs2⟩, hg2⟩
  obtain ⟨n1, hn1⟩ : ∃ n, tw dgB (bts s1) = n := ⟨_, rfl⟩
  rw [hn1] at hb2 ⊢
  have HN1 : Hid (tw dgB (bts s1) = n1 ∧ n1 ≤ 100000) := ⟨hn1, by have := tw_le dgB (bts s1); rw [bts_len] at this; have := HL1.out; omega⟩
  have HB2 : Hid (bts s2 = (bts s1).drop n1) := hb2.1
  have HG2 : Hid (IsGr w w2) := hg2
  have CP := cutPrefix_any s2 w2 hs2
  clear hn1 hb2 hg2 hs2
  go_wp2_with fail
  refine CP.mono ?_
  clear CP
  rintro e w3 ⟨⟨s3, bb, rfl, hb3, hs3⟩, e3⟩
  obtain rfl := e3.symm
  have CD := ldigits_any s3 w2 hs3
  have HB3 : Hid (bts s3 = dotL (bts s2)) := hb3.1
  have HL3 : Hid (s3.size ≤ 100000) := hs3
  clear hb3 hs3
  go_wp2_with fail
  refine CD.mono ?_
  clear CD
  rintro e w4 ⟨⟨s4, rfl, hb4, hs4⟩, hg4⟩
  obtain ⟨n2, hn2⟩ : ∃ n, tw dgB (bts s3) = n := ⟨_, rfl⟩
  rw [hn2] at hb4 ⊢
  have hP : rgtB (bts s) = (decide (n1 + n2 ≠ 0) && endB (bts s4)) := rgt_parts HB1.out HN1.out.1 HB2.out HB3.out hn2 hb4.1
  have HG4 : Hid (IsGr w w4) := HG2.out.trans hg4
  have hn : IntKind.i64.wrap ((n1 : Int) + n2) = (n1 : Int) + n2 := by
    rw [IntKind.wrap_i64]
    have h1 := tw_le dgB (bts s3)
    rw [bts_len] at h1
    have := HL3.out
    have := HN1.out.2
    omega
  have HL4 : Hid (s4.size ≤ 100000) := hs4
  clear hn2 hb4 hg4 hs4
  by_cases h0 : n1 + n2 = 0
  · obtain rfl : n1 = 0 := by omega
    obtain rfl : n2 = 0 := by omega
    have HP : Hid (rgtB (bts s) = false) := by show _ = _; rw [hP]; rfl
    clear hP h0 hn
    go_wp2_with fail
    go_ret
    exact ⟨congrArg (fun z => Ending.returned (.bool z)) HP.out.symm, HG4.out⟩
  · have h0' : (((n1 : Int) + n2) == 0) = false := by simp; omega
    have HP : Hid (rgtB (bts s) = endB (bts s4)) := by show _ = _; rw [hP, decide_eq_true h0]; rfl
    clear hP h0
    by_cases h4 : 0 < s4.size
    · have hne := emp_ne h4
      have hat := bts_at h4
      obtain ⟨c, hc⟩ : ∃ c : Int, ((s4[0]'h4).toNat : Int) = c := ⟨_, rfl⟩
      rw [hc] at hat
      obtain ⟨pb, hpb⟩ : ∃ pb, powB ((bts s4).drop 1) = pb := ⟨_, rfl⟩
      have HE : Hid (rgtB (bts s) = if c = 101 ∨ c = 69 then pb else false) := by
        show _ = _; rw [HP.out, ← hpb]; exact end_cons hat (by rw [bts_len]; exact h4)
      have h4' : (1 : Int) ≤ s4.size := by omega
      have h4'' : (0 : Int) < s4.size := by omega
      have CW := fun w => lpower_any (s4.extract 1 s4.size) w (by rw [size_extract (Nat.le_refl _)]; have := HL4.out; omega)
      rw [bts_tail, hpb] at CW
      clear hat HP hpb
      cases q1 : (c == 101) with
      | true =>
        have HF : Hid (rgtB (bts s) = pb) := by show _ = _; rw [HE.out, if_pos (Or.inl (by simpa using q1))]
        clear HE
        go_wp2_with fail
        refine (CW _).mono ?_
        clear CW
        rintro e w5 ⟨rfl, hg5⟩
        have HG5 : Hid (IsGr w w5) := HG4.out.trans hg5
        clear hg5
        go_wp2_with fail
        go_ret
        exact ⟨congrArg (fun z => Ending.returned (.bool z)) HF.out.symm, HG5.out⟩
      | false =>
        cases q2 : (c == 69) with
        | true =>
          have HF : Hid (rgtB (bts s) = pb) := by show _ = _; rw [HE.out, if_pos (Or.inr (by simpa using q2))]
          clear HE
          go_wp2_with fail
          refine (CW _).mono ?_
          clear CW
          rintro e w5 ⟨rfl, hg5⟩
          have HG5 : Hid (IsGr w w5) := HG4.out.trans hg5
          clear hg5
          go_wp2_with fail
          go_ret
          exact ⟨congrArg (fun z => Ending.returned (.bool z)) HF.out.symm, HG5.out⟩
        | false =>
          have HF : Hid (rgtB (bts s) = false) := by show _ = _; rw [HE.out, if_neg (by simp at q1 q2; omega)]
          clear HE CW
          go_wp2_with fail
          go_ret
          exact ⟨congrArg (fun z => Ending.returned (.bool z)) HF.out.symm, HG4.out⟩
    · obtain rfl := emp_eq h4
      have HF : Hid (rgtB (bts s) = true) := by show _ = _; rw [HP.out]; rfl
      clear HP h4
      go_wp2_with fail
      go_ret
      exact ⟨congrArg (fun z => Ending.returned (.bool z)) HF.out.symm, HG4.out⟩
end Go.Proofs.YtfpifbfnebfdaaaDoor
