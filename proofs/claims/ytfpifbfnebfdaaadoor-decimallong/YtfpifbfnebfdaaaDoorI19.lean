/- gromalaw10.DecimalLong, given what package decimal answers: walked. -/
import Derived.Test.YtfpifbfnebfdaaaDoorI18
import Derived.Laws.Concat
namespace Go.Proofs.YtfpifbfnebfdaaaDoor
open Go.RowKit Go.Shelf
attribute [local go_sem] Gr.size Gr.cell? Gr.frozen? Gr.setCell Gr.drew Gr.drewN Gr.of_drew Gr.of_drewN Gr.gr Gr.lt_of1 Gr.le_of1 Gr.lt_of2 Gr.le_of2 Gr.lt_of3 Gr.le_of3 Gr.lt_of4 Gr.le_of4 Gr.lt_of5 Gr.le_of5 Gr.lt_of6 Gr.le_of6 Gr.lt_of7 Gr.le_of7 Gr.lt_of8 Gr.le_of8 Gr.lt_of9 Gr.le_of9 Gr.lt_of10 Gr.le_of10 Gr.lt_of11 Gr.le_of11 Gr.lt_of12 Gr.le_of12 Gr.lt_of13 Gr.le_of13 Gr.lt_of14 Gr.le_of14 Gr.lt_of15 Gr.le_of15 Gr.lt_of16 Gr.le_of16 Gr.lt_of17 Gr.le_of17 Gr.lt_of18 Gr.le_of18 Gr.lt_of19 Gr.le_of19 Gr.lt_of20 Gr.le_of20 Gr.lt_of21 Gr.le_of21 Gr.lt_of22 Gr.le_of22 Gr.lt_of23 Gr.le_of23 Gr.lt_of24 Gr.le_of24
theorem catS (a b : ByteArray) (h : a.size + b.size ≤ 100000) : ∀ w, (Op.stringOp .add a b).run Tryd.prog w = .ok (.string (a ++ b)) w := fun w => run_string_add_sum (P := Tryd.prog) w a b (by omega)

set_option maxRecDepth 20000 in set_option maxHeartbeats 2000000 in
theorem long_out0 (C : DecC) (n fine a b : Int) (h : fine < 0)  (w : World) (HTB : TabW w) : Calls Tryd.prog 6 #[.agg #[.int .i64 n, .int .i64 fine, .int .i64 a, .int .i64 b]] w fun e w' => e = .returned (.bool true) ∧ IsGr w w' := by
  have CA := fun w' (hg : IsGr w w') => dawake_any C w' (HTB.gr hg)
  clear C HTB
  go_enter Tryd.func6, Tryd.ntmps6
  go_upto_region 1 with fail
  go_quiet (fail)
  go_wp2_with fail
  have HG : Hid (IsGr w w) := IsGr.refl w
  refine (CA _ (by with_reducible repeat (first | exact IsGr.refl _ | refine IsGr.gr ?_ _ _ | refine IsGr.alloc ?_ _ | refine IsGr.drew ?_ | refine IsGr.drewN ?_ _))).mono ?_
  clear CA
  rintro e wF ⟨rfl, hgF⟩
  have HGF : Hid (IsGr w wF) := IsGr.trans (by with_reducible repeat (first | exact IsGr.refl _ | refine IsGr.gr ?_ _ _ | refine IsGr.alloc ?_ _ | refine IsGr.drew ?_ | refine IsGr.drewN ?_ _)) hgF
  clear hgF HG
  go_wp2_with fail
  go_ret
  exact ⟨rfl, HGF.out⟩

set_option maxRecDepth 20000 in set_option maxHeartbeats 2000000 in
theorem long_out1 (C : DecC) (n fine a b : Int) (h : 9 < fine) (h0 : ¬ fine < 0) (w : World) (HTB : TabW w) : Calls Tryd.prog 6 #[.agg #[.int .i64 n, .int .i64 fine, .int .i64 a, .int .i64 b]] w fun e w' => e = .returned (.bool true) ∧ IsGr w w' := by
  have CA := fun w' (hg : IsGr w w') => dawake_any C w' (HTB.gr hg)
  clear C HTB
  go_enter Tryd.func6, Tryd.ntmps6
  go_upto_region 1 with fail
  go_quiet (fail)
  go_wp2_with fail
  have HG : Hid (IsGr w w) := IsGr.refl w
  refine (CA _ (by with_reducible repeat (first | exact IsGr.refl _ | refine IsGr.gr ?_ _ _ | refine IsGr.alloc ?_ _ | refine IsGr.drew ?_ | refine IsGr.drewN ?_ _))).mono ?_
  clear CA
  rintro e wF ⟨rfl, hgF⟩
  have HGF : Hid (IsGr w wF) := IsGr.trans (by with_reducible repeat (first | exact IsGr.refl _ | refine IsGr.gr ?_ _ _ | refine IsGr.alloc ?_ _ | refine IsGr.drew ?_ | refine IsGr.drewN ?_ _)) hgF
  clear hgF HG
  go_wp2_with fail
  go_ret
  exact ⟨rfl, HGF.out⟩

set_option maxRecDepth 20000 in set_option maxHeartbeats 2000000 in
theorem long_out2 (C : DecC) (n fine a b : Int) (h : n < 0) (h0 : ¬ fine < 0) (h1 : ¬ 9 < fine) (w : World) (HTB : TabW w) : Calls Tryd.prog 6 #[.agg #[.int .i64 n, .int .i64 fine, .int .i64 a, .int .i64 b]] w fun e w' => e = .returned (.bool true) ∧ IsGr w w' := by
  have CA := fun w' (hg : IsGr w w') => dawake_any C w' (HTB.gr hg)
  clear C HTB
  go_enter Tryd.func6, Tryd.ntmps6
  go_upto_region 1 with fail
  go_quiet (fail)
  go_wp2_with fail
  have HG : Hid (IsGr w w) := IsGr.refl w
  refine (CA _ (by with_reducible repeat (first | exact IsGr.refl _ | refine IsGr.gr ?_ _ _ | refine IsGr.alloc ?_ _ | refine IsGr.drew ?_ | refine IsGr.drewN ?_ _))).mono ?_
  clear CA
  rintro e wF ⟨rfl, hgF⟩
  have HGF : Hid (IsGr w wF) := IsGr.trans (by with_reducible repeat (first | exact IsGr.refl _ | refine IsGr.gr ?_ _ _ | refine IsGr.alloc ?_ _ | refine IsGr.drew ?_ | refine IsGr.drewN ?_ _)) hgF
  clear hgF HG
  go_wp2_with fail
  go_ret
  exact ⟨rfl, HGF.out⟩

set_option maxRecDepth 20000 in set_option maxHeartbeats 2000000 in
theorem long_out3 (C : DecC) (n fine a b : Int) (h : 1099511627775 < n) (h0 : ¬ fine < 0) (h1 : ¬ 9 < fine) (h2 : ¬ n < 0) (w : World) (HTB : TabW w) : Calls Tryd.prog 6 #[.agg #[.int .i64 n, .int .i64 fine, .int .i64 a, .int .i64 b]] w fun e w' => e = .returned (.bool true) ∧ IsGr w w' := by
  have CA := fun w' (hg : IsGr w w') => dawake_any C w' (HTB.gr hg)
  clear C HTB
  go_enter Tryd.func6, Tryd.ntmps6
  go_upto_region 1 with fail
  go_quiet (fail)
  go_wp2_with fail
  have HG : Hid (IsGr w w) := IsGr.refl w
  refine (CA _ (by with_reducible repeat (first | exact IsGr.refl _ | refine IsGr.gr ?_ _ _ | refine IsGr.alloc ?_ _ | refine IsGr.drew ?_ | refine IsGr.drewN ?_ _))).mono ?_
  clear CA
  rintro e wF ⟨rfl, hgF⟩
  have HGF : Hid (IsGr w wF) := IsGr.trans (by with_reducible repeat (first | exact IsGr.refl _ | refine IsGr.gr ?_ _ _ | refine IsGr.alloc ?_ _ | refine IsGr.drew ?_ | refine IsGr.drewN ?_ _)) hgF
  clear hgF HG
  go_wp2_with fail
  go_ret
  exact ⟨rfl, HGF.out⟩

set_option maxRecDepth 20000 in set_option maxHeartbeats 2000000 in
theorem long_out4 (C : DecC) (n fine a b : Int) (h : a < 0) (h0 : ¬ fine < 0) (h1 : ¬ 9 < fine) (h2 : ¬ n < 0) (h3 : ¬ 1099511627775 < n) (w : World) (HTB : TabW w) : Calls Tryd.prog 6 #[.agg #[.int .i64 n, .int .i64 fine, .int .i64 a, .int .i64 b]] w fun e w' => e = .returned (.bool true) ∧ IsGr w w' := by
  have CA := fun w' (hg : IsGr w w') => dawake_any C w' (HTB.gr hg)
  clear C HTB
  go_enter Tryd.func6, Tryd.ntmps6
  go_upto_region 1 with fail
  go_quiet (fail)
  go_wp2_with fail
  have HG : Hid (IsGr w w) := IsGr.refl w
  refine (CA _ (by with_reducible repeat (first | exact IsGr.refl _ | refine IsGr.gr ?_ _ _ | refine IsGr.alloc ?_ _ | refine IsGr.drew ?_ | refine IsGr.drewN ?_ _))).mono ?_
  clear CA
  rintro e wF ⟨rfl, hgF⟩
  have HGF : Hid (IsGr w wF) := IsGr.trans (by with_reducible repeat (first | exact IsGr.refl _ | refine IsGr.gr ?_ _ _ | refine IsGr.alloc ?_ _ | refine IsGr.drew ?_ | refine IsGr.drewN ?_ _)) hgF
  clear hgF HG
  go_wp2_with fail
  go_ret
  exact ⟨rfl, HGF.out⟩

set_option maxRecDepth 20000 in set_option maxHeartbeats 2000000 in
theorem long_out5 (C : DecC) (n fine a b : Int) (h : 500 < a) (h0 : ¬ fine < 0) (h1 : ¬ 9 < fine) (h2 : ¬ n < 0) (h3 : ¬ 1099511627775 < n) (h4 : ¬ a < 0) (w : World) (HTB : TabW w) : Calls Tryd.prog 6 #[.agg #[.int .i64 n, .int .i64 fine, .int .i64 a, .int .i64 b]] w fun e w' => e = .returned (.bool true) ∧ IsGr w w' := by
  have CA := fun w' (hg : IsGr w w') => dawake_any C w' (HTB.gr hg)
  clear C HTB
  go_enter Tryd.func6, Tryd.ntmps6
  go_upto_region 1 with fail
  go_quiet (fail)
  go_wp2_with fail
  have HG : Hid (IsGr w w) := IsGr.refl w
  refine (CA _ (by with_reducible repeat (first | exact IsGr.refl _ | refine IsGr.gr ?_ _ _ | refine IsGr.alloc ?_ _ | refine IsGr.drew ?_ | refine IsGr.drewN ?_ _))).mono ?_
  clear CA
  rintro e wF ⟨rfl, hgF⟩
  have HGF : Hid (IsGr w wF) := IsGr.trans (by with_reducible repeat (first | exact IsGr.refl _ | refine IsGr.gr ?_ _ _ | refine IsGr.alloc ?_ _ | refine IsGr.drew ?_ | refine IsGr.drewN ?_ _)) hgF
  clear hgF HG
  go_wp2_with fail
  go_ret
  exact ⟨rfl, HGF.out⟩

set_option maxRecDepth 20000 in set_option maxHeartbeats 2000000 in
theorem long_out6 (C : DecC) (n fine a b : Int) (h : b < 0) (h0 : ¬ fine < 0) (h1 : ¬ 9 < fine) (h2 : ¬ n < 0) (h3 : ¬ 1099511627775 < n) (h4 : ¬ a < 0) (h5 : ¬ 500 < a) (w : World) (HTB : TabW w) : Calls Tryd.prog 6 #[.agg #[.int .i64 n, .int .i64 fine, .int .i64 a, .int .i64 b]] w fun e w' => e = .returned (.bool true) ∧ IsGr w w' := by
  have CA := fun w' (hg : IsGr w w') => dawake_any C w' (HTB.gr hg)
  clear C HTB
  go_enter Tryd.func6, Tryd.ntmps6
  go_upto_region 1 with fail
  go_quiet (fail)
  go_wp2_with fail
  have HG : Hid (IsGr w w) := IsGr.refl w
  refine (CA _ (by with_reducible repeat (first | exact IsGr.refl _ | refine IsGr.gr ?_ _ _ | refine IsGr.alloc ?_ _ | refine IsGr.drew ?_ | refine IsGr.drewN ?_ _))).mono ?_
  clear CA
  rintro e wF ⟨rfl, hgF⟩
  have HGF : Hid (IsGr w wF) := IsGr.trans (by with_reducible repeat (first | exact IsGr.refl _ | refine IsGr.gr ?_ _ _ | refine IsGr.alloc ?_ _ | refine IsGr.drew ?_ | refine IsGr.drewN ?_ _)) hgF
  clear hgF HG
  go_wp2_with fail
  go_ret
  exact ⟨rfl, HGF.out⟩

set_option maxRecDepth 20000 in set_option maxHeartbeats 2000000 in
theorem long_out7 (C : DecC) (n fine a b : Int) (h : 500 < b) (h0 : ¬ fine < 0) (h1 : ¬ 9 < fine) (h2 : ¬ n < 0) (h3 : ¬ 1099511627775 < n) (h4 : ¬ a < 0) (h5 : ¬ 500 < a) (h6 : ¬ b < 0) (w : World) (HTB : TabW w) : Calls Tryd.prog 6 #[.agg #[.int .i64 n, .int .i64 fine, .int .i64 a, .int .i64 b]] w fun e w' => e = .returned (.bool true) ∧ IsGr w w' := by
  have CA := fun w' (hg : IsGr w w') => dawake_any C w' (HTB.gr hg)
  clear C HTB
  go_enter Tryd.func6, Tryd.ntmps6
  go_upto_region 1 with fail
  go_quiet (fail)
  go_wp2_with fail
  have HG : Hid (IsGr w w) := IsGr.refl w
  refine (CA _ (by with_reducible repeat (first | exact IsGr.refl _ | refine IsGr.gr ?_ _ _ | refine IsGr.alloc ?_ _ | refine IsGr.drew ?_ | refine IsGr.drewN ?_ _))).mono ?_
  clear CA
  rintro e wF ⟨rfl, hgF⟩
  have HGF : Hid (IsGr w wF) := IsGr.trans (by with_reducible repeat (first | exact IsGr.refl _ | refine IsGr.gr ?_ _ _ | refine IsGr.alloc ?_ _ | refine IsGr.drew ?_ | refine IsGr.drewN ?_ _)) hgF
  clear hgF HG
  go_wp2_with fail
  go_ret
  exact ⟨rfl, HGF.out⟩

set_option maxRecDepth 20000 in set_option maxHeartbeats 2000000 in
theorem long_main (C : DecC) (n fine : Int) (a b : Nat) (hf0 : 0 ≤ fine) (hf9 : fine ≤ 9) (hn0 : 0 ≤ n) (hn1 : n ≤ 1099511627775) (ha : a ≤ 500) (hb : b ≤ 500) (w : World) (HTB : TabW w) : Calls Tryd.prog 6 #[.agg #[.int .i64 n, .int .i64 fine, .int .i64 a, .int .i64 b]] w fun e w' => e = .returned (.bool true) ∧ IsGr w w' := by
  have CA := fun w' (hg : IsGr w w') => dawake_any C w' (HTB.gr hg)
  have hi : I64 n := by unfold I64; omega
  have hj : I64 fine := by unfold I64; omega
  have hna : n.natAbs < 10 ^ 20 := by omega
  have CT := fun w' (hg : IsGr w w') => C.text n fine w' (HTB.gr hg) hi hj
  obtain ⟨hbb, hlen⟩ := textU_bytes n fine hna
  obtain ⟨hs, ⟨h1, h2⟩, -, hne, -⟩ := textU_spl n fine ⟨hf0, hf9⟩ hna
  have hbt := bts_of hbb
  have hneg : ¬ n < 0 := by omega
  obtain ⟨s0, hs0⟩ : ∃ s, strOfNums (textU n fine) = s := ⟨_, rfl⟩
  rw [hs0] at CT hbt
  rw [← hbt, decide_eq_false hneg, if_neg hneg] at hs
  rw [decide_eq_false hneg] at h2
  rw [← hbt, bts_len] at hlen
  obtain ⟨l1, hl1⟩ : ∃ l, dgsN (n.natAbs / 10 ^ fine.toNat) = l := ⟨_, rfl⟩
  obtain ⟨l2, hl2⟩ : ∃ l, frcU n fine = l := ⟨_, rfl⟩
  rw [hl1, hl2] at hs h2
  rw [hl2] at h1
  rw [hl1] at hne
  have heq : bts s0 = l1 ++ ((if l2 = [] then [] else [46]) ++ l2) := by have := hs.eq; simpa using this
  have h2' : n = dvl (l1 ++ l2) * 10 ^ (fine.toNat - l2.length) := h2
  have HQ : Hid ((0 ≤ fine ∧ fine ≤ 9) ∧ Dgs l1 ∧ l1 ≠ [] ∧ Dgs l2 ∧ l2.length ≤ fine.toNat ∧ n = dvl (l1 ++ l2) * 10 ^ (fine.toNat - l2.length)) := ⟨⟨hf0, hf9⟩, hs.d1, hne, hs.d2, h1, h2'⟩
  have HN : Hid (0 ≤ n ∧ n ≤ 1099511627775 ∧ a ≤ 500 ∧ b ≤ 500) := ⟨hn0, hn1, ha, hb⟩
  have HE0 : Hid (bts s0 = l1 ++ ((if l2 = [] then [] else [46]) ++ l2) ∧ s0.size ≤ 60) := ⟨heq, hlen⟩
  have CS := fun (s : ByteArray) (M E : Int) (hz : s.size ≤ 3000) (hN : NumIs (bts s) M E) w => C.scale s fine w M E hz hj hN
  have g0 : ¬ fine < 0 := by omega
  have g1 : ¬ 9 < fine := by omega
  have g3 : ¬ 1099511627775 < n := by omega
  have g4 : ¬ (a : Int) < 0 := by omega
  have g5 : ¬ (500 : Int) < a := by omega
  have g6 : ¬ (b : Int) < 0 := by omega
  have g7 : ¬ (500 : Int) < b := by omega
  clear C HTB hi hj hna hbb hlen hs h1 h2 hne hbt hs0 hl1 hl2 heq h2' hf0 hf9 hn0 hn1 ha hb
  go_enter Tryd.func6, Tryd.ntmps6
  go_upto_region 1 with fail
  go_quiet (fail)
  go_wp2_with fail
  refine (CT _ (by with_reducible repeat (first | exact IsGr.refl _ | refine IsGr.gr ?_ _ _ | refine IsGr.alloc ?_ _ | refine IsGr.drew ?_ | refine IsGr.drewN ?_ _))).mono ?_
  clear CT
  rintro e w1 ⟨rfl, hg1⟩
  have HG1 : Hid (IsGr w w1) := IsGr.trans (by with_reducible repeat (first | exact IsGr.refl _ | refine IsGr.gr ?_ _ _ | refine IsGr.alloc ?_ _ | refine IsGr.drew ?_ | refine IsGr.drewN ?_ _)) hg1
  clear hg1 g0 g1 g3 g4 g5 g6 g7 hneg
  go_wp2_with fail
  go_loopg [8, 58] s0.size (fun r p8 p58 wr => wr = w1 ∧ ∃ (i : Nat) (dd : Bool), i + r = s0.size ∧ p58 = .int .i64 i ∧ p8 = .bool dd ∧ Hid (dd = ((bts s0).take i).any (fun c => c == 46)))
  case atStart => exact ⟨rfl, 0, false, by omega, rfl, rfl, rfl⟩
  case round =>
    obtain ⟨hww, i, dd, hk, rfl, rfl, HI⟩ := hrel
    obtain rfl := hww.symm
    by_cases hi : i < s0.size
    · have hat := bts_at hi
      obtain ⟨c, hc⟩ : ∃ c : Int, ((s0[i]'hi).toNat : Int) = c := ⟨_, rfl⟩
      have hi' : (i : Int) < s0.size := by omega
      have e1 : IntKind.i64.wrap ((i : Int) + 1) = (i : Int) + 1 := by rw [IntKind.wrap_i64]; have := HE0.out.2; omega
      have HT : Hid (((bts s0).take (i + 1)).any (fun c => c == 46) = (dd || (c == 46))) := by
        show _ = _
        rw [takeS (by rw [bts_len]; exact hi), List.any_append, ← HI.out, hat, hc]
        simp
      clear hat
      cases dd with
      | true =>
        go_wp2_with fail
        go_roundg (s0.size - (i + 1))
        case measure => omega
        case rel => exact ⟨rfl, i + 1, true, by omega, by simp, rfl, by show _ = _; rw [HT.out]; rfl⟩
      | false =>
        go_wp2_with fail
        go_roundg (s0.size - (i + 1))
        case measure => omega
        case rel => exact ⟨rfl, i + 1, (c == 46), by omega, by simp, rfl, by show _ = _; rw [HT.out]; rfl⟩
    · have hi' : ¬ (i : Int) < s0.size := by omega
      have hdd : dd = decide (l2 ≠ []) := by
        rw [HI.out, List.take_of_length_le (by rw [bts_len]; omega), HE0.out.1, List.any_append, List.any_append]
        have hnd : ∀ l : List Int, Dgs l → l.any (fun c => c == 46) = false := fun l hl => by
          rw [List.any_eq_false]
          intro c hc
          have := dg_range (hl c hc)
          simp; omega
        rw [hnd _ HQ.out.2.1, hnd _ HQ.out.2.2.2.1]
        by_cases h : l2 = []
        · rw [if_pos h, h]; rfl
        · rw [if_neg h, decide_eq_true h]; rfl
      clear HI
      have HL12 : Hid (l1.length + l2.length ≤ 60) := by
        have h4 := congrArg List.length HE0.out.1
        rw [bts_len] at h4
        simp only [List.length_append] at h4
        have := HE0.out.2
        show _ ≤ _
        omega
      by_cases h : l2 = []
      · have HL1 : Hid (bts (s0 ++ { data := #[46] }) = List.replicate 0 48 ++ (l1 ++ ([46] ++ l2))) := by
          show _ = _
          rw [bts_app, HE0.out.1, if_pos h, h, show bts { data := #[46] } = [46] by decide]; simp
        obtain rfl : dd = false := by rw [hdd, h]; rfl
        have hcat0 := catS s0 { data := #[46] } (by have h0 : ({ data := #[46] } : ByteArray).size = 1 := rfl; have := HE0.out.2; omega)
        clear hdd h
        go_wp2_with fail
        go_loopg [7, 74] a (fun r p7 p74 wr => wr = w1 ∧ ∃ (k : Nat) (s' : ByteArray), k + r = a ∧ p74 = .int .i64 k ∧ p7 = .string s' ∧ Hid (bts s' = List.replicate k 48 ++ (l1 ++ ([46] ++ l2))))
        case atStart => exact ⟨rfl, 0, _, by omega, rfl, rfl, HL1⟩
        case round =>
          obtain ⟨hww, k, s', hk, rfl, rfl, HS⟩ := hrel
          obtain rfl := hww.symm
          have HK : Hid (k + _ = a) := hk
          clear hk
          by_cases hka : (k : Int) < a
          · have e1 : IntKind.i64.wrap ((k : Int) + 1) = (k : Int) + 1 := by rw [IntKind.wrap_i64]; have := HN.out; omega
            have hsz := congrArg List.length HS.out
            rw [bts_len] at hsz
            simp only [List.length_append, List.length_replicate, List.length_cons, List.length_nil] at hsz
            have hcat := catS { data := #[48] } s' (by have h0 : ({ data := #[48] } : ByteArray).size = 1 := rfl; have := HL12.out; have := HN.out; omega)
            clear hsz
            go_wp2_with fail
            go_roundg (a - (k + 1))
            case measure => have := HK.out; omega
            case rel => exact ⟨rfl, k + 1, _, by omega, by simp, rfl, by
              show _ = _
              rw [bts_app, HS.out]
              exact rep_snoc k _⟩
          · have HS1 : Hid (bts s' = List.replicate a 48 ++ (l1 ++ ([46] ++ l2))) := by
              have h := HS.out
              have hk := HK.out
              rwa [show k = a by omega] at h
            obtain ⟨s1, hs1⟩ : ∃ s1, s1 = s' := ⟨_, rfl⟩
            subst hs1
            clear HS HK
            go_wp2_with fail
            go_loopg [7, 80] b (fun r p7 p80 wr => wr = w1 ∧ ∃ (m : Nat) (s' : ByteArray), m + r = b ∧ p80 = .int .i64 m ∧ p7 = .string s' ∧ Hid (bts s' = (List.replicate a 48 ++ (l1 ++ ([46] ++ l2))) ++ List.replicate m 48))
            case atStart => exact ⟨rfl, 0, _, by omega, rfl, rfl, by show _ = _; rw [HS1.out]; simp⟩
            case round =>
              obtain ⟨hww, m, s2, hm, rfl, rfl, HM⟩ := hrel
              obtain rfl := hww.symm
              have HJ : Hid (m + _ = b) := hm
              clear hm
              by_cases hmb : (m : Int) < b
              · have e1 : IntKind.i64.wrap ((m : Int) + 1) = (m : Int) + 1 := by rw [IntKind.wrap_i64]; have := HN.out; omega
                have hsz := congrArg List.length HM.out
                rw [bts_len] at hsz
                simp only [List.length_append, List.length_replicate, List.length_cons, List.length_nil] at hsz
                have hcat := catS s2 { data := #[48] } (by have h0 : ({ data := #[48] } : ByteArray).size = 1 := rfl; have := HL12.out; have := HN.out; omega)
                clear hsz
                go_wp2_with fail
                go_roundg (b - (m + 1))
                case measure => have := HJ.out; omega
                case rel => exact ⟨rfl, m + 1, _, by omega, by simp, rfl, by
                  show _ = _
                  rw [bts_app, HM.out]
                  exact rep_back _ m⟩
              · have hmb2 : m = b := by have := HJ.out; omega
                have hb2 : bts s2 = [] ++ ((List.replicate a 48 ++ l1) ++ ([46] ++ ((l2 ++ List.replicate b 48) ++ []))) := by
                  rw [HM.out, hmb2]; simp
                have hz2 : s2.size ≤ 1070 := by
                  have h3 := congrArg List.length hb2
                  rw [bts_len] at h3
                  simp only [List.length_append, List.length_replicate, List.length_cons, List.length_nil] at h3
                  have h4 := congrArg List.length HE0.out.1
                  rw [bts_len] at h4
                  simp only [List.length_append] at h4
                  have h5 := HE0.out.2
                  have h6 := HN.out
                  omega
                have hb3 : bts (({ data := #[45] } ++ s2) ++ { data := #[101, 48] }) = [45] ++ ((List.replicate a 48 ++ l1) ++ ([46] ++ ((l2 ++ List.replicate b 48) ++ [101, 48]))) := by
                  rw [bts_app, bts_app, hb2, show bts { data := #[45] } = [45] by decide, show bts { data := #[101, 48] } = [101, 48] by decide]; simp
                have hz3 : (({ data := #[45] } ++ s2) ++ { data := #[101, 48] } : ByteArray).size ≤ 3000 := by
                  rw [ByteArray.size_append, ByteArray.size_append]
                  have e1 : ({ data := #[45] } : ByteArray).size = 1 := rfl
                  have e2 : ({ data := #[101, 48] } : ByteArray).size = 2 := rfl
                  omega
                obtain ⟨M1, E1, hN1, hU1⟩ := long_num (n := n) (fine := fine) (neg := false) HQ.out.1 HQ.out.2.1 HQ.out.2.2.1 HQ.out.2.2.2.1 HQ.out.2.2.2.2.1 HQ.out.2.2.2.2.2 (Or.inl ⟨rfl, rfl⟩) (Or.inl rfl) hb2
                obtain ⟨M2, E2, hN2, hU2⟩ := long_num (n := n) (fine := fine) (neg := true) HQ.out.1 HQ.out.2.1 HQ.out.2.2.1 HQ.out.2.2.2.1 HQ.out.2.2.2.2.1 HQ.out.2.2.2.2.2 (Or.inr (Or.inr ⟨rfl, rfl⟩)) (Or.inr rfl) hb3
                have hcat1 := catS { data := #[45] } s2 (by have h0 : ({ data := #[45] } : ByteArray).size = 1 := rfl; omega)
                have hcat2 := catS ({ data := #[45] } ++ s2) { data := #[101, 48] } (by rw [ByteArray.size_append]; have h0 : ({ data := #[45] } : ByteArray).size = 1 := rfl; have h1 : ({ data := #[101, 48] } : ByteArray).size = 2 := rfl; omega)
                have C1 := CS _ M1 E1 (by omega) hN1 w1
                have C2 := fun w => CS _ M2 E2 hz3 hN2 w
                have HU1 : Hid (UnitIs M1 (E1 + fine) n) := hU1
                have HU2 : Hid (UnitIs M2 (E2 + fine) (-n)) := hU2
                have ewn : IntKind.i64.wrap (-n) = -n := by rw [IntKind.wrap_i64]; have := HN.out; omega
                clear CS hmb2 hb2 hz2 hb3 hz3 hN1 hN2 hU1 hU2 HM HJ HS1
                go_wp2_with fail
                refine C1.mono ?_
                clear C1
                rintro e w3 ⟨m1, er1, rfl, hsc1, hg3⟩
                obtain ⟨rfl, rfl⟩ := hsc1.ok HQ.out.1 HU1.out (by unfold MxU; have := HN.out; omega) (by unfold MxU; have := HN.out; omega)
                clear hsc1
                go_wp2_with fail
                refine (C2 _).mono ?_
                clear C2
                rintro e w4 ⟨m2, er2, rfl, hsc2, hg4⟩
                obtain ⟨rfl, rfl⟩ := hsc2.ok HQ.out.1 HU2.out (by unfold MxU; have := HN.out; omega) (by unfold MxU; have := HN.out; omega)
                have HG : Hid (IsGr w w4) := (HG1.out.trans hg3).trans hg4
                clear hsc2 hg3 hg4
                go_wp2_with fail
                refine (CA _ HG.out).mono ?_
                clear CA
                rintro e wF ⟨rfl, hgF⟩
                have HGF : Hid (IsGr w wF) := HG.out.trans hgF
                clear hgF
                go_wp2_with fail
                go_ret
                exact ⟨rfl, HGF.out⟩
      · have HL1 : Hid (bts s0 = List.replicate 0 48 ++ (l1 ++ ([46] ++ l2))) := by
          show _ = _
          rw [HE0.out.1, if_neg h]; rfl
        obtain rfl : dd = true := by rw [hdd, decide_eq_true h]
        clear hdd h
        go_wp2_with fail
        go_loopg [7, 74] a (fun r p7 p74 wr => wr = w1 ∧ ∃ (k : Nat) (s' : ByteArray), k + r = a ∧ p74 = .int .i64 k ∧ p7 = .string s' ∧ Hid (bts s' = List.replicate k 48 ++ (l1 ++ ([46] ++ l2))))
        case atStart => exact ⟨rfl, 0, _, by omega, rfl, rfl, HL1⟩
        case round =>
          obtain ⟨hww, k, s', hk, rfl, rfl, HS⟩ := hrel
          obtain rfl := hww.symm
          have HK : Hid (k + _ = a) := hk
          clear hk
          by_cases hka : (k : Int) < a
          · have e1 : IntKind.i64.wrap ((k : Int) + 1) = (k : Int) + 1 := by rw [IntKind.wrap_i64]; have := HN.out; omega
            have hsz := congrArg List.length HS.out
            rw [bts_len] at hsz
            simp only [List.length_append, List.length_replicate, List.length_cons, List.length_nil] at hsz
            have hcat := catS { data := #[48] } s' (by have h0 : ({ data := #[48] } : ByteArray).size = 1 := rfl; have := HL12.out; have := HN.out; omega)
            clear hsz
            go_wp2_with fail
            go_roundg (a - (k + 1))
            case measure => have := HK.out; omega
            case rel => exact ⟨rfl, k + 1, _, by omega, by simp, rfl, by
              show _ = _
              rw [bts_app, HS.out]
              exact rep_snoc k _⟩
          · have HS1 : Hid (bts s' = List.replicate a 48 ++ (l1 ++ ([46] ++ l2))) := by
              have h := HS.out
              have hk := HK.out
              rwa [show k = a by omega] at h
            obtain ⟨s1, hs1⟩ : ∃ s1, s1 = s' := ⟨_, rfl⟩
            subst hs1
            clear HS HK
            go_wp2_with fail
            go_loopg [7, 80] b (fun r p7 p80 wr => wr = w1 ∧ ∃ (m : Nat) (s' : ByteArray), m + r = b ∧ p80 = .int .i64 m ∧ p7 = .string s' ∧ Hid (bts s' = (List.replicate a 48 ++ (l1 ++ ([46] ++ l2))) ++ List.replicate m 48))
            case atStart => exact ⟨rfl, 0, _, by omega, rfl, rfl, by show _ = _; rw [HS1.out]; simp⟩
            case round =>
              obtain ⟨hww, m, s2, hm, rfl, rfl, HM⟩ := hrel
              obtain rfl := hww.symm
              have HJ : Hid (m + _ = b) := hm
              clear hm
              by_cases hmb : (m : Int) < b
              · have e1 : IntKind.i64.wrap ((m : Int) + 1) = (m : Int) + 1 := by rw [IntKind.wrap_i64]; have := HN.out; omega
                have hsz := congrArg List.length HM.out
                rw [bts_len] at hsz
                simp only [List.length_append, List.length_replicate, List.length_cons, List.length_nil] at hsz
                have hcat := catS s2 { data := #[48] } (by have h0 : ({ data := #[48] } : ByteArray).size = 1 := rfl; have := HL12.out; have := HN.out; omega)
                clear hsz
                go_wp2_with fail
                go_roundg (b - (m + 1))
                case measure => have := HJ.out; omega
                case rel => exact ⟨rfl, m + 1, _, by omega, by simp, rfl, by
                  show _ = _
                  rw [bts_app, HM.out]
                  exact rep_back _ m⟩
              · have hmb2 : m = b := by have := HJ.out; omega
                have hb2 : bts s2 = [] ++ ((List.replicate a 48 ++ l1) ++ ([46] ++ ((l2 ++ List.replicate b 48) ++ []))) := by
                  rw [HM.out, hmb2]; simp
                have hz2 : s2.size ≤ 1070 := by
                  have h3 := congrArg List.length hb2
                  rw [bts_len] at h3
                  simp only [List.length_append, List.length_replicate, List.length_cons, List.length_nil] at h3
                  have h4 := congrArg List.length HE0.out.1
                  rw [bts_len] at h4
                  simp only [List.length_append] at h4
                  have h5 := HE0.out.2
                  have h6 := HN.out
                  omega
                have hb3 : bts (({ data := #[45] } ++ s2) ++ { data := #[101, 48] }) = [45] ++ ((List.replicate a 48 ++ l1) ++ ([46] ++ ((l2 ++ List.replicate b 48) ++ [101, 48]))) := by
                  rw [bts_app, bts_app, hb2, show bts { data := #[45] } = [45] by decide, show bts { data := #[101, 48] } = [101, 48] by decide]; simp
                have hz3 : (({ data := #[45] } ++ s2) ++ { data := #[101, 48] } : ByteArray).size ≤ 3000 := by
                  rw [ByteArray.size_append, ByteArray.size_append]
                  have e1 : ({ data := #[45] } : ByteArray).size = 1 := rfl
                  have e2 : ({ data := #[101, 48] } : ByteArray).size = 2 := rfl
                  omega
                obtain ⟨M1, E1, hN1, hU1⟩ := long_num (n := n) (fine := fine) (neg := false) HQ.out.1 HQ.out.2.1 HQ.out.2.2.1 HQ.out.2.2.2.1 HQ.out.2.2.2.2.1 HQ.out.2.2.2.2.2 (Or.inl ⟨rfl, rfl⟩) (Or.inl rfl) hb2
                obtain ⟨M2, E2, hN2, hU2⟩ := long_num (n := n) (fine := fine) (neg := true) HQ.out.1 HQ.out.2.1 HQ.out.2.2.1 HQ.out.2.2.2.1 HQ.out.2.2.2.2.1 HQ.out.2.2.2.2.2 (Or.inr (Or.inr ⟨rfl, rfl⟩)) (Or.inr rfl) hb3
                have hcat1 := catS { data := #[45] } s2 (by have h0 : ({ data := #[45] } : ByteArray).size = 1 := rfl; omega)
                have hcat2 := catS ({ data := #[45] } ++ s2) { data := #[101, 48] } (by rw [ByteArray.size_append]; have h0 : ({ data := #[45] } : ByteArray).size = 1 := rfl; have h1 : ({ data := #[101, 48] } : ByteArray).size = 2 := rfl; omega)
                have C1 := CS _ M1 E1 (by omega) hN1 w1
                have C2 := fun w => CS _ M2 E2 hz3 hN2 w
                have HU1 : Hid (UnitIs M1 (E1 + fine) n) := hU1
                have HU2 : Hid (UnitIs M2 (E2 + fine) (-n)) := hU2
                have ewn : IntKind.i64.wrap (-n) = -n := by rw [IntKind.wrap_i64]; have := HN.out; omega
                clear CS hmb2 hb2 hz2 hb3 hz3 hN1 hN2 hU1 hU2 HM HJ HS1
                go_wp2_with fail
                refine C1.mono ?_
                clear C1
                rintro e w3 ⟨m1, er1, rfl, hsc1, hg3⟩
                obtain ⟨rfl, rfl⟩ := hsc1.ok HQ.out.1 HU1.out (by unfold MxU; have := HN.out; omega) (by unfold MxU; have := HN.out; omega)
                clear hsc1
                go_wp2_with fail
                refine (C2 _).mono ?_
                clear C2
                rintro e w4 ⟨m2, er2, rfl, hsc2, hg4⟩
                obtain ⟨rfl, rfl⟩ := hsc2.ok HQ.out.1 HU2.out (by unfold MxU; have := HN.out; omega) (by unfold MxU; have := HN.out; omega)
                have HG : Hid (IsGr w w4) := (HG1.out.trans hg3).trans hg4
                clear hsc2 hg3 hg4
                go_wp2_with fail
                refine (CA _ HG.out).mono ?_
                clear CA
                rintro e wF ⟨rfl, hgF⟩
                have HGF : Hid (IsGr w wF) := HG.out.trans hgF
                clear hgF
                go_wp2_with fail
                go_ret
                exact ⟨rfl, HGF.out⟩
theorem law_long (C : DecC) (n fine a b : Int) (w : World) (HTB : TabW w) : Calls Tryd.prog 6 #[.agg #[.int .i64 n, .int .i64 fine, .int .i64 a, .int .i64 b]] w fun e w' => e = .returned (.bool true) ∧ IsGr w w' := by
  by_cases h0 : fine < 0
  · exact long_out0 C n fine a b h0 w HTB
  · by_cases h1 : 9 < fine
    · exact long_out1 C n fine a b h1 h0 w HTB
    · by_cases h2 : n < 0
      · exact long_out2 C n fine a b h2 h0 h1 w HTB
      · by_cases h3 : 1099511627775 < n
        · exact long_out3 C n fine a b h3 h0 h1 h2 w HTB
        · by_cases h4 : a < 0
          · exact long_out4 C n fine a b h4 h0 h1 h2 h3 w HTB
          · by_cases h5 : 500 < a
            · exact long_out5 C n fine a b h5 h0 h1 h2 h3 h4 w HTB
            · by_cases h6 : b < 0
              · exact long_out6 C n fine a b h6 h0 h1 h2 h3 h4 h5 w HTB
              · by_cases h7 : 500 < b
                · exact long_out7 C n fine a b h7 h0 h1 h2 h3 h4 h5 h6 w HTB
                · obtain ⟨a', rfl⟩ := Int.eq_ofNat_of_zero_le (show 0 ≤ a by omega)
                  obtain ⟨b', rfl⟩ := Int.eq_ofNat_of_zero_le (show 0 ≤ b by omega)
                  exact long_main C n fine a' b' (by omega) (by omega) (by omega) (by omega) (by omega) (by omega) w HTB
end Go.Proofs.YtfpifbfnebfdaaaDoor
