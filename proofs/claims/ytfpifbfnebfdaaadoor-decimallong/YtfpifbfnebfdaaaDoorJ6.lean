/- Package decimal over the loaded program: Scale. -/
import Derived.Test.YtfpifbfnebfdaaaDoorJ5
namespace Go.Proofs.YtfpifbfnebfdaaaDoor
open Go.RowKit Go.Shelf
attribute [local go_sem] Gr.size Gr.cell? Gr.frozen? Gr.setCell Gr.drew Gr.drewN Gr.of_drew Gr.of_drewN Gr.gr Gr.lt_of1 Gr.le_of1 Gr.lt_of2 Gr.le_of2 Gr.lt_of3 Gr.le_of3 Gr.lt_of4 Gr.le_of4 Gr.lt_of5 Gr.le_of5 Gr.lt_of6 Gr.le_of6 Gr.lt_of7 Gr.le_of7 Gr.lt_of8 Gr.le_of8 Gr.lt_of9 Gr.le_of9 Gr.lt_of10 Gr.le_of10 Gr.lt_of11 Gr.le_of11 Gr.lt_of12 Gr.le_of12 Gr.lt_of13 Gr.le_of13 Gr.lt_of14 Gr.le_of14 Gr.lt_of15 Gr.le_of15 Gr.lt_of16 Gr.le_of16 Gr.lt_of17 Gr.le_of17 Gr.lt_of18 Gr.le_of18 Gr.lt_of19 Gr.le_of19 Gr.lt_of20 Gr.le_of20 Gr.lt_of21 Gr.le_of21 Gr.lt_of22 Gr.le_of22 Gr.lt_of23 Gr.le_of23 Gr.lt_of24 Gr.le_of24
theorem pow_split (a b : Nat) : (10 : Int) ^ (a + b) = 10 ^ a * 10 ^ b := Int.pow_add ..
/-- A number whose last digit would stand behind the unit is no whole count. -/
theorem sc_fine {M E fine p : Int} {d : List Int} {below : Bool} (h : DgR M E d p below) (hf : 0 ≤ fine ∧ fine ≤ 9) (hq : p + fine < 0) : ∀ k, ¬ UnitIs M (E + fine) k := fun k hk => by
  rcases h with ⟨_, _, rfl, _⟩ | ⟨hM, hd, hn, h0, hl, hb, t, ht, hp⟩
  · omega
  · have hE : E + t + fine < 0 := by
      split at hp
      · omega
      · split at hp <;> omega
    rcases hk with ⟨h1, _⟩ | ⟨h1, h2⟩
    · omega
    · obtain ⟨r, hr⟩ : ∃ r, (-(E + fine)).toNat = t + 1 + r := ⟨(-(E + fine)).toNat - (t + 1), by omega⟩
      obtain ⟨a, c, hac⟩ := snoc_of hn
      rw [hac, getD_last] at hl
      rw [hac] at hd
      refine dvl_mod c hd hl ⟨(k.natAbs : Int) * 10 ^ r, ?_⟩
      rw [hr] at h2
      have h3 : (M.natAbs : Int) = (k.natAbs : Int) * 10 ^ (t + 1 + r) := by
        rw [← h2, Int.natAbs_mul, Int.natAbs_pow]
        simp
      rw [← ht, hac, pow_split, pow_split, show (10 : Int) ^ 1 = 10 from rfl] at h3
      refine Int.eq_of_mul_eq_mul_right (a := 10 ^ t) (by have := ten_pos t; omega) ?_
      rw [h3]
      generalize (10 : Int) ^ t = x
      generalize (10 : Int) ^ r = y
      rw [Int.mul_assoc, Int.mul_assoc, Int.mul_assoc]
      congr 1
      rw [Int.mul_left_comm x 10 y, Int.mul_left_comm y 10 x, Int.mul_comm x y]
theorem sgI_mul (b : Bool) (x y : Int) : sgI b (x * y) = sgI b x * y := by
  unfold sgI; split
  · rw [Int.neg_mul]
  · rfl
theorem ten_far (n : Nat) (h : 1099511627776 ≤ n) : (1099511627775 : Int) < 10 ^ n := by
  have h1 : n < 10 ^ n := Nat.lt_pow_self (by omega)
  have h2 : ((10 ^ n : Nat) : Int) = (10 : Int) ^ n := by simp
  rw [← h2]; omega
/-- Any other number is so many units: what the multiplication tells of it. -/
theorem sc_unit {M E fine p : Int} {d : List Int} {below : Bool} (h : DgR M E d p below) (hf : 0 ≤ fine ∧ fine ≤ 9) (hq : 0 ≤ p + fine) :
    ∃ k, UnitIs M (E + fine) k ∧ 0 ≤ dvl d ∧ (dvl d * 10 ^ (p + fine).toNat ≤ MxU → k = sgI below (dvl d * 10 ^ (p + fine).toNat)) ∧ (MxU < dvl d * 10 ^ (p + fine).toNat → k < -MxU ∨ MxU < k) := by
  rcases h with ⟨rfl, rfl, rfl, rfl⟩ | ⟨hM, hd, hn, h0, hl, hb, t, ht, hp⟩
  · refine ⟨0, ?_, Int.le_refl _, fun _ => ?_, fun h => ?_⟩
    · rcases Int.lt_or_le (E + fine) 0 with h | h
      · exact Or.inr ⟨h, by rw [Int.zero_mul]⟩
      · exact Or.inl ⟨h, by rw [Int.zero_mul]⟩
    · simp [dvl, dvF, sgI]
    · simp [dvl, dvF, MxU] at h
  · have hv := dvl_pos hd hn h0
    have hE : 0 ≤ E + t + fine := by
      split at hp
      · omega
      · split at hp <;> omega
    have hu : UnitIs M (E + fine) (sgI below (dvl d * 10 ^ (E + t + fine).toNat)) := by
      have hMs : M = sgI below (dvl d * 10 ^ t) := by
        rw [ht, hb]; unfold sgI
        by_cases h : M < 0
        · rw [decide_eq_true h, if_pos rfl]; omega
        · rw [decide_eq_false h, if_neg (by simp)]; omega
      rcases Int.lt_or_le (E + fine) 0 with h | h
      · refine Or.inr ⟨h, ?_⟩
        rw [← sgI_mul, Int.mul_assoc, ← pow_split, show (E + t + fine).toNat + (-(E + fine)).toNat = t by omega, hMs]
      · refine Or.inl ⟨h, ?_⟩
        rw [hMs, ← sgI_mul, Int.mul_assoc, ← pow_split, show t + (E + fine).toNat = (E + t + fine).toNat by omega]
    have hbig : ∀ x : Int, MxU < x → sgI below x < -MxU ∨ MxU < sgI below x := fun x hx => by
      unfold sgI; split <;> omega
    by_cases hc : 1099511627776 < E + t
    · have hp2 : p = 1099511627776 := by rw [hp, if_neg (by omega), if_pos hc]
      have far : ∀ n : Nat, 1099511627776 ≤ n → MxU < dvl d * 10 ^ n := fun n hn => by
        have h1 := ten_far n hn
        have h2 : 1 * 10 ^ n ≤ dvl d * 10 ^ n := Int.mul_le_mul_of_nonneg_right (by omega) (by have := ten_pos n; omega)
        unfold MxU; omega
      have hG := far (p + fine).toNat (by omega)
      refine ⟨_, hu, by omega, fun h => absurd h (by omega), fun _ => hbig _ (far _ (by omega))⟩
    · have hp2 : p = E + t := by
        rw [if_neg (c := 1099511627776 < E + t) hc] at hp
        split at hp <;> omega
      rw [← show p + fine = E + t + fine by omega] at hu
      exact ⟨_, hu, by omega, fun _ => rfl, fun h => hbig _ h⟩
set_option maxRecDepth 20000 in set_option maxHeartbeats 2000000 in
theorem dscale_no (s : ByteArray) (fine : Int) (w : World) (hs : s.size ≤ 3000) (hr : rgtB (bts s) = false) : Calls Tryd.prog 8 #[.string s, .int .i64 fine] w fun e w' => e = .returned (.tuple #[.int .i64 0, .int .i64 10]) ∧ IsGr w w' := by
  have CD := ddigits_no s w hs hr
  clear hs hr
  go_enter Tryd.func8, Tryd.ntmps8
  go_wp2_with fail
  refine CD.mono ?_
  rintro e w1 ⟨rfl, hg⟩
  go_wp2_with fail
  exact bodyPost_ret (v := .tuple #[.int .i64 0, .int .i64 10]) (by simp [results, Tryd.results8, go_sem]) rfl ⟨rfl, hg⟩
set_option maxRecDepth 20000 in set_option maxHeartbeats 2000000 in
theorem dscale_out (s : ByteArray) (fine : Int) (w : World) (M E : Int) (hs : s.size ≤ 3000) (hN : NumIs (bts s) M E) (hf : ¬ (0 ≤ fine ∧ fine ≤ 9)) : Calls Tryd.prog 8 #[.string s, .int .i64 fine] w fun e w' => ∃ n err, e = .returned (.tuple #[.int .i64 n, .int .i64 err]) ∧ ScR M E fine n err ∧ IsGr w w' := by
  have CD := ddigits_ok s w M E hs hN
  have CU := fun w => dunit_any fine false (decide_eq_false hf) w
  have HR : Hid (ScR M E fine 0 10) := Or.inl ⟨by omega, rfl, rfl⟩
  clear hs hN hf
  go_enter Tryd.func8, Tryd.ntmps8
  go_wp2_with fail
  refine CD.mono ?_
  rintro e w1 ⟨d, p, below, rfl, -, -, hg⟩
  go_wp2_with fail
  refine (CU _).mono ?_
  rintro e w2 ⟨rfl, hw⟩
  obtain rfl := hw.symm
  go_wp2_with fail
  exact bodyPost_ret (v := .tuple #[.int .i64 0, .int .i64 10]) (by simp [results, Tryd.results8, go_sem]) rfl ⟨_, _, rfl, HR.out, hg⟩
set_option maxRecDepth 20000 in set_option maxHeartbeats 2000000 in
theorem dscale_in (s : ByteArray) (fine : Int) (w : World) (M E : Int) (hs : s.size ≤ 3000) (hN : NumIs (bts s) M E) (hf : 0 ≤ fine ∧ fine ≤ 9) : Calls Tryd.prog 8 #[.string s, .int .i64 fine] w fun e w' => ∃ n err, e = .returned (.tuple #[.int .i64 n, .int .i64 err]) ∧ ScR M E fine n err ∧ IsGr w w' := by
  have CD := ddigits_ok s w M E hs hN
  have CU := fun w => dunit_any fine true (decide_eq_true hf) w
  have HF : Hid (0 ≤ fine ∧ fine ≤ 9) := hf
  have HS : Hid (s.size ≤ 3000) := hs
  clear hs hN
  go_enter Tryd.func8, Tryd.ntmps8
  go_wp2_with fail
  refine CD.mono ?_
  clear CD
  rintro e w1 ⟨d, p, below, rfl, hr, hsz, hg⟩
  have HG : Hid (IsGr w w1) := hg
  clear hg
  have hpr : -1099511627776 ≤ p ∧ p ≤ 1099511627776 := by
    rcases hr with ⟨_, _, rfl, _⟩ | ⟨_, _, _, _, _, _, t, _, hp⟩
    · omega
    · split at hp
      · omega
      · split at hp <;> omega
  have e1 : IntKind.i64.wrap (p + fine) = p + fine := by rw [IntKind.wrap_i64]; omega
  by_cases hq : p + fine < 0
  · have HR : Hid (ScR M E fine 0 22) := Or.inr ⟨hf.1, hf.2, Or.inr ⟨sc_fine hr hf hq, rfl, rfl⟩⟩
    clear hr hsz hpr hf
    go_wp2_with fail
    refine (CU _).mono ?_
    rintro e w2 ⟨rfl, hw⟩
    obtain rfl := hw.symm
    go_wp2_with fail
    exact bodyPost_ret (v := .tuple #[.int .i64 0, .int .i64 22]) (by simp [results, Tryd.results8, go_sem]) rfl ⟨_, _, rfl, HR.out, HG.out⟩
  · obtain ⟨k, hk, hv0, hk1, hk2⟩ := sc_unit hr hf (by omega)
    have hdg : Dgs (bts d) := by
      rcases hr with ⟨_, h, _⟩ | ⟨_, h, _⟩
      · rw [h]; exact Dgs.nil
      · exact h
    have hasc : Asc (bts d) := fun c hc => by have := dg_range (hdg c hc); omega
    have CC := fun w => dcount_any d w (by have := HS.out; omega) hasc
    have hcn := cnF_dvl hdg
    have hcr := cnF_range (bts d) (n := 0) (by omega)
    obtain ⟨n0, hn0⟩ : ∃ n0, cnF 0 (bts d) = n0 := ⟨_, rfl⟩
    rw [hn0] at CC hcn hcr
    obtain ⟨v, hv⟩ : ∃ v, dvl (bts d) = v := ⟨_, rfl⟩
    obtain ⟨r0, hr0⟩ : ∃ r0, (p + fine).toNat = r0 := ⟨_, rfl⟩
    rw [hv] at hcn hv0 hk1 hk2
    rw [hr0] at hk1 hk2
    obtain ⟨G, hG⟩ : ∃ G, v * 10 ^ r0 = G := ⟨_, rfl⟩
    rw [hG] at hk1 hk2
    have HRR : Hid (p + fine = (r0 : Int)) := by show _ = _; omega
    have HLR : Hid (r0 ≤ 1099511627785) := by show _ ≤ _; omega
    have H0 : Hid ((G ≤ MxU → n0 * 10 ^ r0 = G) ∧ (MxU < G → MxU < n0 * 10 ^ r0)) := by
      have hp1 := ten_pos r0
      rw [← hG, hcn]
      generalize (10 : Int) ^ r0 = x at *
      split
      · have h2 : v * 1 ≤ v * x := Int.mul_le_mul_of_nonneg_left (show 1 ≤ x by omega) hv0
        exact ⟨fun h => by unfold MxU at h; omega, fun _ => by unfold MxU; omega⟩
      · exact ⟨fun _ => rfl, fun h => h⟩
    have HK : Hid (UnitIs M (E + fine) k ∧ (G ≤ MxU → k = sgI below G) ∧ (MxU < G → k < -MxU ∨ MxU < k)) := ⟨hk, hk1, hk2⟩
    clear hr hsz hpr hdg hasc hcn hv hr0 hG hk hk1 hk2 hv0 hn0
    go_wp2_with fail
    refine (CU _).mono ?_
    clear CU
    rintro e w2 ⟨rfl, hw⟩
    obtain rfl := hw.symm
    go_wp2_with fail
    refine (CC _).mono ?_
    clear CC
    rintro e w2 ⟨rfl, hg2⟩
    have HG2 : Hid (IsGr w w2) := HG.out.trans hg2
    clear hg2 HG
    go_wp2_with fail
    go_loopg [7, 10] r0 (fun r p7 p10 wr => wr = w2 ∧ ∃ pw n, p7 = .int .i64 pw ∧ p10 = .int .i64 n ∧ pw + fine = (r : Int) ∧ 0 ≤ n ∧ n ≤ 11000000000000000 ∧ r ≤ 1099511627785 ∧ Hid ((G ≤ MxU → n * 10 ^ r = G) ∧ (MxU < G → MxU < n * 10 ^ r)))
    case atStart => exact ⟨rfl, p, n0, rfl, rfl, HRR.out, hcr.1, by omega, HLR.out, H0⟩
    case round =>
      obtain ⟨hw, pw, n, rfl, rfl, hpw, hn0, hn1, hr1, HN⟩ := hrel
      obtain rfl := hw.symm
      have e2 : IntKind.i64.wrap (pw + fine) = pw + fine := by rw [IntKind.wrap_i64]; omega
      have e3 : IntKind.i64.wrap (n * 10) = n * 10 := by rw [IntKind.wrap_i64]; omega
      have e4 : IntKind.i64.wrap (pw - 1) = pw - 1 := by rw [IntKind.wrap_i64]; omega
      have e5 : IntKind.i64.wrap (-n) = -n := by rw [IntKind.wrap_i64]; omega
      by_cases hm : n ≤ 1099511627775
      · cases gk with
        | succ r =>
          have HP : Hid (pw - 1 + fine = (r : Int)) := by show _ = _; omega
          have q1 : 0 < pw + fine := by omega
          have HN' : Hid ((G ≤ MxU → n * 10 * 10 ^ r = G) ∧ (MxU < G → MxU < n * 10 * 10 ^ r)) := by
            have h := HN.out
            rw [Int.pow_succ, Int.mul_comm (10 ^ r) 10, ← Int.mul_assoc] at h
            exact h
          clear HN hpw e1 hq
          go_wp2_with fail
          go_roundg r
          case measure => omega
          case rel => exact ⟨rfl, pw - 1, n * 10, rfl, rfl, HP.out, by omega, by omega, by omega, HN'⟩
        | zero =>
          have q1 : ¬ 0 < pw + fine := by omega
          have q2 : ¬ 1099511627775 < n := by omega
          have hGn : n = G := by
            have h := HN.out
            rw [Int.pow_zero, Int.mul_one] at h
            rcases Int.lt_or_le MxU G with h1 | h1
            · have := h.2 h1; unfold MxU at this; omega
            · exact h.1 h1
          have hkn : k = sgI below n := by
            rw [hGn]; exact HK.out.2.1 (by unfold MxU; omega)
          have HR : Hid (ScR M E fine (sgI below n) 0) := by
            refine Or.inr ⟨HF.out.1, HF.out.2, Or.inl ⟨k, HK.out.1, Or.inl ⟨?_, ?_, hkn.symm, rfl⟩⟩⟩
            · rw [hkn]; unfold sgI MxU; split <;> omega
            · rw [hkn]; unfold sgI MxU; split <;> omega
          clear HN hpw e1 hq hGn hkn HK
          cases below with
          | true =>
            go_wp2_with fail
            exact bodyPost_ret (v := .tuple #[.int .i64 (-n), .int .i64 0]) (by simp [results, Tryd.results8, go_sem]) rfl ⟨_, _, rfl, HR.out, HG2.out⟩
          | false =>
            go_wp2_with fail
            exact bodyPost_ret (v := .tuple #[.int .i64 n, .int .i64 0]) (by simp [results, Tryd.results8, go_sem]) rfl ⟨_, _, rfl, HR.out, HG2.out⟩
      · have q2 : 1099511627775 < n := by omega
        have HR : Hid (ScR M E fine 0 23) := by
          refine Or.inr ⟨HF.out.1, HF.out.2, Or.inl ⟨k, HK.out.1, Or.inr ⟨HK.out.2.2 ?_, rfl, rfl⟩⟩⟩
          rcases Int.lt_or_le MxU G with h1 | h1
          · exact h1
          · have h2 := HN.out.1 h1
            have h3 : n * 1 ≤ n * 10 ^ gk := Int.mul_le_mul_of_nonneg_left (by have := ten_pos gk; omega) hn0
            unfold MxU at *
            omega
        by_cases q1 : 0 < pw + fine
        · clear HN hpw e1 hq HK
          go_wp2_with fail
          exact bodyPost_ret (v := .tuple #[.int .i64 0, .int .i64 23]) (by simp [results, Tryd.results8, go_sem]) rfl ⟨_, _, rfl, HR.out, HG2.out⟩
        · clear HN hpw e1 hq HK
          go_wp2_with fail
          exact bodyPost_ret (v := .tuple #[.int .i64 0, .int .i64 23]) (by simp [results, Tryd.results8, go_sem]) rfl ⟨_, _, rfl, HR.out, HG2.out⟩
end Go.Proofs.YtfpifbfnebfdaaaDoor
