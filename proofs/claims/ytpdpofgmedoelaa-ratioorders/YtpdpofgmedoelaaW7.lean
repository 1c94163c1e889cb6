/- Contracts over the loaded program: math/bits.Div64 by ten, and sizes without their last decimal digit. -/
import Derived.Test.YtpdpofgmedoelaaW6
namespace Go.Proofs.Ytpdpofgmedoelaa
open Go.RowKit Go.Shelf
attribute [local go_sem] Gr.size Gr.cell? Gr.frozen? Gr.setCell Gr.drew Gr.drewN Gr.of_drew Gr.of_drewN Gr.gr Gr.lt_of1 Gr.le_of1 Gr.lt_of2 Gr.le_of2 Gr.lt_of3 Gr.le_of3 Gr.lt_of4 Gr.le_of4 Gr.lt_of5 Gr.le_of5 Gr.lt_of6 Gr.le_of6 Gr.lt_of7 Gr.le_of7 Gr.lt_of8 Gr.le_of8

theorem or_sixty (h l : Int) (h0 : 0 ≤ h) (h1 : h < 10) (l0 : 0 ≤ l) (l1 : l < 18446744073709551616) : bits .or .u64 (h * 1152921504606846976) (l / 16) = h * 1152921504606846976 + l / 16 := by
  obtain ⟨h, rfl⟩ := Int.eq_ofNat_of_zero_le h0
  obtain ⟨l, rfl⟩ := Int.eq_ofNat_of_zero_le l0
  have e1 : (h : Int) * 1152921504606846976 = ((h * 1152921504606846976 : Nat) : Int) := by omega
  have e2 : (l : Int) / 16 = ((l / 16 : Nat) : Int) := by omega
  rw [e1, e2, bits_or_u64_nat _ _ (by omega) (by omega)]
  have e3 : h * 1152921504606846976 = 2 ^ 60 * h := by omega
  rw [e3, ← Nat.two_pow_add_eq_or_of_lt (by omega)]
  omega
theorem and_low (V : Int) (V0 : 0 ≤ V) (V1 : V < 18446744073709551616) : bits .and .u64 V 4294967295 = V % 4294967296 := by
  obtain ⟨V, rfl⟩ := Int.eq_ofNat_of_zero_le V0
  have e := bits_and_u64_nat V 4294967295 (by omega) (by omega)
  have e' : bits .and .u64 (V : Int) 4294967295 = ((V &&& 4294967295 : Nat) : Int) := e
  rw [e', show V &&& 4294967295 = V % 4294967296 from Nat.and_two_pow_sub_one_eq_mod V 32]
  omega

set_option maxHeartbeats 2000000 in
theorem div64_ten (h l : Int) (h0 : 0 ≤ h) (h1 : h < 10) (l0 : 0 ≤ l) (l1 : l < 18446744073709551616) (w : World) :
    Calls Try.prog 122 #[.int .u64 h, .int .u64 l, .int .u64 10] w fun e w' => ∃ q r : Int, e = .returned (.tuple #[.int .u64 q, .int .u64 r]) ∧ 0 ≤ q ∧ q < 18446744073709551616 ∧ 0 ≤ r ∧ r < 10 ∧ Hid (h * 18446744073709551616 + l = q * 10 + r) ∧ IsGr w w' := by
  by_cases hz : h = 0
  · subst hz
    go_enter Try.func122, Try.ntmps122
    go_wp2
    go_region
    go_wp2
    go_ret2
    exact ⟨_, _, rfl, by omega, by omega, by omega, by omega, by unfold Hid; omega, (by with_reducible repeat (first | exact IsGr.refl _ | refine IsGr.gr ?_ _ _ | refine IsGr.alloc ?_ _ | refine IsGr.drew ?_ | refine IsGr.drewN ?_ _))⟩
  · have hq : (h == 0) = false := by simp [hz]
    obtain ⟨U, hU, HU, U0, U1⟩ : ∃ U, bits .or .u64 (h * 1152921504606846976) (l / 16) = U ∧ Hid (U = h * 1152921504606846976 + l / 16) ∧ 0 ≤ U ∧ U < 11529215046068469760 := 
      ⟨_, or_sixty h l h0 h1 l0 l1, rfl, by omega, by omega⟩
    obtain ⟨V, hV, HV, V0, V1⟩ : ∃ V, IntKind.u64.wrap (l * 1152921504606846976) = V ∧ Hid (V = l % 16 * 1152921504606846976) ∧ 0 ≤ V ∧ V < 18446744073709551616 := 
      ⟨_, by rw [IntKind.wrap_u64], by unfold Hid; omega, by omega, by omega⟩
    have hA : bits .and .u64 11529215046068469760 4294967295 = 0 := by decide +kernel
    obtain ⟨C, hC, HC, C0, C1⟩ : ∃ C, bits .and .u64 V 4294967295 = C ∧ Hid (C = V % 4294967296) ∧ 0 ≤ C ∧ C < 4294967296 := ⟨_, and_low V V0 V1, rfl, by omega, by omega⟩
    obtain ⟨R, hR, HR, R0, R1⟩ : ∃ R, IntKind.u64.wrap (IntKind.u64.wrap (IntKind.u64.wrap (U * 4294967296) + V / 4294967296) - IntKind.u64.wrap (U / 2684354560 * 11529215046068469760)) = R ∧
        Hid (R = (U - U / 2684354560 * 2684354560) * 4294967296 + V / 4294967296) ∧ 0 ≤ R ∧ R < 11529215046068469760 := by
      refine ⟨_, rfl, ?_, ?_, ?_⟩ <;> simp only [IntKind.wrap_u64, Hid] <;> omega
    obtain ⟨r, hr, Hr, r0, r1⟩ : ∃ r, IntKind.u64.wrap (IntKind.u64.wrap (IntKind.u64.wrap (R * 4294967296) + C) - IntKind.u64.wrap (R / 2684354560 * 11529215046068469760)) / 1152921504606846976 = r ∧
        Hid (h * 18446744073709551616 + l = (U / 2684354560 * 4294967296 + R / 2684354560) * 10 + r) ∧ 0 ≤ r ∧ r < 10 := by
      have a := HU.out; have b := HV.out; have c := HC.out; have d := HR.out
      refine ⟨_, rfl, ?_, ?_, ?_⟩ <;> simp only [IntKind.wrap_u64, Hid] <;> omega
    go_enter Try.func122, Try.ntmps122
    go_wp2_with fail
    refine (Try.bits_LeadingZeros64 10 _ (by omega) (by omega)).mono ?_
    rintro e w1 ⟨rfl, hw⟩
    rw [hw, show ((64 : Int) - (Lib.bitLen (10 : Int).toNat : Int)) = 60 by decide]
    go_wp2
    refine wp_loop_rounds 1 ?_
    rw [rounds_succ]; go_wp2
    refine wp_loop_rounds 1 ?_
    rw [rounds_succ]; go_wp2
    go_ret2
    exact ⟨_, _, rfl, by omega, by omega, r0, r1, Hr.out, (by with_reducible repeat (first | exact IsGr.refl _ | refine IsGr.gr ?_ _ _ | refine IsGr.alloc ?_ _ | refine IsGr.drew ?_ | refine IsGr.drewN ?_ _))⟩

set_option maxHeartbeats 2000000 in
theorem shortened_ten (x0 x1 x2 x3 x : Int) (hx : Is x0 x1 x2 x3 x) (w : World) :
    Calls Try.prog 109 #[.agg #[.int .u64 x0, .int .u64 x1, .int .u64 x2, .int .u64 x3], .int .u64 10] w fun e w' => ∃ s0 s1 s2 s3 r : Int, e = .returned (.tuple #[.agg #[.int .u64 s0, .int .u64 s1, .int .u64 s2, .int .u64 s3], .int .u64 r]) ∧ Is s0 s1 s2 s3 (x / 10) ∧ Hid (r = x % 10) ∧ 0 ≤ r ∧ r < 10 ∧ IsGr w w' := by
  have hX := hx
  obtain ⟨a0, b0, a1, b1, a2, b2, a3, b3, hE⟩ := hX
  have HE : Hid (x = x0 + 18446744073709551616 * x1 + 340282366920938463463374607431768211456 * x2 + 6277101735386680763835789423207666416102355444464034512896 * x3) := hE
  clear hE hx
  go_enter Try.func109, Try.ntmps109
  go_wp2
  refine wp_loop_rounds 5 ?_
  rw [rounds_succ]; go_wp2_with fail
  refine (div64_ten 0 x3 (by omega) (by omega) (by omega) (by omega) _).mono ?_
  rintro e w1 ⟨q3, r3, rfl, c3, d3, e3, f3, H3, os3, n3, rfl⟩
  go_wp2
  rw [rounds_succ]; go_wp2_with fail
  refine (div64_ten r3 x2 (by omega) (by omega) (by omega) (by omega) _).mono ?_
  rintro e w1 ⟨q2, r2, rfl, c2, d2, e2, f2, H2, os2, n2, rfl⟩
  go_wp2
  rw [rounds_succ]; go_wp2_with fail
  refine (div64_ten r2 x1 (by omega) (by omega) (by omega) (by omega) _).mono ?_
  rintro e w1 ⟨q1, r1, rfl, c1, d1, e1, f1, H1, os1, n1, rfl⟩
  go_wp2
  rw [rounds_succ]; go_wp2_with fail
  refine (div64_ten r1 x0 (by omega) (by omega) (by omega) (by omega) _).mono ?_
  rintro e w1 ⟨q0, r0, rfl, c0, d0, e0, f0, H0, os0, n0, rfl⟩
  go_wp2
  rw [rounds_succ]; go_wp2
  refine bodyPost_ret (v := .tuple #[.agg #[.int .u64 q0, .int .u64 q1, .int .u64 q2, .int .u64 q3], .int .u64 r0]) (by simp [results, Try.results109, go_sem]) rfl ⟨q0, q1, q2, q3, r0, rfl, ?_, ?_, e0, f0, (by with_reducible repeat (first | exact IsGr.refl _ | refine IsGr.gr ?_ _ _ | refine IsGr.alloc ?_ _ | refine IsGr.drew ?_ | refine IsGr.drewN ?_ _))⟩
  · have h := HE.out; have h3 := H3.out; have h2 := H2.out; have h1 := H1.out; have h0 := H0.out
    unfold Is; omega
  · have h := HE.out; have h3 := H3.out; have h2 := H2.out; have h1 := H1.out; have h0 := H0.out
    unfold Hid; omega
end Go.Proofs.Ytpdpofgmedoelaa
