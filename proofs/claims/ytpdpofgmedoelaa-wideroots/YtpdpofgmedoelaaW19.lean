/- Contracts of package wide over the loaded program: Root. -/
import Derived.Test.YtpdpofgmedoelaaW18
import Derived.Test.YtpdpofgmedoelaaM8
import Derived.Test.YtpdpofgmedoelaaW10
namespace Go.Proofs.Ytpdpofgmedoelaa
open Go.RowKit Go.Shelf
attribute [local go_sem] Gr.size Gr.cell? Gr.frozen? Gr.setCell Gr.drew Gr.drewN Gr.of_drew Gr.of_drewN Gr.gr Gr.lt_of1 Gr.le_of1 Gr.lt_of2 Gr.le_of2 Gr.lt_of3 Gr.le_of3 Gr.lt_of4 Gr.le_of4 Gr.lt_of5 Gr.le_of5 Gr.lt_of6 Gr.le_of6 Gr.lt_of7 Gr.le_of7 Gr.lt_of8 Gr.le_of8


set_option maxRecDepth 20000 in set_option maxHeartbeats 4000000 in
theorem Root_neg (x0 x1 x2 x3 x : Int) (hx : IsI x0 x1 x2 x3 x) (h : x < 0) (w : World) :
    Calls Try.prog 21 #[.agg #[.int .u64 x0, .int .u64 x1, .int .u64 x2, .int .u64 x3]] w fun e w' => e = .returned (.tuple #[.agg #[.int .u64 0, .int .u64 0, .int .u64 0, .int .u64 0], .bool false]) ∧ IsGr w w' := by
  have BX := fun w => below_neg hx w
  rw [show decide (x < 0) = true by simp [h]] at BX
  go_enter Try.func21, Try.ntmps21
  go_wp2_with fail
  refine (BX _).mono ?_
  rintro e w1 ⟨rfl, os1, n1, rfl⟩
  go_wp2
  exact bodyPost_ret (v := .tuple #[.agg #[.int .u64 0, .int .u64 0, .int .u64 0, .int .u64 0], .bool false]) (by simp [results, Try.results21, go_sem]) rfl ⟨rfl, (by with_reducible repeat (first | exact IsGr.refl _ | refine IsGr.gr ?_ _ _ | refine IsGr.alloc ?_ _ | refine IsGr.drew ?_ | refine IsGr.drewN ?_ _))⟩

/-- What a root is told as. -/
def RootT (x s0 s1 s2 s3 : Int) : Prop := ∃ R, IsI s0 s1 s2 s3 R ∧ 0 ≤ R ∧ R * R ≤ x ∧ x < (R + 1) * (R + 1)

set_option maxRecDepth 20000 in set_option maxHeartbeats 4000000 in
theorem Root_pos (x0 x1 x2 x3 x : Int) (hx : IsI x0 x1 x2 x3 x) (h : 0 ≤ x) (w : World) :
    Calls Try.prog 21 #[.agg #[.int .u64 x0, .int .u64 x1, .int .u64 x2, .int .u64 x3]] w fun e w' => ∃ (s0 s1 s2 s3 : Int), e = .returned (.tuple #[.agg #[.int .u64 s0, .int .u64 s1, .int .u64 s2, .int .u64 s3], .bool true]) ∧ RootT x s0 s1 s2 s3 ∧ IsGr w w' := by
  have BX := fun w => below_neg hx w
  rw [show decide (x < 0) = false by simp; omega] at BX
  go_enter Try.func21, Try.ntmps21
  go_wp2_with fail
  refine (BX _).mono ?_
  rintro e w1 ⟨rfl, os1, n1, rfl⟩
  go_wp2
  go_loopw [13] (fun t13 wr => ∃ (i b : Nat) (r0 r1 : Int), i + b = 128 ∧ t13 = .int .i64 i ∧ Rt x r0 r1 b ∧
      IsGr ((Gr ((w.alloc (.cells #[.int .u64 x0, .int .u64 x1, .int .u64 x2, .int .u64 x3] 24)).alloc (.cells #[.int .u64 0, .int .u64 0, .int .u64 0, .int .u64 0] 24)) os1 n1).alloc (.cells #[.int .u64 r0, .int .u64 r1, .int .u64 0, .int .u64 0] 24)) wr) (fun t13 _ => (128 - intOf t13).toNat)
  case atStart => exact ⟨0, 128, 0, 0, by omega, rfl, Rt.start h hx.2.2, IsGr.refl _⟩
  case round =>
    obtain ⟨i, b, r0, r1, hib, rfl, HR, os, d, rfl⟩ := hrel
    by_cases hlt : i < 128
    · have hneg : (0 : Int) ≤ 127 - (i : Int) := by omega
      by_cases hhi : i < 64
      · obtain ⟨s, rfl⟩ : ∃ s, b = (64 + s) + 1 := ⟨b - 65, by omega⟩
        have hs64 : s < 64 := by omega
        have hst := HR.hi hs64
        obtain ⟨P, hP, HP, p0, p1⟩ : ∃ P : Int, IntKind.u64.wrap (2 ^ s) = P ∧ Hid (2 ^ s = P) ∧ 1 ≤ P ∧ P < 18446744073709551616 := by
          have h1 : (0 : Int) < 2 ^ s := Int.pow_pos (by decide)
          have h2 : (2 : Int) ^ s ≤ 2 ^ 63 := pow_le_pow' (by decide) (by omega)
          rw [show (2 : Int) ^ 63 = 9223372036854775808 by decide] at h2
          refine ⟨_, rfl, ?_, ?_, ?_⟩
          · unfold Hid; rw [IntKind.wrap_u64]; omega
          · rw [IntKind.wrap_u64]; omega
          · rw [IntKind.wrap_u64]; omega
        rw [HP.out] at hst
        obtain ⟨hor, Q, hQ, Q0, QB, hyes, hno⟩ := hst
        have hQI : IsI (r0) (r1 + P) 0 0 Q := ⟨by rw [show Q % 115792089237316195423570985008687907853269984665640564039457584007913129639936 = Q by omega]; exact hQ, by omega, by omega⟩
        have HYN : Hid ((Q * Q ≤ x → Rt x (r0) (r1 + P) (64 + s)) ∧ (¬ Q * Q ≤ x → Rt x r0 r1 (64 + s))) := ⟨hyes, hno⟩
        have hq : (127 - (i : Int)) / 64 = 1 := by omega
        have hr : (127 - (i : Int)) % 64 = (s : Int) := by omega
        have CM := fun w => Mul_any (r0) (r1 + P) 0 0 Q (r0) (r1 + P) 0 0 Q hQI hQI w
        clear hQ hyes hno HR
        go_wp2
        go_region
        all_goals
          go_wp2_with fail
          refine (CM _).mono ?_
          rintro e w1 ⟨m0, m1, m2, m3, ok, rfl, hT, os2, n2, rfl⟩
          by_cases hle : Q * Q ≤ x
          · obtain ⟨rfl, hm⟩ := told_true hT (by have := hx.2; have := Int.mul_nonneg Q0 Q0; omega)
            have CC := fun w => Cmp_any m0 m1 m2 m3 (Q * Q) x0 x1 x2 x3 x hm hx w
            have hc : cmpI (Q * Q) x ≤ 0 := by unfold cmpI; repeat' split
                                               all_goals omega
            generalize cmpI (Q * Q) x = K at CC hc
            have HN : Hid (Rt x (r0) (r1 + P) (64 + s)) := HYN.out.1 hle
            clear hle
            go_wp2_with fail
            refine (CC _).mono ?_
            rintro e w1 ⟨rfl, os3, n3, rfl⟩
            go_wp2
            go_roundw
            case rel => exact ⟨i + 1, (64 + s), _, _, by omega, by go_num, HN.out, (by with_reducible repeat (first | exact IsGr.refl _ | refine IsGr.gr ?_ _ _ | refine IsGr.alloc ?_ _ | refine IsGr.drew ?_ | refine IsGr.drewN ?_ _))⟩
            case measure => simp [intOf]; omega
          · have HN : Hid (Rt x r0 r1 (64 + s)) := HYN.out.2 (by first | exact hle | exact Int.not_le.1 hle)
            rcases hT with ⟨rfl, hm⟩ | ⟨rfl, -, rfl, rfl, rfl, rfl⟩
            · have CC := fun w => Cmp_any m0 m1 m2 m3 (Q * Q) x0 x1 x2 x3 x hm hx w
              have hc : 0 < cmpI (Q * Q) x := by rw [cmpI_gt (by omega)]; decide
              have hc2 : decide (cmpI (Q * Q) x ≤ 0) = false := by simp; omega
              generalize cmpI (Q * Q) x = K at CC hc hc2
              clear hle
              go_wp2_with fail
              refine (CC _).mono ?_
              rintro e w1 ⟨rfl, os3, n3, rfl⟩
              go_wp2
              go_roundw
              case rel => exact ⟨i + 1, (64 + s), _, _, by omega, by go_num, HN.out, (by with_reducible repeat (first | exact IsGr.refl _ | refine IsGr.gr ?_ _ _ | refine IsGr.alloc ?_ _ | refine IsGr.drew ?_ | refine IsGr.drewN ?_ _))⟩
              case measure => simp [intOf]; omega
            · clear hle
              go_wp2
              go_roundw
              case rel => exact ⟨i + 1, (64 + s), _, _, by omega, by go_num, HN.out, (by with_reducible repeat (first | exact IsGr.refl _ | refine IsGr.gr ?_ _ _ | refine IsGr.alloc ?_ _ | refine IsGr.drew ?_ | refine IsGr.drewN ?_ _))⟩
              case measure => simp [intOf]; omega
      · obtain ⟨s, rfl⟩ : ∃ s, b = (s) + 1 := ⟨b - 1, by omega⟩
        have hs64 : s < 64 := by omega
        have hst := HR.lo hs64
        obtain ⟨P, hP, HP, p0, p1⟩ : ∃ P : Int, IntKind.u64.wrap (2 ^ s) = P ∧ Hid (2 ^ s = P) ∧ 1 ≤ P ∧ P < 18446744073709551616 := by
          have h1 : (0 : Int) < 2 ^ s := Int.pow_pos (by decide)
          have h2 : (2 : Int) ^ s ≤ 2 ^ 63 := pow_le_pow' (by decide) (by omega)
          rw [show (2 : Int) ^ 63 = 9223372036854775808 by decide] at h2
          refine ⟨_, rfl, ?_, ?_, ?_⟩
          · unfold Hid; rw [IntKind.wrap_u64]; omega
          · rw [IntKind.wrap_u64]; omega
          · rw [IntKind.wrap_u64]; omega
        rw [HP.out] at hst
        obtain ⟨hor, Q, hQ, Q0, QB, hyes, hno⟩ := hst
        have hQI : IsI (r0 + P) (r1) 0 0 Q := ⟨by rw [show Q % 115792089237316195423570985008687907853269984665640564039457584007913129639936 = Q by omega]; exact hQ, by omega, by omega⟩
        have HYN : Hid ((Q * Q ≤ x → Rt x (r0 + P) (r1) (s)) ∧ (¬ Q * Q ≤ x → Rt x r0 r1 (s))) := ⟨hyes, hno⟩
        have hq : (127 - (i : Int)) / 64 = 0 := by omega
        have hr : (127 - (i : Int)) % 64 = (s : Int) := by omega
        have CM := fun w => Mul_any (r0 + P) (r1) 0 0 Q (r0 + P) (r1) 0 0 Q hQI hQI w
        clear hQ hyes hno HR
        go_wp2
        go_region
        all_goals
          go_wp2_with fail
          refine (CM _).mono ?_
          rintro e w1 ⟨m0, m1, m2, m3, ok, rfl, hT, os2, n2, rfl⟩
          by_cases hle : Q * Q ≤ x
          · obtain ⟨rfl, hm⟩ := told_true hT (by have := hx.2; have := Int.mul_nonneg Q0 Q0; omega)
            have CC := fun w => Cmp_any m0 m1 m2 m3 (Q * Q) x0 x1 x2 x3 x hm hx w
            have hc : cmpI (Q * Q) x ≤ 0 := by unfold cmpI; repeat' split
                                               all_goals omega
            generalize cmpI (Q * Q) x = K at CC hc
            have HN : Hid (Rt x (r0 + P) (r1) (s)) := HYN.out.1 hle
            clear hle
            go_wp2_with fail
            refine (CC _).mono ?_
            rintro e w1 ⟨rfl, os3, n3, rfl⟩
            go_wp2
            go_roundw
            case rel => exact ⟨i + 1, (s), _, _, by omega, by go_num, HN.out, (by with_reducible repeat (first | exact IsGr.refl _ | refine IsGr.gr ?_ _ _ | refine IsGr.alloc ?_ _ | refine IsGr.drew ?_ | refine IsGr.drewN ?_ _))⟩
            case measure => simp [intOf]; omega
          · have HN : Hid (Rt x r0 r1 (s)) := HYN.out.2 (by first | exact hle | exact Int.not_le.1 hle)
            rcases hT with ⟨rfl, hm⟩ | ⟨rfl, -, rfl, rfl, rfl, rfl⟩
            · have CC := fun w => Cmp_any m0 m1 m2 m3 (Q * Q) x0 x1 x2 x3 x hm hx w
              have hc : 0 < cmpI (Q * Q) x := by rw [cmpI_gt (by omega)]; decide
              have hc2 : decide (cmpI (Q * Q) x ≤ 0) = false := by simp; omega
              generalize cmpI (Q * Q) x = K at CC hc hc2
              clear hle
              go_wp2_with fail
              refine (CC _).mono ?_
              rintro e w1 ⟨rfl, os3, n3, rfl⟩
              go_wp2
              go_roundw
              case rel => exact ⟨i + 1, (s), _, _, by omega, by go_num, HN.out, (by with_reducible repeat (first | exact IsGr.refl _ | refine IsGr.gr ?_ _ _ | refine IsGr.alloc ?_ _ | refine IsGr.drew ?_ | refine IsGr.drewN ?_ _))⟩
              case measure => simp [intOf]; omega
            · clear hle
              go_wp2
              go_roundw
              case rel => exact ⟨i + 1, (s), _, _, by omega, by go_num, HN.out, (by with_reducible repeat (first | exact IsGr.refl _ | refine IsGr.gr ?_ _ _ | refine IsGr.alloc ?_ _ | refine IsGr.drew ?_ | refine IsGr.drewN ?_ _))⟩
              case measure => simp [intOf]; omega
    · obtain rfl : i = 128 := by omega
      obtain rfl : b = 0 := by omega
      obtain ⟨R, hR, R0, RB, R1, R2⟩ := HR.fin
      have hI : IsI r0 r1 0 0 R := ⟨by rw [show R % 115792089237316195423570985008687907853269984665640564039457584007913129639936 = R by omega]; exact hR, by omega, by omega⟩
      have hRT : RootT x r0 r1 0 0 := ⟨R, hI, R0, R1, R2⟩
      clear HR R1 R2
      go_wp2
      exact bodyPost_ret (v := .tuple #[.agg #[.int .u64 r0, .int .u64 r1, .int .u64 0, .int .u64 0], .bool true]) (by simp [results, Try.results21, go_sem]) rfl ⟨r0, r1, 0, 0, rfl, hRT, (by with_reducible repeat (first | exact IsGr.refl _ | refine IsGr.gr ?_ _ _ | refine IsGr.alloc ?_ _ | refine IsGr.drew ?_ | refine IsGr.drewN ?_ _))⟩
end Go.Proofs.Ytpdpofgmedoelaa
