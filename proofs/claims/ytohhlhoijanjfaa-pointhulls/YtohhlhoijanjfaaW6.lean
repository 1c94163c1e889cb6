/- Contracts of package wide over the loaded program: quotients of sizes. -/
import Derived.Test.YtohhlhoijanjfaaW5
import Derived.Test.YtohhlhoijanjfaaM4
namespace Go.Proofs.Ytohhlhoijanjfaa
open Go.RowKit Go.Shelf
attribute [local go_sem] Gr.size Gr.cell? Gr.frozen? Gr.setCell Gr.drew Gr.drewN Gr.of_drew Gr.of_drewN Gr.gr Gr.lt_of1 Gr.le_of1 Gr.lt_of2 Gr.le_of2 Gr.lt_of3 Gr.le_of3 Gr.lt_of4 Gr.le_of4 Gr.lt_of5 Gr.le_of5 Gr.lt_of6 Gr.le_of6 Gr.lt_of7 Gr.le_of7 Gr.lt_of8 Gr.le_of8

set_option maxHeartbeats 2000000 in
theorem divided_any (x0 x1 x2 x3 x y0 y1 y2 y3 y : Int) (hx : Is x0 x1 x2 x3 x) (hy : Is y0 y1 y2 y3 y) (hy0 : y ≠ 0) (w : World) :
    Calls Try.prog 122 #[.agg #[.int .u64 x0, .int .u64 x1, .int .u64 x2, .int .u64 x3], .agg #[.int .u64 y0, .int .u64 y1, .int .u64 y2, .int .u64 y3]] w fun e w' => ∃ s0 s1 s2 s3 r0 r1 r2 r3 : Int, e = .returned (.tuple #[.agg #[.int .u64 s0, .int .u64 s1, .int .u64 s2, .int .u64 s3], .agg #[.int .u64 r0, .int .u64 r1, .int .u64 r2, .int .u64 r3]]) ∧ Is s0 s1 s2 s3 (x / y) ∧ Is r0 r1 r2 r3 (x % y) ∧ IsGr w w' := by
  have CX := fun w => length_any x0 x1 x2 x3 x hx w
  have CY := fun w => length_any y0 y1 y2 y3 y hy w
  go_enter Try.func122, Try.ntmps122
  go_wp2
  go_region_held3 (fun w' => (w'.cell? ⟨w.heap.size, 0, none⟩ = some (.int .u64 x0) ∧ w'.cell? ⟨w.heap.size, 1, none⟩ = some (.int .u64 x1) ∧ w'.cell? ⟨w.heap.size, 2, none⟩ = some (.int .u64 x2) ∧ w'.cell? ⟨w.heap.size, 3, none⟩ = some (.int .u64 x3)) ∧ 
     w'.cell? ⟨w.heap.size + 1, 0, none⟩ = some (.int .u64 y0) ∧ w'.cell? ⟨w.heap.size + 1, 1, none⟩ = some (.int .u64 y1) ∧ w'.cell? ⟨w.heap.size + 1, 2, none⟩ = some (.int .u64 y2) ∧ w'.cell? ⟨w.heap.size + 1, 3, none⟩ = some (.int .u64 y3)) (simp [go_sem])
    ((first | (go_at_call_of 98 (Value.int IntKind.u64 x0); refine (CX _).mono ?_; rintro e w1 ⟨LX, rfl, lx, bx, os1, n1, rfl⟩) | (go_at_call_of 98 (Value.int IntKind.u64 y0); refine (CY _).mono ?_; rintro e w1 ⟨LY, rfl, ly, by', os2, n2, rfl⟩)))
  all_goals
    have e : IntKind.i64.wrap ((LX : Int) - (LY : Int)) = (LX : Int) - (LY : Int) := by rw [IntKind.wrap_i64]; omega
    have hyp : 0 < y := by have := hy.range; omega
    have hxr := hx.range
    by_cases hs : LX < LY
    · have hlt := bl_short bx by' hs
      have HQ : Hid (x / y = 0 ∧ x % y = x) := ⟨Int.ediv_eq_zero_of_lt hxr.1 hlt, Int.emod_eq_of_lt hxr.1 hlt⟩
      clear hlt
      go_wp2
      refine wp_loop_rounds 1 ?_
      rw [rounds_succ]; go_wp2
      refine wp_loop_rounds 1 ?_
      rw [rounds_succ]; go_wp2
      go_region
      go_wp2
      refine bodyPost_ret (v := .tuple #[.agg #[.int .u64 0, .int .u64 0, .int .u64 0, .int .u64 0], .agg #[.int .u64 x0, .int .u64 x1, .int .u64 x2, .int .u64 x3]]) (by simp [results, Try.results122, go_sem]) rfl ⟨0, 0, 0, 0, x0, x1, x2, x3, rfl, ?_, ?_, (by with_reducible repeat (first | exact IsGr.refl _ | refine IsGr.gr ?_ _ _ | refine IsGr.alloc ?_ _ | refine IsGr.drew ?_ | refine IsGr.drewN ?_ _))⟩
      · rw [HQ.out.1]; exact Is.zero
      · rw [HQ.out.2]; exact hx
    · obtain ⟨d, hd⟩ : ∃ d : Nat, LX = LY + d := ⟨LX - LY, by omega⟩
      have HD : Hid (LX = LY + d) := hd
      have e2 : IntKind.i64.wrap ((LX : Int) - (LY : Int)) = d := by rw [e]; omega
      have hst := Dv.start hxr.1 bx by' hyp hd
      have hd256 : d ≤ 256 := by omega
      have hdb : ∀ k, k ≤ d → 0 < y * 2 ^ k ∧ y * 2 ^ k < 115792089237316195423570985008687907853269984665640564039457584007913129639936 := fun k hk => bl_dbl hyp by' hd lx hk
      have HDB : Hid (∀ k, k ≤ d → 0 < y * 2 ^ k ∧ y * 2 ^ k < 115792089237316195423570985008687907853269984665640564039457584007913129639936) := hdb
      have HST : Hid (Dv x y 0 x (d + 1)) := hst
      rw [e2]
      clear hd e e2 hst hdb hs
      go_wp2
      go_loopw [13] (fun i wr => ∃ (k : Nat) (z0 z1 z2 z3 : Int) (os : Array Obj) (n : Nat), k ≤ d ∧ i = .int .i64 k ∧ Is z0 z1 z2 z3 (y * 2 ^ k) ∧
          wr = Gr ((((w.alloc (.cells #[.int .u64 x0, .int .u64 x1, .int .u64 x2, .int .u64 x3] 123)).alloc (.cells #[.int .u64 z0, .int .u64 z1, .int .u64 z2, .int .u64 z3] 123)).alloc (.cells #[.int .u64 0, .int .u64 0, .int .u64 0, .int .u64 0] 123)).alloc (.cells #[.int .u64 0, .int .u64 0, .int .u64 0, .int .u64 0] 123)) os n) (fun i _ => (d - intOf i).toNat)
      case atStart => exact ⟨0, y0, y1, y2, y3, _, _, by omega, rfl, by simpa using hy, rfl⟩
      case round =>
        obtain ⟨k, z0, z1, z2, z3, os, n, hk, rfl, hz, rfl⟩ := hrel
        by_cases hkd : k < d
        · go_wp2_with fail
          refine (doubled_any z0 z1 z2 z3 _ hz _).mono ?_
          rintro e w1 ⟨s0, s1, s2, s3, rfl, hs, os3, n3, rfl⟩
          go_wp2
          go_roundw
          case rel =>
            refine ⟨k + 1, s0, s1, s2, s3, _, _, by omega, by go_num, ?_, rfl⟩
            have h1 := HDB.out (k + 1) (by omega)
            rw [Int.pow_succ, ← Int.mul_assoc, Int.mul_comm _ 2] at h1 ⊢
            rwa [Int.emod_eq_of_lt (by omega) h1.2] at hs
          case measure => simp [intOf]; omega
        · obtain rfl : k = d := by omega
          go_wp2
          go_loopw [20] (fun i wr => ∃ (m : Nat) (q q0 q1 q2 q3 u u0 u1 u2 u3 v v0 v1 v2 v3 : Int) (os : Array Obj) (n : Nat), m ≤ k + 1 ∧ i = .int .i64 m ∧ Is q0 q1 q2 q3 q ∧ Is u0 u1 u2 u3 u ∧ Is v0 v1 v2 v3 v ∧ Hid (Dv x y q u (k + 1 - m)) ∧ Hid (m ≤ k → v = y * 2 ^ (k - m)) ∧
              wr = Gr ((((w.alloc (.cells #[.int .u64 u0, .int .u64 u1, .int .u64 u2, .int .u64 u3] 123)).alloc (.cells #[.int .u64 v0, .int .u64 v1, .int .u64 v2, .int .u64 v3] 123)).alloc (.cells #[.int .u64 q0, .int .u64 q1, .int .u64 q2, .int .u64 q3] 123)).alloc (.cells #[.int .u64 0, .int .u64 0, .int .u64 0, .int .u64 0] 123)) os n) (fun i _ => (k + 1 - intOf i).toNat)
          case atStart => exact ⟨0, 0, 0, 0, 0, 0, x, x0, x1, x2, x3, _, z0, z1, z2, z3, _, _, by omega, rfl, Is.zero, hx, hz, HST.out, fun _ => rfl, rfl⟩
          case round =>
            obtain ⟨m, q, q0, q1, q2, q3, u, u0, u1, u2, u3, v, v0, v1, v2, v3, os', n', hm, rfl, hq, hu, hv, HDv, HV, rfl⟩ := hrel
            by_cases hmk : m ≤ k
            · have hmk' : (m : Int) < (k : Int) + 1 := by omega
              go_wp2_with fail
              refine (doubled_any q0 q1 q2 q3 _ hq _).mono ?_
              rintro e w1 ⟨s0, s1, s2, s3, rfl, hs, os3, n3, rfl⟩
              go_wp2_with fail
              refine (less_any u0 u1 u2 u3 u v0 v1 v2 v3 v hu hv _).mono ?_
              rintro e w1 ⟨rfl, os4, n4, rfl⟩
              have hst := HDv.out
              rw [show k + 1 - m = (k - m) + 1 by omega] at hst
              have h2q : 2 * q < 115792089237316195423570985008687907853269984665640564039457584007913129639936 := by have := hst.le hyp; omega
              have h2q0 : 0 ≤ 2 * q := by have := hq.range; omega
              rw [Int.emod_eq_of_lt h2q0 h2q] at hs
              have hstep := hst.step (HV.out hmk)
              have HNext : Hid (v = y * 2 ^ (k - m)) := HV.out hmk
              clear hst
              by_cases huv : u < v
              · have hd1 : decide (u < v) = true := by simp [huv]
                have HN : Hid (Dv x y (2 * q) u (k - m)) := hstep.2 huv
                clear hstep
                go_wp2_with fail
                refine (halved_any v0 v1 v2 v3 v hv _).mono ?_
                rintro e w1 ⟨r0, r1, r2, r3, rfl, hr, os5, n5, rfl⟩
                go_wp2
                go_roundw
                case rel =>
                  refine ⟨m + 1, 2 * q, s0, s1, s2, s3, u, u0, u1, u2, u3, v / 2, r0, r1, r2, r3, _, _, by omega, by go_num, hs, hu, hr, ?_, fun h => ?_, rfl⟩
                  · rw [show k + 1 - (m + 1) = k - m by omega]; exact HN.out
                  · rw [HNext.out, show k - m = (k - (m + 1)) + 1 by omega, Int.pow_succ, ← Int.mul_assoc, Int.mul_ediv_cancel _ (by decide)]
                case measure => simp [intOf]; omega
              · have hd1 : decide (u < v) = false := by simp [huv]
                have HN : Hid (Dv x y (2 * q + 1) (u - v) (k - m)) := hstep.1 huv
                have huv' : v ≤ u := by omega
                clear hstep huv
                go_wp2_with fail
                refine (minus_any u0 u1 u2 u3 u v0 v1 v2 v3 v hu hv _).mono ?_
                rintro e w1 ⟨p0, p1, p2, p3, rfl, hp, os5, n5, rfl⟩
                have hur := hu.range
                have hvr := hv.range
                rw [Int.emod_eq_of_lt (by omega) (by omega)] at hp
                obtain ⟨ho, hs1⟩ := or_one hs
                go_wp2_with fail
                refine (halved_any v0 v1 v2 v3 v hv _).mono ?_
                rintro e w1 ⟨r0, r1, r2, r3, rfl, hr, os6, n6, rfl⟩
                go_wp2
                go_roundw
                case rel =>
                  refine ⟨m + 1, 2 * q + 1, s0 + 1, s1, s2, s3, u - v, p0, p1, p2, p3, v / 2, r0, r1, r2, r3, _, _, by omega, by go_num, hs1, hp, hr, ?_, fun h => ?_, rfl⟩
                  · rw [show k + 1 - (m + 1) = k - m by omega]; exact HN.out
                  · rw [HNext.out, show k - m = (k - (m + 1)) + 1 by omega, Int.pow_succ, ← Int.mul_assoc, Int.mul_ediv_cancel _ (by decide)]
                case measure => simp [intOf]; omega
            · obtain rfl : m = k + 1 := by omega
              have hfin := HDv.out
              rw [Nat.sub_self] at hfin
              have hf := hfin.fin hyp
              have HF : Hid (x / y = q ∧ x % y = u) := hf
              clear hf hfin
              go_wp2
              go_region
              go_wp2
              refine bodyPost_ret (v := .tuple #[.agg #[.int .u64 q0, .int .u64 q1, .int .u64 q2, .int .u64 q3], .agg #[.int .u64 u0, .int .u64 u1, .int .u64 u2, .int .u64 u3]]) (by simp [results, Try.results122, go_sem]) rfl ⟨q0, q1, q2, q3, u0, u1, u2, u3, rfl, ?_, ?_, (by with_reducible repeat (first | exact IsGr.refl _ | refine IsGr.gr ?_ _ _ | refine IsGr.alloc ?_ _ | refine IsGr.drew ?_ | refine IsGr.drewN ?_ _))⟩
              · rw [HF.out.1]; exact hq
              · rw [HF.out.2]; exact hu
end Go.Proofs.Ytohhlhoijanjfaa
