/- Contracts of the small functions of package wide over the loaded program: sums, differences, order and shifts of sizes. -/
import Derived.Test.YtohhlhoijanjfaaRows
import Derived.WalkKit
import Derived.WalkSpells
import Derived.WalkLawsBesides
import Derived.Deep.RegionHeld3
import Derived.RowKit3
import Derived.Shelf.Spec.BitsCarry
import Derived.Test.YtohhlhoijanjfaaM1
import Derived.Test.YtohhlhoijanjfaaG1
namespace Go.Proofs.Ytohhlhoijanjfaa
open Go.RowKit Go.Shelf

theorem add64 (x y c : Int) (hx : 0 ≤ x) (hy : 0 ≤ y) (hc0 : 0 ≤ c) (hc : c ≤ 1) (w : World) : (callFunc 133 #[.int .u64 x, .int .u64 y, .int .u64 c]).run Try.prog w =
    .ok (.value (.tuple #[.int .u64 ((x + y + c) % 18446744073709551616), .int .u64 ((x + y + c) / 18446744073709551616)])) w := by
  obtain ⟨x, rfl⟩ := Int.eq_ofNat_of_zero_le hx
  obtain ⟨y, rfl⟩ := Int.eq_ofNat_of_zero_le hy
  obtain ⟨c, rfl⟩ := Int.eq_ofNat_of_zero_le hc0
  rw [run_callFunc_extern Try.func133 (by kernel_rfl) (by kernel_rfl) (by kernel_rfl) (e := add64Entry) (by kernel_rfl), run_add64 x y c (by omega) (by omega) (by omega) (by omega)]
  simp only [Result.andThen]

theorem sub64 (x y b : Int) (hx : 0 ≤ x) (hy : 0 ≤ y) (hy' : y < 18446744073709551616) (hb0 : 0 ≤ b) (hb : b ≤ 1) (w : World) : (callFunc 129 #[.int .u64 x, .int .u64 y, .int .u64 b]).run Try.prog w =
    .ok (.value (.tuple #[.int .u64 ((x - y - b) % 18446744073709551616), .int .u64 (if x < y + b then 1 else 0)])) w := by
  obtain ⟨x, rfl⟩ := Int.eq_ofNat_of_zero_le hx
  obtain ⟨y, rfl⟩ := Int.eq_ofNat_of_zero_le hy
  obtain ⟨b, rfl⟩ := Int.eq_ofNat_of_zero_le hb0
  have e1 : (((x + 18446744073709551616 - y - b) % 18446744073709551616 : Nat) : Int) = ((x : Int) - y - b) % 18446744073709551616 := by omega
  have e2 : ((if x < y + b then 1 else 0 : Nat) : Int) = if (x : Int) < y + b then 1 else 0 := by split <;> split <;> omega
  rw [← e1, ← e2, run_callFunc_extern Try.func129 (by kernel_rfl) (by kernel_rfl) (by kernel_rfl) (e := sub64Entry) (by kernel_rfl), run_sub64 x y b (by omega)]
  simp only [Result.andThen]

theorem add64' (x y c : Int) (hx : 0 ≤ x) (hx' : x < 18446744073709551616) (hy : 0 ≤ y) (hy' : y < 18446744073709551616) (hc0 : 0 ≤ c) (hc : c ≤ 1) :
    ∃ s d : Int, (∀ w : World, (callFunc 133 #[.int .u64 x, .int .u64 y, .int .u64 c]).run Try.prog w = .ok (.value (.tuple #[.int .u64 s, .int .u64 d])) w) ∧ 0 ≤ d ∧ d ≤ 1 ∧ Hid (0 ≤ s ∧ s < 18446744073709551616 ∧ x + y + c = s + 18446744073709551616 * d) :=
  ⟨_, _, add64 x y c hx hy hc0 hc, by omega, by omega, by unfold Hid; omega⟩

theorem sub64' (x y c : Int) (hx : 0 ≤ x) (hx' : x < 18446744073709551616) (hy : 0 ≤ y) (hy' : y < 18446744073709551616) (hc0 : 0 ≤ c) (hc : c ≤ 1) :
    ∃ s d : Int, (∀ w : World, (callFunc 129 #[.int .u64 x, .int .u64 y, .int .u64 c]).run Try.prog w = .ok (.value (.tuple #[.int .u64 s, .int .u64 d])) w) ∧ 0 ≤ d ∧ d ≤ 1 ∧ Hid (0 ≤ s ∧ s < 18446744073709551616 ∧ x - y - c = s - 18446744073709551616 * d) :=
  ⟨_, _, sub64 x y c hx hy hy' hc0 hc, by split <;> decide, by split <;> decide, by unfold Hid; split <;> omega⟩

set_option maxHeartbeats 1000000 in
theorem plus_any (x0 x1 x2 x3 x y0 y1 y2 y3 y : Int) (hx : Is x0 x1 x2 x3 x) (hy : Is y0 y1 y2 y3 y) (w : World) :
    Calls Try.prog 123 #[.agg #[.int .u64 x0, .int .u64 x1, .int .u64 x2, .int .u64 x3], .agg #[.int .u64 y0, .int .u64 y1, .int .u64 y2, .int .u64 y3]] w fun e w' =>
      ∃ s0 s1 s2 s3 : Int, e = .returned (.agg #[.int .u64 s0, .int .u64 s1, .int .u64 s2, .int .u64 s3]) ∧ Is s0 s1 s2 s3 ((x + y) % 115792089237316195423570985008687907853269984665640564039457584007913129639936) ∧ IsGr w w' := by
  have hx' := hx; have hy' := hy
  obtain ⟨a0, b0, a1, b1, a2, b2, a3, b3, hX⟩ := hx'
  obtain ⟨c0, d0, c1, d1, c2, d2, c3, d3, hY⟩ := hy'
  obtain ⟨s0, k0, e0, k0a, k0b, H0⟩ := add64' x0 y0 0 (by omega) (by omega) (by omega) (by omega) (by omega) (by omega)
  obtain ⟨s1, k1, e1, k1a, k1b, H1⟩ := add64' x1 y1 k0 (by omega) (by omega) (by omega) (by omega) (by omega) (by omega)
  obtain ⟨s2, k2, e2, k2a, k2b, H2⟩ := add64' x2 y2 k1 (by omega) (by omega) (by omega) (by omega) (by omega) (by omega)
  obtain ⟨s3, k3, e3, k3a, k3b, H3⟩ := add64' x3 y3 k2 (by omega) (by omega) (by omega) (by omega) (by omega) (by omega)
  have hR : Is s0 s1 s2 s3 ((x + y) % 115792089237316195423570985008687907853269984665640564039457584007913129639936) := by
    have h0 := H0.out; have h1 := H1.out; have h2 := H2.out; have h3 := H3.out
    unfold Is; omega
  clear a0 b0 a1 b1 a2 b2 a3 b3 c0 d0 c1 d1 c2 d2 c3 d3 hX hY H0 H1 H2 H3 k0a k0b k1a k1b k2a k2b k3a k3b hx hy
  go_enter Try.func123, Try.ntmps123
  go_wp2
  refine wp_loop_rounds 5 ?_
  rw [rounds_succ]; go_wp2; go_region; go_wp2
  rw [rounds_succ]; go_wp2; go_region; go_wp2
  rw [rounds_succ]; go_wp2; go_region; go_wp2
  rw [rounds_succ]; go_wp2; go_region; go_wp2
  rw [rounds_succ]; go_wp2
  exact bodyPost_ret (v := .agg #[.int .u64 s0, .int .u64 s1, .int .u64 s2, .int .u64 s3]) (by simp [results, Try.results123, go_sem]) rfl ⟨s0, s1, s2, s3, rfl, hR, (by with_reducible repeat (first | exact IsGr.refl _ | refine IsGr.gr ?_ _ _ | refine IsGr.alloc ?_ _ | refine IsGr.drew ?_ | refine IsGr.drewN ?_ _))⟩

set_option maxHeartbeats 1000000 in
theorem minus_any (x0 x1 x2 x3 x y0 y1 y2 y3 y : Int) (hx : Is x0 x1 x2 x3 x) (hy : Is y0 y1 y2 y3 y) (w : World) :
    Calls Try.prog 117 #[.agg #[.int .u64 x0, .int .u64 x1, .int .u64 x2, .int .u64 x3], .agg #[.int .u64 y0, .int .u64 y1, .int .u64 y2, .int .u64 y3]] w fun e w' =>
      ∃ s0 s1 s2 s3 : Int, e = .returned (.agg #[.int .u64 s0, .int .u64 s1, .int .u64 s2, .int .u64 s3]) ∧ Is s0 s1 s2 s3 ((x - y) % 115792089237316195423570985008687907853269984665640564039457584007913129639936) ∧ IsGr w w' := by
  have hx' := hx; have hy' := hy
  obtain ⟨a0, b0, a1, b1, a2, b2, a3, b3, hX⟩ := hx'
  obtain ⟨c0, d0, c1, d1, c2, d2, c3, d3, hY⟩ := hy'
  obtain ⟨s0, k0, e0, k0a, k0b, H0⟩ := sub64' x0 y0 0 (by omega) (by omega) (by omega) (by omega) (by omega) (by omega)
  obtain ⟨s1, k1, e1, k1a, k1b, H1⟩ := sub64' x1 y1 k0 (by omega) (by omega) (by omega) (by omega) (by omega) (by omega)
  obtain ⟨s2, k2, e2, k2a, k2b, H2⟩ := sub64' x2 y2 k1 (by omega) (by omega) (by omega) (by omega) (by omega) (by omega)
  obtain ⟨s3, k3, e3, k3a, k3b, H3⟩ := sub64' x3 y3 k2 (by omega) (by omega) (by omega) (by omega) (by omega) (by omega)
  have hR : Is s0 s1 s2 s3 ((x - y) % 115792089237316195423570985008687907853269984665640564039457584007913129639936) := by
    have h0 := H0.out; have h1 := H1.out; have h2 := H2.out; have h3 := H3.out
    unfold Is; omega
  clear a0 b0 a1 b1 a2 b2 a3 b3 c0 d0 c1 d1 c2 d2 c3 d3 hX hY H0 H1 H2 H3 k0a k0b k1a k1b k2a k2b k3a k3b hx hy
  go_enter Try.func117, Try.ntmps117
  go_wp2
  refine wp_loop_rounds 5 ?_
  rw [rounds_succ]; go_wp2; go_region; go_wp2
  rw [rounds_succ]; go_wp2; go_region; go_wp2
  rw [rounds_succ]; go_wp2; go_region; go_wp2
  rw [rounds_succ]; go_wp2; go_region; go_wp2
  rw [rounds_succ]; go_wp2
  exact bodyPost_ret (v := .agg #[.int .u64 s0, .int .u64 s1, .int .u64 s2, .int .u64 s3]) (by simp [results, Try.results117, go_sem]) rfl ⟨s0, s1, s2, s3, rfl, hR, (by with_reducible repeat (first | exact IsGr.refl _ | refine IsGr.gr ?_ _ _ | refine IsGr.alloc ?_ _ | refine IsGr.drew ?_ | refine IsGr.drewN ?_ _))⟩

end Go.Proofs.Ytohhlhoijanjfaa
