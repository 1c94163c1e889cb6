/- Contracts of package wide over the loaded program: order, doubling and halving of sizes, the sign's bit. -/
import Derived.Test.YtohhlhoijanjfaaW1
namespace Go.Proofs.Ytohhlhoijanjfaa
open Go.RowKit Go.Shelf

set_option maxHeartbeats 400000 in
theorem below_any (x0 x1 x2 x3 x : Int) (hx : Is x0 x1 x2 x3 x) (w : World) :
    Calls Try.prog 118 #[.agg #[.int .u64 x0, .int .u64 x1, .int .u64 x2, .int .u64 x3]] w fun e w' => e = .returned (.bool (decide (57896044618658097711785492504343953926634992332820282019728792003956564819968 ≤ x))) ∧ IsGr w w' := by
  have hb : (bits .and .u64 x3 9223372036854775808 != 0) = decide (57896044618658097711785492504343953926634992332820282019728792003956564819968 ≤ x) := by
    rw [and_top x3 hx.2.2.2.2.2.2.1 hx.2.2.2.2.2.2.2.1]; unfold Is at hx; rw [decide_eq_decide]; omega
  clear hx
  go_enter Try.func118, Try.ntmps118
  go_wp2
  go_ret
  exact ⟨rfl, (by with_reducible repeat (first | exact IsGr.refl _ | refine IsGr.gr ?_ _ _ | refine IsGr.alloc ?_ _ | refine IsGr.drew ?_ | refine IsGr.drewN ?_ _))⟩

set_option maxHeartbeats 1000000 in
theorem doubled_any (x0 x1 x2 x3 x : Int) (hx : Is x0 x1 x2 x3 x) (w : World) :
    Calls Try.prog 131 #[.agg #[.int .u64 x0, .int .u64 x1, .int .u64 x2, .int .u64 x3]] w fun e w' => 
      ∃ s0 s1 s2 s3 : Int, e = .returned (.agg #[.int .u64 s0, .int .u64 s1, .int .u64 s2, .int .u64 s3]) ∧ Is s0 s1 s2 s3 ((2 * x) % 115792089237316195423570985008687907853269984665640564039457584007913129639936) ∧ IsGr w w' := by
  have hR : Is (bits .or .u64 (IntKind.u64.wrap (x0 * 2)) 0) (bits .or .u64 (IntKind.u64.wrap (x1 * 2)) (x0 / 9223372036854775808)) (bits .or .u64 (IntKind.u64.wrap (x2 * 2)) (x1 / 9223372036854775808)) (bits .or .u64 (IntKind.u64.wrap (x3 * 2)) (x2 / 9223372036854775808)) ((2 * x) % 115792089237316195423570985008687907853269984665640564039457584007913129639936) := by
    unfold Is at hx
    rw [or_dbl x0 0 (by omega) (by omega) (by omega) (by omega), or_dbl x1 _ (by omega) (by omega) (by omega) (by omega), or_dbl x2 _ (by omega) (by omega) (by omega) (by omega), or_dbl x3 _ (by omega) (by omega) (by omega) (by omega)]
    unfold Is; omega
  obtain ⟨a0, b0, a1, b1, a2, b2, a3, b3, hX⟩ := hx
  clear hX
  go_enter Try.func131, Try.ntmps131
  go_wp2
  refine wp_loop_rounds 5 ?_
  rw [rounds_succ]; go_wp2; go_region; go_wp2
  rw [rounds_succ]; go_wp2; go_region; go_wp2
  rw [rounds_succ]; go_wp2; go_region; go_wp2
  rw [rounds_succ]; go_wp2; go_region; go_wp2
  rw [rounds_succ]; go_wp2
  exact bodyPost_ret (v := .agg #[.int .u64 (bits .or .u64 (IntKind.u64.wrap (x0 * 2)) 0), .int .u64 (bits .or .u64 (IntKind.u64.wrap (x1 * 2)) (x0 / 9223372036854775808)), .int .u64 (bits .or .u64 (IntKind.u64.wrap (x2 * 2)) (x1 / 9223372036854775808)), .int .u64 (bits .or .u64 (IntKind.u64.wrap (x3 * 2)) (x2 / 9223372036854775808))]) (by simp [results, Try.results131, go_sem]) rfl ⟨_, _, _, _, rfl, hR, (by with_reducible repeat (first | exact IsGr.refl _ | refine IsGr.gr ?_ _ _ | refine IsGr.alloc ?_ _ | refine IsGr.drew ?_ | refine IsGr.drewN ?_ _))⟩

set_option maxHeartbeats 1000000 in
theorem halved_any (x0 x1 x2 x3 x : Int) (hx : Is x0 x1 x2 x3 x) (w : World) :
    Calls Try.prog 132 #[.agg #[.int .u64 x0, .int .u64 x1, .int .u64 x2, .int .u64 x3]] w fun e w' => 
      ∃ s0 s1 s2 s3 : Int, e = .returned (.agg #[.int .u64 s0, .int .u64 s1, .int .u64 s2, .int .u64 s3]) ∧ Is s0 s1 s2 s3 (x / 2) ∧ IsGr w w' := by
  have hR : Is (bits .or .u64 (x0 / 2) (IntKind.u64.wrap (x1 * 9223372036854775808))) (bits .or .u64 (x1 / 2) (IntKind.u64.wrap (x2 * 9223372036854775808))) (bits .or .u64 (x2 / 2) (IntKind.u64.wrap (x3 * 9223372036854775808))) (bits .or .u64 (x3 / 2) 0) (x / 2) := by
    unfold Is at hx
    rw [or_hlv x0 x1 (by omega) (by omega) (by omega) (by omega), or_hlv x1 x2 (by omega) (by omega) (by omega) (by omega), or_hlv x2 x3 (by omega) (by omega) (by omega) (by omega), or_hlv0 x3 (by omega) (by omega)]
    unfold Is; omega
  obtain ⟨a0, b0, a1, b1, a2, b2, a3, b3, hX⟩ := hx
  clear hX
  go_enter Try.func132, Try.ntmps132
  go_wp2
  refine wp_loop_rounds 5 ?_
  rw [rounds_succ]; go_wp2; go_region; go_wp2
  rw [rounds_succ]; go_wp2; go_region; go_wp2
  rw [rounds_succ]; go_wp2; go_region; go_wp2
  rw [rounds_succ]; go_wp2; go_region; go_wp2
  rw [rounds_succ]; go_wp2
  exact bodyPost_ret (v := .agg #[.int .u64 (bits .or .u64 (x0 / 2) (IntKind.u64.wrap (x1 * 9223372036854775808))), .int .u64 (bits .or .u64 (x1 / 2) (IntKind.u64.wrap (x2 * 9223372036854775808))), .int .u64 (bits .or .u64 (x2 / 2) (IntKind.u64.wrap (x3 * 9223372036854775808))), .int .u64 (bits .or .u64 (x3 / 2) 0)]) (by simp [results, Try.results132, go_sem]) rfl ⟨_, _, _, _, rfl, hR, (by with_reducible repeat (first | exact IsGr.refl _ | refine IsGr.gr ?_ _ _ | refine IsGr.alloc ?_ _ | refine IsGr.drew ?_ | refine IsGr.drewN ?_ _))⟩

set_option maxHeartbeats 1000000 in
theorem less_any (x0 x1 x2 x3 x y0 y1 y2 y3 y : Int) (hx : Is x0 x1 x2 x3 x) (hy : Is y0 y1 y2 y3 y) (w : World) :
    Calls Try.prog 121 #[.agg #[.int .u64 x0, .int .u64 x1, .int .u64 x2, .int .u64 x3], .agg #[.int .u64 y0, .int .u64 y1, .int .u64 y2, .int .u64 y3]] w fun e w' => e = .returned (.bool (decide (x < y))) ∧ IsGr w w' := by
  by_cases h3 : x3 = y3
  · by_cases h2 : x2 = y2
    · by_cases h1 : x1 = y1
      · have hd := less0 hx hy h3 h2 h1
        clear hx hy
        subst h1 h2 h3
        go_enter Try.func121, Try.ntmps121
        go_wp2
        refine wp_loop_rounds 5 ?_
        rw [rounds_succ]; go_wp2; go_region; go_wp2
        rw [rounds_succ]; go_wp2; go_region; go_wp2
        rw [rounds_succ]; go_wp2; go_region; go_wp2
        by_cases h0 : x0 = y0
        · have hd' : decide (x < y) = false := by rw [← hd]; simp [h0]
          have hd2 := hd'
          subst h0
          rw [rounds_succ]; go_wp2; go_region; go_wp2
          rw [rounds_succ]; go_wp2
          go_ret
          exact ⟨ret_bool hd2.symm, (by with_reducible repeat (first | exact IsGr.refl _ | refine IsGr.gr ?_ _ _ | refine IsGr.alloc ?_ _ | refine IsGr.drew ?_ | refine IsGr.drewN ?_ _))⟩
        · rw [rounds_succ]; go_wp2; go_region; go_wp2
          go_region; go_wp2
          go_ret
          exact ⟨rfl, (by with_reducible repeat (first | exact IsGr.refl _ | refine IsGr.gr ?_ _ _ | refine IsGr.alloc ?_ _ | refine IsGr.drew ?_ | refine IsGr.drewN ?_ _))⟩
      · have hd := less1 hx hy h3 h2 h1
        clear hx hy
        subst h2 h3
        go_enter Try.func121, Try.ntmps121
        go_wp2
        refine wp_loop_rounds 5 ?_
        rw [rounds_succ]; go_wp2; go_region; go_wp2
        rw [rounds_succ]; go_wp2; go_region; go_wp2
        rw [rounds_succ]; go_wp2; go_region; go_wp2
        go_region; go_wp2
        go_ret
        exact ⟨rfl, (by with_reducible repeat (first | exact IsGr.refl _ | refine IsGr.gr ?_ _ _ | refine IsGr.alloc ?_ _ | refine IsGr.drew ?_ | refine IsGr.drewN ?_ _))⟩
    · have hd := less2 hx hy h3 h2
      clear hx hy
      subst h3
      go_enter Try.func121, Try.ntmps121
      go_wp2
      refine wp_loop_rounds 5 ?_
      rw [rounds_succ]; go_wp2; go_region; go_wp2
      rw [rounds_succ]; go_wp2; go_region; go_wp2
      go_region; go_wp2
      go_ret
      exact ⟨rfl, (by with_reducible repeat (first | exact IsGr.refl _ | refine IsGr.gr ?_ _ _ | refine IsGr.alloc ?_ _ | refine IsGr.drew ?_ | refine IsGr.drewN ?_ _))⟩
  · have hd := less3 hx hy h3
    clear hx hy
    go_enter Try.func121, Try.ntmps121
    go_wp2
    refine wp_loop_rounds 5 ?_
    rw [rounds_succ]; go_wp2; go_region; go_wp2
    go_region; go_wp2
    go_ret
    exact ⟨rfl, (by with_reducible repeat (first | exact IsGr.refl _ | refine IsGr.gr ?_ _ _ | refine IsGr.alloc ?_ _ | refine IsGr.drew ?_ | refine IsGr.drewN ?_ _))⟩
end Go.Proofs.Ytohhlhoijanjfaa
