/- Contracts of package wide over the loaded program: Of, Cmp, Sign, Small. -/
import Derived.Test.YtohhlhoijanjfaaW8
import Derived.Test.YtohhlhoijanjfaaR2
import Derived.Deep.DeepCutAuto
namespace Go.Proofs.Ytohhlhoijanjfaa
open Go.RowKit Go.Shelf
attribute [local go_sem] Gr.size Gr.cell? Gr.frozen? Gr.setCell Gr.drew Gr.drewN Gr.of_drew Gr.of_drewN Gr.gr Gr.lt_of1 Gr.le_of1 Gr.lt_of2 Gr.le_of2 Gr.lt_of3 Gr.le_of3 Gr.lt_of4 Gr.le_of4 Gr.lt_of5 Gr.le_of5 Gr.lt_of6 Gr.le_of6 Gr.lt_of7 Gr.le_of7 Gr.lt_of8 Gr.le_of8

theorem xor_top (d : Int) (h0 : 0 ≤ d) (h1 : d < 18446744073709551616) : bits .xor .u64 d 9223372036854775808 = (d + 9223372036854775808) % 18446744073709551616 := by
  obtain ⟨d, rfl⟩ := Int.eq_ofNat_of_zero_le h0
  have e := bits_xor_u64_nat d 9223372036854775808 (by omega) (by omega)
  have e' : bits .xor .u64 (d : Int) 9223372036854775808 = ((d ^^^ 9223372036854775808 : Nat) : Int) := e
  have e1 : (d ^^^ 9223372036854775808) / 2 ^ 63 = d / 2 ^ 63 ^^^ 1 := by
    rw [Nat.xor_div_two_pow, show (9223372036854775808 : Nat) / 2 ^ 63 = 1 by decide]
  have e2 : (d ^^^ 9223372036854775808) % 2 ^ 63 = d % 2 ^ 63 := by
    rw [Nat.xor_mod_two_pow, show (9223372036854775808 : Nat) % 2 ^ 63 = 0 by decide, Nat.xor_zero]
  rw [e']
  generalize d ^^^ 9223372036854775808 = m at e1 e2
  obtain h | h : d / 2 ^ 63 = 0 ∨ d / 2 ^ 63 = 1 := by omega
  · rw [h, show (0 : Nat) ^^^ 1 = 1 by decide] at e1; omega
  · rw [h, show (1 : Nat) ^^^ 1 = 0 by decide] at e1; omega

theorem IsI.turned {a b c d z : Int} (h : IsI a b c d z) : Is a b c (bits .xor .u64 d 9223372036854775808) (z + 57896044618658097711785492504343953926634992332820282019728792003956564819968) := by
  obtain ⟨h1, h2, h3⟩ := h
  unfold Is at h1
  rw [xor_top d (by omega) (by omega)]
  unfold Is; omega

theorem eqI_t {a0 a1 a2 a3 a b0 b1 b2 b3 b : Int} (ha : Is a0 a1 a2 a3 a) (hb : Is b0 b1 b2 b3 b) (h : a = b) (w : World) : (Op.equalIn 10000 44 (.agg #[.int .u64 a0, .int .u64 a1, .int .u64 a2, .int .u64 a3]) (.agg #[.int .u64 b0, .int .u64 b1, .int .u64 b2, .int .u64 b3])).run Try.prog w = .ok true w := by rw [eqI ha hb]; simp [h]
theorem eqI_f {a0 a1 a2 a3 a b0 b1 b2 b3 b : Int} (ha : Is a0 a1 a2 a3 a) (hb : Is b0 b1 b2 b3 b) (h : a ≠ b) (w : World) : (Op.equalIn 10000 44 (.agg #[.int .u64 a0, .int .u64 a1, .int .u64 a2, .int .u64 a3]) (.agg #[.int .u64 b0, .int .u64 b1, .int .u64 b2, .int .u64 b3])).run Try.prog w = .ok false w := by rw [eqI ha hb]; simp [h]

set_option maxHeartbeats 4000000 in
theorem Of_any (n : Int) (n0 : -9223372036854775808 ≤ n) (n1 : n < 9223372036854775808) (w : World) :
    Calls Try.prog 38 #[.int .i64 n] w fun e w' => ∃ s0 s1 s2 s3 : Int, e = .returned (.agg #[.int .u64 s0, .int .u64 s1, .int .u64 s2, .int .u64 s3]) ∧ IsI s0 s1 s2 s3 n ∧ IsGr w w' := by
  have hR : IsI (IntKind.u64.wrap n) (IntKind.u64.wrap (n / 9223372036854775808)) (IntKind.u64.wrap (n / 9223372036854775808)) (IntKind.u64.wrap (n / 9223372036854775808)) n := by
    simp only [IntKind.wrap_u64]
    refine ⟨?_, by omega, by omega⟩
    unfold Is; omega
  go_enter Try.func38, Try.ntmps38
  go_wp2
  exact bodyPost_ret (v := .agg #[.int .u64 (IntKind.u64.wrap n), .int .u64 (IntKind.u64.wrap (n / 9223372036854775808)), .int .u64 (IntKind.u64.wrap (n / 9223372036854775808)), .int .u64 (IntKind.u64.wrap (n / 9223372036854775808))]) (by simp [results, Try.results38, go_sem]) rfl ⟨_, _, _, _, rfl, hR, (by with_reducible repeat (first | exact IsGr.refl _ | refine IsGr.gr ?_ _ _ | refine IsGr.alloc ?_ _ | refine IsGr.drew ?_ | refine IsGr.drewN ?_ _))⟩

set_option maxHeartbeats 4000000 in
theorem Cmp_any (x0 x1 x2 x3 x y0 y1 y2 y3 y : Int) (hx : IsI x0 x1 x2 x3 x) (hy : IsI y0 y1 y2 y3 y) (w : World) :
    Calls Try.prog 96 #[.agg #[.int .u64 x0, .int .u64 x1, .int .u64 x2, .int .u64 x3], .agg #[.int .u64 y0, .int .u64 y1, .int .u64 y2, .int .u64 y3]] w fun e w' => e = .returned (.int .i64 (cmpI x y)) ∧ IsGr w w' := by
  by_cases h : x = y
  · have he : ∀ w, (Op.equalIn 10000 44 (.agg #[.int .u64 x0, .int .u64 x1, .int .u64 x2, .int .u64 x3]) (.agg #[.int .u64 y0, .int .u64 y1, .int .u64 y2, .int .u64 y3])).run Try.prog w = .ok true w := fun w => by
      rw [eqI hx.1 hy.1]; simp [h]
    have HC : Hid (0 = cmpI x y) := by unfold Hid cmpI; rw [if_neg (by omega), if_pos h]
    clear h
    go_enter Try.func96, Try.ntmps96
    go_wp2
    go_ret
    exact ⟨ret_int HC.out, (by with_reducible repeat (first | exact IsGr.refl _ | refine IsGr.gr ?_ _ _ | refine IsGr.alloc ?_ _ | refine IsGr.drew ?_ | refine IsGr.drewN ?_ _))⟩
  · have he : ∀ w, (Op.equalIn 10000 44 (.agg #[.int .u64 x0, .int .u64 x1, .int .u64 x2, .int .u64 x3]) (.agg #[.int .u64 y0, .int .u64 y1, .int .u64 y2, .int .u64 y3])).run Try.prog w = .ok false w := fun w => by
      have h1 := hx.2; have h2 := hy.2
      rw [eqI hx.1 hy.1]; simp; omega
    have LS := fun w => less_any _ _ _ _ _ _ _ _ _ _ hx.turned hy.turned w
    by_cases hl : x < y
    · have hd : decide (x + 57896044618658097711785492504343953926634992332820282019728792003956564819968 < y + 57896044618658097711785492504343953926634992332820282019728792003956564819968) = true := by simp [hl]
      rw [hd] at LS
      have HC : Hid (-1 = cmpI x y) := by unfold Hid cmpI; rw [if_pos hl]
      clear hd hl h
      go_enter Try.func96, Try.ntmps96
      go_wp2_with fail
      refine (LS _).mono ?_
      rintro e w1 ⟨rfl, os1, n1, rfl⟩
      go_wp2
      go_ret
      exact ⟨ret_int HC.out, (by with_reducible repeat (first | exact IsGr.refl _ | refine IsGr.gr ?_ _ _ | refine IsGr.alloc ?_ _ | refine IsGr.drew ?_ | refine IsGr.drewN ?_ _))⟩
    · have hd : decide (x + 57896044618658097711785492504343953926634992332820282019728792003956564819968 < y + 57896044618658097711785492504343953926634992332820282019728792003956564819968) = false := by simp; omega
      rw [hd] at LS
      have HC : Hid (1 = cmpI x y) := by unfold Hid cmpI; rw [if_neg hl, if_neg h]
      clear hd hl h
      go_enter Try.func96, Try.ntmps96
      go_wp2_with fail
      refine (LS _).mono ?_
      rintro e w1 ⟨rfl, os1, n1, rfl⟩
      go_wp2
      go_ret
      exact ⟨ret_int HC.out, (by with_reducible repeat (first | exact IsGr.refl _ | refine IsGr.gr ?_ _ _ | refine IsGr.alloc ?_ _ | refine IsGr.drew ?_ | refine IsGr.drewN ?_ _))⟩

set_option maxHeartbeats 4000000 in
theorem Sign_any (x0 x1 x2 x3 x : Int) (hx : IsI x0 x1 x2 x3 x) (w : World) :
    Calls Try.prog 73 #[.agg #[.int .u64 x0, .int .u64 x1, .int .u64 x2, .int .u64 x3]] w fun e w' => e = .returned (.int .i64 (cmpI x 0)) ∧ IsGr w w' := by
  go_enter Try.func73, Try.ntmps73
  go_wp2_with fail
  refine (Cmp_any x0 x1 x2 x3 x 0 0 0 0 0 hx IsI.zero _).mono ?_
  rintro e w1 ⟨rfl, os1, n1, rfl⟩
  go_wp2
  go_ret
  exact ⟨rfl, (by with_reducible repeat (first | exact IsGr.refl _ | refine IsGr.gr ?_ _ _ | refine IsGr.alloc ?_ _ | refine IsGr.drew ?_ | refine IsGr.drewN ?_ _))⟩

/-- What a small number is told as. -/
def SmallTold (x m : Int) (ok : Bool) : Prop := (ok = true ∧ m = x ∧ -9223372036854775808 ≤ x ∧ x < 9223372036854775808) ∨ (ok = false ∧ m = 0 ∧ ¬ (-9223372036854775808 ≤ x ∧ x < 9223372036854775808))

set_option maxHeartbeats 4000000 in
theorem Small_any (x0 x1 x2 x3 x : Int) (hx : IsI x0 x1 x2 x3 x) (w : World) :
    Calls Try.prog 100 #[.agg #[.int .u64 x0, .int .u64 x1, .int .u64 x2, .int .u64 x3]] w fun e w' => ∃ (m : Int) (ok : Bool), e = .returned (.tuple #[.int .i64 m, .bool ok]) ∧ SmallTold x m ok ∧ IsGr w w' := by
  obtain ⟨m, hm, HM, m0, m1⟩ : ∃ m, wrap64 x0 = m ∧ Hid ((x0 - m) % 18446744073709551616 = 0) ∧ -9223372036854775808 ≤ m ∧ m < 9223372036854775808 := ⟨_, rfl, by unfold Hid wrap64; omega, by unfold wrap64; omega, by unfold wrap64; omega⟩
  have CO := fun w => Of_any m m0 m1 w
  have hi : x = m ↔ (-9223372036854775808 ≤ x ∧ x < 9223372036854775808) := by
    have h := hx.1; have h2 := hx.2; have h3 := HM.out
    unfold Is at h
    omega
  by_cases hxm : x = m
  · have hpat : x % 115792089237316195423570985008687907853269984665640564039457584007913129639936 = m % 115792089237316195423570985008687907853269984665640564039457584007913129639936 := by rw [hxm]
    have HR : SmallTold x m true := Or.inl ⟨rfl, hxm.symm, (hi.1 hxm).1, (hi.1 hxm).2⟩
    have HP : Hid (x % 115792089237316195423570985008687907853269984665640564039457584007913129639936 = m % 115792089237316195423570985008687907853269984665640564039457584007913129639936) := hpat
    clear hi hxm hpat
    go_enter Try.func100, Try.ntmps100
    go_upto_region 2 with fail
    go_region_held3 (fun w' => (w'.cell? ⟨w.heap.size, 0, none⟩ = some (.int .u64 x0) ∧ w'.cell? ⟨w.heap.size, 1, none⟩ = some (.int .u64 x1) ∧ w'.cell? ⟨w.heap.size, 2, none⟩ = some (.int .u64 x2) ∧ w'.cell? ⟨w.heap.size, 3, none⟩ = some (.int .u64 x3))) (simp [go_sem]) ((go_at_call 38; refine (CO _).mono ?_; rintro e w1 ⟨s0, s1, s2, s3, rfl, hs, os1, n1, rfl⟩; have he := fun w => eqI_t hx.1 hs.1 HP.out w))
    all_goals
      go_wp2
      go_ret2
      exact ⟨m, true, rfl, HR, (by with_reducible repeat (first | exact IsGr.refl _ | refine IsGr.gr ?_ _ _ | refine IsGr.alloc ?_ _ | refine IsGr.drew ?_ | refine IsGr.drewN ?_ _))⟩
  · have hpat : x % 115792089237316195423570985008687907853269984665640564039457584007913129639936 ≠ m % 115792089237316195423570985008687907853269984665640564039457584007913129639936 := by have h2 := hx.2; omega
    have HR : SmallTold x 0 false := Or.inr ⟨rfl, rfl, fun h => hxm (hi.2 h)⟩
    have HP : Hid (x % 115792089237316195423570985008687907853269984665640564039457584007913129639936 ≠ m % 115792089237316195423570985008687907853269984665640564039457584007913129639936) := hpat
    clear hi hxm hpat
    go_enter Try.func100, Try.ntmps100
    go_upto_region 2 with fail
    go_region_held3 (fun w' => (w'.cell? ⟨w.heap.size, 0, none⟩ = some (.int .u64 x0) ∧ w'.cell? ⟨w.heap.size, 1, none⟩ = some (.int .u64 x1) ∧ w'.cell? ⟨w.heap.size, 2, none⟩ = some (.int .u64 x2) ∧ w'.cell? ⟨w.heap.size, 3, none⟩ = some (.int .u64 x3))) (simp [go_sem]) ((go_at_call 38; refine (CO _).mono ?_; rintro e w1 ⟨s0, s1, s2, s3, rfl, hs, os1, n1, rfl⟩; have he := fun w => eqI_f hx.1 hs.1 HP.out w))
    all_goals
      go_wp2
      go_ret2
      exact ⟨0, false, rfl, HR, (by with_reducible repeat (first | exact IsGr.refl _ | refine IsGr.gr ?_ _ _ | refine IsGr.alloc ?_ _ | refine IsGr.drew ?_ | refine IsGr.drewN ?_ _))⟩
end Go.Proofs.Ytohhlhoijanjfaa
