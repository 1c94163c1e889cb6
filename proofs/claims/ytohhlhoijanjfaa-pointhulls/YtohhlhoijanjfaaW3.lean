/- Contracts of package wide over the loaded program: sizes and signs. -/
import Derived.Test.YtohhlhoijanjfaaW2
namespace Go.Proofs.Ytohhlhoijanjfaa
open Go.RowKit Go.Shelf
attribute [local go_sem] Gr.size Gr.cell? Gr.frozen? Gr.setCell Gr.drew Gr.drewN Gr.of_drew Gr.of_drewN Gr.gr Gr.lt_of1 Gr.le_of1 Gr.lt_of2 Gr.le_of2 Gr.lt_of3 Gr.le_of3 Gr.lt_of4 Gr.le_of4 Gr.lt_of5 Gr.le_of5 Gr.lt_of6 Gr.le_of6 Gr.lt_of7 Gr.le_of7 Gr.lt_of8 Gr.le_of8

set_option maxHeartbeats 1000000 in
theorem sizeOf_any (x0 x1 x2 x3 x : Int) (hx : Is x0 x1 x2 x3 x) (w : World) :
    Calls Try.prog 97 #[.agg #[.int .u64 x0, .int .u64 x1, .int .u64 x2, .int .u64 x3]] w fun e w' => 
      ∃ s0 s1 s2 s3 : Int, e = .returned (.agg #[.int .u64 s0, .int .u64 s1, .int .u64 s2, .int .u64 s3]) ∧ Is s0 s1 s2 s3 (mag x) ∧ IsGr w w' := by
  by_cases h : 57896044618658097711785492504343953926634992332820282019728792003956564819968 ≤ x
  · have hd : decide (57896044618658097711785492504343953926634992332820282019728792003956564819968 ≤ x) = true := by simp [h]
    have hm : mag x = 115792089237316195423570985008687907853269984665640564039457584007913129639936 - x := by unfold mag; rw [if_pos h]
    have HM : Hid (mag x = 115792089237316195423570985008687907853269984665640564039457584007913129639936 - x) := hm
    clear hm
    go_enter Try.func97, Try.ntmps97
    go_wp2_with fail
    refine (below_any x0 x1 x2 x3 x hx _).mono ?_
    rintro e w1 ⟨rfl, os1, n1, rfl⟩
    go_wp2_with fail
    refine (minus_any 0 0 0 0 0 x0 x1 x2 x3 x Is.zero hx _).mono ?_
    rintro e w2 ⟨s0, s1, s2, s3, rfl, hs, os2, n2, rfl⟩
    go_wp2
    refine bodyPost_ret (v := .agg #[.int .u64 s0, .int .u64 s1, .int .u64 s2, .int .u64 s3]) (by simp [results, Try.results97, go_sem]) rfl ⟨s0, s1, s2, s3, rfl, ?_, (by with_reducible repeat (first | exact IsGr.refl _ | refine IsGr.gr ?_ _ _ | refine IsGr.alloc ?_ _ | refine IsGr.drew ?_ | refine IsGr.drewN ?_ _))⟩
    have := hx.range
    rwa [show ((0 : Int) - x) % 115792089237316195423570985008687907853269984665640564039457584007913129639936 = 115792089237316195423570985008687907853269984665640564039457584007913129639936 - x by omega, ← HM.out] at hs
  · have hd : decide (57896044618658097711785492504343953926634992332820282019728792003956564819968 ≤ x) = false := by simp [h]
    have hm : mag x = x := by unfold mag; rw [if_neg h]
    have hx' : Is x0 x1 x2 x3 (mag x) := by rw [hm]; exact hx
    clear hm
    go_enter Try.func97, Try.ntmps97
    go_wp2_with fail
    refine (below_any x0 x1 x2 x3 x hx _).mono ?_
    rintro e w1 ⟨rfl, os1, n1, rfl⟩
    go_wp2
    exact bodyPost_ret (v := .agg #[.int .u64 x0, .int .u64 x1, .int .u64 x2, .int .u64 x3]) (by simp [results, Try.results97, go_sem]) rfl ⟨x0, x1, x2, x3, rfl, hx', (by with_reducible repeat (first | exact IsGr.refl _ | refine IsGr.gr ?_ _ _ | refine IsGr.alloc ?_ _ | refine IsGr.drew ?_ | refine IsGr.drewN ?_ _))⟩

/-- Four words are, in two's complement, the number z. -/
def IsI (a b c d z : Int) : Prop := Is a b c d (z % 115792089237316195423570985008687907853269984665640564039457584007913129639936) ∧ -57896044618658097711785492504343953926634992332820282019728792003956564819968 ≤ z ∧ z < 57896044618658097711785492504343953926634992332820282019728792003956564819968


theorem beq4 {a0 a1 a2 a3 a b0 b1 b2 b3 b : Int} (ha : Is a0 a1 a2 a3 a) (hb : Is b0 b1 b2 b3 b) : (a0 == b0 && a1 == b1 && a2 == b2 && a3 == b3) = decide (a = b) := by
  by_cases h : a = b
  · subst h
    obtain ⟨h0, h1, h2, h3⟩ := ha.inj hb
    simp [h0, h1, h2, h3]
  · have : ¬ (a0 = b0 ∧ a1 = b1 ∧ a2 = b2 ∧ a3 = b3) := by
      rintro ⟨h0, h1, h2, h3⟩; unfold Is at ha hb; omega
    simp only [h, decide_false]
    rw [Bool.eq_false_iff]
    intro hc
    simp at hc
    exact this ⟨hc.1.1.1, hc.1.1.2, hc.1.2, hc.2⟩

theorem eqI {a0 a1 a2 a3 a b0 b1 b2 b3 b : Int} (ha : Is a0 a1 a2 a3 a) (hb : Is b0 b1 b2 b3 b) (w : World) : (Op.equalIn 10000 44 (.agg #[.int .u64 a0, .int .u64 a1, .int .u64 a2, .int .u64 a3]) (.agg #[.int .u64 b0, .int .u64 b1, .int .u64 b2, .int .u64 b3])).run Try.prog w = .ok (decide (a = b)) w := by
  rw [← beq4 ha hb]
  show (Op.equalIn (9999 + 1) 44 _ _).run Try.prog w = _
  have h22 : ∀ (a b : Int) w, (Op.equalIn 9999 42 (.int .u64 a) (.int .u64 b)).run Try.prog w = .ok (a == b) w := fun a b w => run_equalIn_int w 9998 42 .u64 .u64 a b Try.underlying42
  rw [Op.equalIn]
  simp only [Sem.run_bind, run_underlying Try.underlying44, Result.andThen_ok]
  simp [go_sem, h22, List.range']
  by_cases h0 : a0 = b0 <;> by_cases h1 : a1 = b1 <;> by_cases h2 : a2 = b2 <;> by_cases h3 : a3 = b3 <;> simp [h0, h1, h2, h3]

theorem eqS {a0 a1 a2 a3 a b0 b1 b2 b3 b : Int} (ha : Is a0 a1 a2 a3 a) (hb : Is b0 b1 b2 b3 b) (w : World) : (Op.equalIn 10000 123 (.agg #[.int .u64 a0, .int .u64 a1, .int .u64 a2, .int .u64 a3]) (.agg #[.int .u64 b0, .int .u64 b1, .int .u64 b2, .int .u64 b3])).run Try.prog w = .ok (decide (a = b)) w := by
  rw [← beq4 ha hb]
  show (Op.equalIn (9999 + 1) 123 _ _).run Try.prog w = _
  have h22 : ∀ (a b : Int) w, (Op.equalIn 9999 42 (.int .u64 a) (.int .u64 b)).run Try.prog w = .ok (a == b) w := fun a b w => run_equalIn_int w 9998 42 .u64 .u64 a b Try.underlying42
  rw [Op.equalIn]
  simp only [Sem.run_bind, run_underlying Try.underlying123, Result.andThen_ok]
  simp [go_sem, h22, List.range']
  by_cases h0 : a0 = b0 <;> by_cases h1 : a1 = b1 <;> by_cases h2 : a2 = b2 <;> by_cases h3 : a3 = b3 <;> simp [h0, h1, h2, h3]

set_option maxHeartbeats 1000000 in
theorem signed_pos (x0 x1 x2 x3 x : Int) (hx : Is x0 x1 x2 x3 x) (h : x < 57896044618658097711785492504343953926634992332820282019728792003956564819968) (w : World) :
    Calls Try.prog 120 #[.agg #[.int .u64 x0, .int .u64 x1, .int .u64 x2, .int .u64 x3], .bool false] w fun e w' => e = .returned (.tuple #[.agg #[.int .u64 x0, .int .u64 x1, .int .u64 x2, .int .u64 x3], .bool true]) ∧ IsGr w w' := by
  have hd : decide (57896044618658097711785492504343953926634992332820282019728792003956564819968 ≤ x) = false := by simp; omega
  by_cases h0 : x = 0
  · have he : ∀ w, (Op.equalIn 10000 44 (.agg #[.int .u64 x0, .int .u64 x1, .int .u64 x2, .int .u64 x3]) (.agg #[.int .u64 0, .int .u64 0, .int .u64 0, .int .u64 0])).run Try.prog w = .ok true w := fun w => by rw [eqI hx Is.zero]; simp [h0]
    clear h0
    go_enter Try.func120, Try.ntmps120
    go_wp2
    exact bodyPost_ret (v := .tuple #[.agg #[.int .u64 x0, .int .u64 x1, .int .u64 x2, .int .u64 x3], .bool true]) (by simp [results, Try.results120, go_sem]) rfl ⟨rfl, (by with_reducible repeat (first | exact IsGr.refl _ | refine IsGr.gr ?_ _ _ | refine IsGr.alloc ?_ _ | refine IsGr.drew ?_ | refine IsGr.drewN ?_ _))⟩
  · have he : ∀ w, (Op.equalIn 10000 44 (.agg #[.int .u64 x0, .int .u64 x1, .int .u64 x2, .int .u64 x3]) (.agg #[.int .u64 0, .int .u64 0, .int .u64 0, .int .u64 0])).run Try.prog w = .ok false w := fun w => by rw [eqI hx Is.zero]; simp [h0]
    clear h0
    go_enter Try.func120, Try.ntmps120
    go_wp2_with fail
    refine (below_any x0 x1 x2 x3 x hx _).mono ?_
    rintro e w1 ⟨rfl, os1, n1, rfl⟩
    go_wp2
    exact bodyPost_ret (v := .tuple #[.agg #[.int .u64 x0, .int .u64 x1, .int .u64 x2, .int .u64 x3], .bool true]) (by simp [results, Try.results120, go_sem]) rfl ⟨rfl, (by with_reducible repeat (first | exact IsGr.refl _ | refine IsGr.gr ?_ _ _ | refine IsGr.alloc ?_ _ | refine IsGr.drew ?_ | refine IsGr.drewN ?_ _))⟩

set_option maxHeartbeats 1000000 in
theorem signed_pos_no (x0 x1 x2 x3 x : Int) (hx : Is x0 x1 x2 x3 x) (h : 57896044618658097711785492504343953926634992332820282019728792003956564819968 ≤ x) (w : World) :
    Calls Try.prog 120 #[.agg #[.int .u64 x0, .int .u64 x1, .int .u64 x2, .int .u64 x3], .bool false] w fun e w' => e = .returned (.tuple #[.agg #[.int .u64 0, .int .u64 0, .int .u64 0, .int .u64 0], .bool false]) ∧ IsGr w w' := by
  have hd : decide (57896044618658097711785492504343953926634992332820282019728792003956564819968 ≤ x) = true := by simp; omega
  have he : ∀ w, (Op.equalIn 10000 44 (.agg #[.int .u64 x0, .int .u64 x1, .int .u64 x2, .int .u64 x3]) (.agg #[.int .u64 0, .int .u64 0, .int .u64 0, .int .u64 0])).run Try.prog w = .ok false w := fun w => by rw [eqI hx Is.zero]; simp; omega
  go_enter Try.func120, Try.ntmps120
  go_wp2_with fail
  refine (below_any x0 x1 x2 x3 x hx _).mono ?_
  rintro e w1 ⟨rfl, os1, n1, rfl⟩
  go_wp2
  exact bodyPost_ret (v := .tuple #[.agg #[.int .u64 0, .int .u64 0, .int .u64 0, .int .u64 0], .bool false]) (by simp [results, Try.results120, go_sem]) rfl ⟨rfl, (by with_reducible repeat (first | exact IsGr.refl _ | refine IsGr.gr ?_ _ _ | refine IsGr.alloc ?_ _ | refine IsGr.drew ?_ | refine IsGr.drewN ?_ _))⟩

set_option maxHeartbeats 1000000 in
theorem signed_neg (x0 x1 x2 x3 x : Int) (hx : Is x0 x1 x2 x3 x) (h : x ≤ 57896044618658097711785492504343953926634992332820282019728792003956564819968) (w : World) :
    Calls Try.prog 120 #[.agg #[.int .u64 x0, .int .u64 x1, .int .u64 x2, .int .u64 x3], .bool true] w fun e w' => ∃ s0 s1 s2 s3 : Int, e = .returned (.tuple #[.agg #[.int .u64 s0, .int .u64 s1, .int .u64 s2, .int .u64 s3], .bool true]) ∧ Is s0 s1 s2 s3 ((0 - x) % 115792089237316195423570985008687907853269984665640564039457584007913129639936) ∧ IsGr w w' := by
  have hr := hx.range
  by_cases h0 : x = 0
  · go_enter Try.func120, Try.ntmps120
    go_wp2_with fail
    refine (minus_any 0 0 0 0 0 x0 x1 x2 x3 x Is.zero hx _).mono ?_
    rintro e w2 ⟨s0, s1, s2, s3, rfl, hs, os2, n2, rfl⟩
    have he : ∀ w, (Op.equalIn 10000 44 (.agg #[.int .u64 s0, .int .u64 s1, .int .u64 s2, .int .u64 s3]) (.agg #[.int .u64 0, .int .u64 0, .int .u64 0, .int .u64 0])).run Try.prog w = .ok true w := fun w => by rw [eqI hs Is.zero]; simp [h0]
    clear h0
    go_wp2
    exact bodyPost_ret (v := .tuple #[.agg #[.int .u64 s0, .int .u64 s1, .int .u64 s2, .int .u64 s3], .bool true]) (by simp [results, Try.results120, go_sem]) rfl ⟨s0, s1, s2, s3, rfl, hs, (by with_reducible repeat (first | exact IsGr.refl _ | refine IsGr.gr ?_ _ _ | refine IsGr.alloc ?_ _ | refine IsGr.drew ?_ | refine IsGr.drewN ?_ _))⟩
  · go_enter Try.func120, Try.ntmps120
    go_wp2_with fail
    refine (minus_any 0 0 0 0 0 x0 x1 x2 x3 x Is.zero hx _).mono ?_
    rintro e w2 ⟨s0, s1, s2, s3, rfl, hs, os2, n2, rfl⟩
    have he : ∀ w, (Op.equalIn 10000 44 (.agg #[.int .u64 s0, .int .u64 s1, .int .u64 s2, .int .u64 s3]) (.agg #[.int .u64 0, .int .u64 0, .int .u64 0, .int .u64 0])).run Try.prog w = .ok false w := fun w => by rw [eqI hs Is.zero]; simp; omega
    have hd0 : 57896044618658097711785492504343953926634992332820282019728792003956564819968 ≤ (0 - x) % 115792089237316195423570985008687907853269984665640564039457584007913129639936 := by omega
    have hs' := hs
    clear h0
    generalize (0 - x) % 115792089237316195423570985008687907853269984665640564039457584007913129639936 = y at hd0 hs'
    have hd : decide (57896044618658097711785492504343953926634992332820282019728792003956564819968 ≤ y) = true := by simp; omega
    go_wp2_with fail
    refine (below_any s0 s1 s2 s3 y hs' _).mono ?_
    rintro e w1 ⟨rfl, os1, n1, rfl⟩
    go_wp2
    exact bodyPost_ret (v := .tuple #[.agg #[.int .u64 s0, .int .u64 s1, .int .u64 s2, .int .u64 s3], .bool true]) (by simp [results, Try.results120, go_sem]) rfl ⟨s0, s1, s2, s3, rfl, hs, (by with_reducible repeat (first | exact IsGr.refl _ | refine IsGr.gr ?_ _ _ | refine IsGr.alloc ?_ _ | refine IsGr.drew ?_ | refine IsGr.drewN ?_ _))⟩

set_option maxHeartbeats 1000000 in
theorem signed_neg_no (x0 x1 x2 x3 x : Int) (hx : Is x0 x1 x2 x3 x) (h : 57896044618658097711785492504343953926634992332820282019728792003956564819968 < x) (w : World) :
    Calls Try.prog 120 #[.agg #[.int .u64 x0, .int .u64 x1, .int .u64 x2, .int .u64 x3], .bool true] w fun e w' => e = .returned (.tuple #[.agg #[.int .u64 0, .int .u64 0, .int .u64 0, .int .u64 0], .bool false]) ∧ IsGr w w' := by
  have hr := hx.range
  go_enter Try.func120, Try.ntmps120
  go_wp2_with fail
  refine (minus_any 0 0 0 0 0 x0 x1 x2 x3 x Is.zero hx _).mono ?_
  rintro e w2 ⟨s0, s1, s2, s3, rfl, hs, os2, n2, rfl⟩
  have he : ∀ w, (Op.equalIn 10000 44 (.agg #[.int .u64 s0, .int .u64 s1, .int .u64 s2, .int .u64 s3]) (.agg #[.int .u64 0, .int .u64 0, .int .u64 0, .int .u64 0])).run Try.prog w = .ok false w := fun w => by rw [eqI hs Is.zero]; simp; omega
  have hd0 : (0 - x) % 115792089237316195423570985008687907853269984665640564039457584007913129639936 < 57896044618658097711785492504343953926634992332820282019728792003956564819968 := by omega
  generalize (0 - x) % 115792089237316195423570985008687907853269984665640564039457584007913129639936 = y at hd0 hs
  have hd : decide (57896044618658097711785492504343953926634992332820282019728792003956564819968 ≤ y) = false := by simp; omega
  go_wp2_with fail
  refine (below_any s0 s1 s2 s3 y hs _).mono ?_
  rintro e w1 ⟨rfl, os1, n1, rfl⟩
  go_wp2
  exact bodyPost_ret (v := .tuple #[.agg #[.int .u64 0, .int .u64 0, .int .u64 0, .int .u64 0], .bool false]) (by simp [results, Try.results120, go_sem]) rfl ⟨rfl, (by with_reducible repeat (first | exact IsGr.refl _ | refine IsGr.gr ?_ _ _ | refine IsGr.alloc ?_ _ | refine IsGr.drew ?_ | refine IsGr.drewN ?_ _))⟩
end Go.Proofs.Ytohhlhoijanjfaa
