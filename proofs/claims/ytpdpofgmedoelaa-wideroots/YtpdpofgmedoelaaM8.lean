/- Plain facts: roots bit by bit. -/
import Derived.Test.YtpdpofgmedoelaaM5
namespace Go.Proofs.Ytpdpofgmedoelaa
open Go.RowKit

/-- The root so far is R (words r0, r1), and the bits from b on are settled. -/
def Rt (x r0 r1 : Int) (b : Nat) : Prop := ∃ R k : Int, Is r0 r1 0 0 R ∧ R < 340282366920938463463374607431768211456 ∧ R = 2 ^ b * k ∧ R * R ≤ x ∧ x < (R + 2 ^ b) * (R + 2 ^ b)

theorem or_bit (a k : Int) (s : Nat) (hs : s < 64) (h0 : 0 ≤ a) (h1 : a < 18446744073709551616) (hk : a = 2 ^ (s + 1) * k) : bits .or .u64 a (2 ^ s) = a + 2 ^ s := by
  have hp : (0 : Int) < 2 ^ (s + 1) := pow2_pos _
  have hk0 : 0 ≤ k := by
    rcases Int.lt_or_le k 0 with h | h
    · have := Int.mul_le_mul_of_nonneg_left (show k ≤ -1 by omega) (Int.le_of_lt hp); omega
    · exact h
  obtain ⟨k, rfl⟩ := Int.eq_ofNat_of_zero_le hk0
  obtain ⟨a, rfl⟩ := Int.eq_ofNat_of_zero_le h0
  have ha : a = 2 ^ (s + 1) * k := by exact_mod_cast hk
  have h2 : (2 : Nat) ^ s < 18446744073709551616 := Nat.lt_of_lt_of_le (Nat.pow_lt_pow_right (by decide) hs) (by decide)
  have e : ((2 : Int) ^ s) = ((2 ^ s : Nat) : Int) := by simp
  rw [e, bits_or_u64_nat a (2 ^ s) (by omega) h2]
  have e2 := Nat.two_pow_add_eq_or_of_lt (i := s + 1) (b := 2 ^ s) (by rw [Nat.pow_succ]; have := Nat.pow_pos (n := s) (show 0 < 2 by decide); omega) k
  rw [← ha] at e2
  rw [← e2]
  simp

theorem pow_split64 (s : Nat) (hs : s < 64) : ∃ P T : Int, (2 : Int) ^ s = P ∧ (2 : Int) ^ (s + 1) = 2 * P ∧ (2 : Int) ^ (64 + s) = 18446744073709551616 * P ∧ (2 : Int) ^ (64 + s + 1) = 2 * (18446744073709551616 * P) ∧ 2 * P * T = 18446744073709551616 ∧ 1 ≤ P ∧ 1 ≤ T := by
  refine ⟨2 ^ s, 2 ^ (63 - s), rfl, by rw [Int.pow_succ]; omega, by rw [Int.pow_add]; rfl, by rw [Int.pow_succ, Int.pow_add, Int.mul_comm]; rfl, ?_, ?_, ?_⟩
  · have : (2 : Int) ^ (s + 1) * 2 ^ (63 - s) = 2 ^ 64 := by rw [← Int.pow_add]; congr 1; omega
    rw [Int.pow_succ, Int.mul_comm (2 ^ s) 2] at this
    exact this
  · have := pow2_pos s; omega
  · have := pow2_pos (63 - s); omega

theorem sq_step {x R D : Int} (h2 : x < (R + 2 * D) * (R + 2 * D)) : ((R + D) * (R + D) ≤ x → x < (R + D + D) * (R + D + D)) ∧ (¬ (R + D) * (R + D) ≤ x → x < (R + D) * (R + D)) := by
  have e : R + D + D = R + 2 * D := by omega
  rw [e]
  exact ⟨fun _ => h2, fun h => by omega⟩

/-- One bit of the upper word. -/
theorem Rt.hi {x r0 r1 : Int} {s : Nat} (h : Rt x r0 r1 (64 + s + 1)) (hs : s < 64) :
    bits .or .u64 r1 (2 ^ s) = r1 + 2 ^ s ∧ ∃ Q, Is r0 (r1 + 2 ^ s) 0 0 Q ∧ 0 ≤ Q ∧ Q < 340282366920938463463374607431768211456 ∧ (Q * Q ≤ x → Rt x r0 (r1 + 2 ^ s) (64 + s)) ∧ (¬ Q * Q ≤ x → Rt x r0 r1 (64 + s)) := by
  obtain ⟨R, k, hR, hB, hk, h1, h2⟩ := h
  obtain ⟨P, T, e1, e2, e3, e4, e5, p1, t1⟩ := pow_split64 s hs
  rw [e4] at hk h2
  have hR' := hR
  unfold Is at hR'
  have hm : 2 * (18446744073709551616 * P) * k = 2 * 18446744073709551616 * (P * k) := by rw [← Int.mul_assoc, Int.mul_assoc (2 * 18446744073709551616)]
  rw [hm] at hk
  have hr : r0 = 0 ∧ r1 = 2 * (P * k) := by omega
  have hr1 : r1 = 2 ^ (s + 1) * k := by rw [e2, hr.2, Int.mul_assoc]
  have hw := or_bit r1 k s hs (by omega) (by omega) hr1
  have hPT : P * k + P ≤ P * T := by
    have hkT : k < T := by
      rcases Int.lt_or_le k T with h | h
      · exact h
      · have := Int.mul_le_mul_of_nonneg_left h (show 0 ≤ P by omega)
        have e6 : 2 * P * T = 2 * (P * T) := Int.mul_assoc 2 P T
        omega
    have := Int.mul_le_mul_of_nonneg_left (show k + 1 ≤ T by omega) (show 0 ≤ P by omega)
    rw [Int.mul_add, Int.mul_one] at this
    exact this
  have e6 : 2 * P * T = 2 * (P * T) := Int.mul_assoc 2 P T
  have hq : Is r0 (r1 + 2 ^ s) 0 0 (R + 18446744073709551616 * P) := by rw [e1]; unfold Is; omega
  have hq2 := hq
  unfold Is at hq2
  have hst := sq_step (D := 18446744073709551616 * P) h2
  refine ⟨hw, R + 18446744073709551616 * P, hq, by omega, by omega, fun hle => ?_, fun hle => ?_⟩
  · refine ⟨R + 18446744073709551616 * P, 2 * k + 1, hq, by omega, ?_, hle, ?_⟩
    · rw [e3, Int.mul_add, Int.mul_one, hk]
      have : 18446744073709551616 * P * (2 * k) = 2 * 18446744073709551616 * (P * k) := by
        rw [Int.mul_left_comm, Int.mul_assoc 18446744073709551616 P k, ← Int.mul_assoc 2]
      omega
    · rw [e3]; exact hst.1 hle
  · refine ⟨R, 2 * k, hR, hB, ?_, h1, ?_⟩
    · rw [e3, hk]
      have : 18446744073709551616 * P * (2 * k) = 2 * 18446744073709551616 * (P * k) := by
        rw [Int.mul_left_comm, Int.mul_assoc 18446744073709551616 P k, ← Int.mul_assoc 2]
      omega
    · rw [e3]; exact hst.2 hle

/-- One bit of the lower word. -/
theorem Rt.lo {x r0 r1 : Int} {s : Nat} (h : Rt x r0 r1 (s + 1)) (hs : s < 64) :
    bits .or .u64 r0 (2 ^ s) = r0 + 2 ^ s ∧ ∃ Q, Is (r0 + 2 ^ s) r1 0 0 Q ∧ 0 ≤ Q ∧ Q < 340282366920938463463374607431768211456 ∧ (Q * Q ≤ x → Rt x (r0 + 2 ^ s) r1 s) ∧ (¬ Q * Q ≤ x → Rt x r0 r1 s) := by
  obtain ⟨R, k, hR, hB, hk, h1, h2⟩ := h
  obtain ⟨P, T, e1, e2, e3, e4, e5, p1, t1⟩ := pow_split64 s hs
  rw [e2] at hk h2
  have hR' := hR
  unfold Is at hR'
  have hm : r0 = 2 * P * (k - T * r1) := by
    rw [Int.mul_sub, ← Int.mul_assoc (2 * P), e5]
    omega
  have hr0 : r0 = 2 ^ (s + 1) * (k - T * r1) := by rw [e2]; exact hm
  have hw := or_bit r0 (k - T * r1) s hs (by omega) (by omega) hr0
  have hPT : r0 + P < 18446744073709551616 := by
    generalize hj : k - T * r1 = j at hm
    have hjT : j < T := by
      rcases Int.lt_or_le j T with h | h
      · exact h
      · have := Int.mul_le_mul_of_nonneg_left h (show 0 ≤ 2 * P by omega)
        omega
    have := Int.mul_le_mul_of_nonneg_left (show j + 1 ≤ T by omega) (show 0 ≤ 2 * P by omega)
    rw [Int.mul_add, Int.mul_one] at this
    omega
  have hq : Is (r0 + 2 ^ s) r1 0 0 (R + P) := by rw [e1]; unfold Is; omega
  have hq2 := hq
  unfold Is at hq2
  have hst := sq_step (D := P) h2
  refine ⟨hw, R + P, hq, by omega, by omega, fun hle => ?_, fun hle => ?_⟩
  · refine ⟨R + P, 2 * k + 1, hq, by omega, ?_, hle, ?_⟩
    · rw [e1, Int.mul_add, Int.mul_one, hk, Int.mul_left_comm P 2 k, Int.mul_assoc]
    · rw [e1]; exact hst.1 hle
  · refine ⟨R, 2 * k, hR, hB, ?_, h1, ?_⟩
    · rw [e1, hk, Int.mul_left_comm P 2 k, Int.mul_assoc]
    · rw [e1]; exact hst.2 hle

theorem Rt.start {x : Int} (h0 : 0 ≤ x) (h1 : x < 57896044618658097711785492504343953926634992332820282019728792003956564819968) : Rt x 0 0 128 :=
  ⟨0, 0, Is.zero, by omega, by simp, by omega, by rw [show (0 + (2 : Int) ^ 128) * (0 + 2 ^ 128) = 115792089237316195423570985008687907853269984665640564039457584007913129639936 by decide +kernel]; omega⟩
theorem Rt.fin {x r0 r1 : Int} (h : Rt x r0 r1 0) : ∃ R, Is r0 r1 0 0 R ∧ 0 ≤ R ∧ R < 340282366920938463463374607431768211456 ∧ R * R ≤ x ∧ x < (R + 1) * (R + 1) := by
  obtain ⟨R, k, hR, hB, _, h1, h2⟩ := h
  exact ⟨R, hR, hR.range.1, hB, h1, by simpa using h2⟩
end Go.Proofs.Ytpdpofgmedoelaa
