/- Plain facts on words and their bits. -/
import Derived.Laws.Bits64b
import Derived.WalkKit
namespace Go.Proofs.YtfpifbfnebfdaaaDoor
open Go.RowKit

theorem or_dbl (a c : Int) (h0 : 0 ≤ a) (h1 : a < 18446744073709551616) (c0 : 0 ≤ c) (c1 : c ≤ 1) : bits .or .u64 (IntKind.u64.wrap (a * 2)) c = (a * 2) % 18446744073709551616 + c := by
  obtain ⟨a, rfl⟩ := Int.eq_ofNat_of_zero_le h0
  obtain ⟨c, rfl⟩ := Int.eq_ofNat_of_zero_le c0
  rw [IntKind.wrap_u64]
  have e1 : ((a : Int) * 2) % 18446744073709551616 = ((a * 2 % 18446744073709551616 : Nat) : Int) := by omega
  rw [e1, bits_or_u64_nat _ _ (by omega) (by omega)]
  have e2 : a * 2 % 18446744073709551616 = 2 ^ 1 * (a % 9223372036854775808) := by omega
  rw [e2, ← Nat.two_pow_add_eq_or_of_lt (by omega)]
  omega

theorem or_hlv (a b : Int) (h0 : 0 ≤ a) (h1 : a < 18446744073709551616) (b0 : 0 ≤ b) (b1 : b < 18446744073709551616) : bits .or .u64 (a / 2) (IntKind.u64.wrap (b * 9223372036854775808)) = a / 2 + 9223372036854775808 * (b % 2) := by
  obtain ⟨a, rfl⟩ := Int.eq_ofNat_of_zero_le h0
  obtain ⟨b, rfl⟩ := Int.eq_ofNat_of_zero_le b0
  rw [IntKind.wrap_u64]
  have e1 : ((b : Int) * 9223372036854775808) % 18446744073709551616 = ((b * 9223372036854775808 % 18446744073709551616 : Nat) : Int) := by omega
  have e3 : (a : Int) / 2 = ((a / 2 : Nat) : Int) := by omega
  rw [e1, e3, bits_or_u64_nat _ _ (by omega) (by omega)]
  have e2 : b * 9223372036854775808 % 18446744073709551616 = 2 ^ 63 * (b % 2) := by omega
  rw [e2, Nat.or_comm, ← Nat.two_pow_add_eq_or_of_lt (by omega)]
  omega

theorem or_hlv0 (a : Int) (h0 : 0 ≤ a) (h1 : a < 18446744073709551616) : bits .or .u64 (a / 2) 0 = a / 2 := by
  have := or_hlv a 0 h0 h1 (by omega) (by omega)
  rw [IntKind.wrap_u64] at this
  simpa using this

theorem and_top (d : Int) (h0 : 0 ≤ d) (h1 : d < 18446744073709551616) : (bits .and .u64 d 9223372036854775808 != 0) = decide (9223372036854775808 ≤ d) := by
  obtain ⟨d, rfl⟩ := Int.eq_ofNat_of_zero_le h0
  have e := bits_and_u64_nat d 9223372036854775808 (by omega) (by omega)
  have e' : bits .and .u64 (d : Int) 9223372036854775808 = ((d &&& 9223372036854775808 : Nat) : Int) := e
  have e1 : (d &&& 9223372036854775808) / 2 ^ 63 = d / 2 ^ 63 % 2 := by
    rw [Nat.and_div_two_pow, show (9223372036854775808 : Nat) / 2 ^ 63 = 1 by decide, Nat.and_one_is_mod]
  have e2 : (d &&& 9223372036854775808) % 2 ^ 63 = 0 := by
    rw [Nat.and_mod_two_pow, show (9223372036854775808 : Nat) % 2 ^ 63 = 0 by decide, Nat.and_zero]
  rw [e']
  generalize d &&& 9223372036854775808 = m at e1 e2
  by_cases h : 9223372036854775808 ≤ d
  · have h3 : (9223372036854775808 : Int) ≤ d := by omega
    have h4 : (m : Int) ≠ 0 := by omega
    simp [h3]; omega
  · have h3 : ¬ (9223372036854775808 : Int) ≤ d := by omega
    have h4 : (m : Int) = 0 := by omega
    simp [h3, h4] <;> omega

/-- Four words are the number n. -/
def Is (a b c d n : Int) : Prop := 0 ≤ a ∧ a < 18446744073709551616 ∧ 0 ≤ b ∧ b < 18446744073709551616 ∧ 0 ≤ c ∧ c < 18446744073709551616 ∧ 0 ≤ d ∧ d < 18446744073709551616 ∧ n = a + 18446744073709551616 * b + 340282366920938463463374607431768211456 * c + 6277101735386680763835789423207666416102355444464034512896 * d

/-- The size of the number that 256 bits are in two's complement. -/
def mag (x : Int) : Int := if 57896044618658097711785492504343953926634992332820282019728792003956564819968 ≤ x then 115792089237316195423570985008687907853269984665640564039457584007913129639936 - x else x

theorem less3 {x0 x1 x2 x3 x y0 y1 y2 y3 y : Int} (hx : Is x0 x1 x2 x3 x) (hy : Is y0 y1 y2 y3 y) (h : x3 ≠ y3) : decide (x3 < y3) = decide (x < y) := by
  unfold Is at hx hy; rw [decide_eq_decide]; omega
theorem less2 {x0 x1 x2 x3 x y0 y1 y2 y3 y : Int} (hx : Is x0 x1 x2 x3 x) (hy : Is y0 y1 y2 y3 y) (h3 : x3 = y3) (h : x2 ≠ y2) : decide (x2 < y2) = decide (x < y) := by
  unfold Is at hx hy; rw [decide_eq_decide]; omega
theorem less1 {x0 x1 x2 x3 x y0 y1 y2 y3 y : Int} (hx : Is x0 x1 x2 x3 x) (hy : Is y0 y1 y2 y3 y) (h3 : x3 = y3) (h2 : x2 = y2) (h : x1 ≠ y1) : decide (x1 < y1) = decide (x < y) := by
  unfold Is at hx hy; rw [decide_eq_decide]; omega
theorem less0 {x0 x1 x2 x3 x y0 y1 y2 y3 y : Int} (hx : Is x0 x1 x2 x3 x) (hy : Is y0 y1 y2 y3 y) (h3 : x3 = y3) (h2 : x2 = y2) (h1 : x1 = y1) : decide (x0 < y0) = decide (x < y) := by
  unfold Is at hx hy; rw [decide_eq_decide]; omega
theorem Is.inj {x0 x1 x2 x3 x y0 y1 y2 y3 : Int} (hx : Is x0 x1 x2 x3 x) (hy : Is y0 y1 y2 y3 x) : x0 = y0 ∧ x1 = y1 ∧ x2 = y2 ∧ x3 = y3 := by
  unfold Is at hx hy; omega
theorem Is.range {a b c d n : Int} (h : Is a b c d n) : 0 ≤ n ∧ n < 115792089237316195423570985008687907853269984665640564039457584007913129639936 := by unfold Is at h; omega
theorem Is.zero : Is 0 0 0 0 0 := by unfold Is; omega
theorem ret_bool {a b : Bool} (h : a = b) : Ending.returned (.bool a) = .returned (.bool b) := by rw [h]
theorem ret_int {k : IntKind} {a b : Int} (h : a = b) : Ending.returned (.int k a) = .returned (.int k b) := by rw [h]
end Go.Proofs.YtfpifbfnebfdaaaDoor
