/- Plain facts: division bit by bit. -/
import Derived.Test.YtfpifbfnebfdaaaDoorM3
namespace Go.Proofs.YtfpifbfnebfdaaaDoor
open Go.RowKit

/-- x is q times y 2^j, and x'. -/
def Dv (x y q x' : Int) (j : Nat) : Prop := x = q * (y * 2 ^ j) + x' ∧ 0 ≤ x' ∧ x' < y * 2 ^ j ∧ 0 ≤ q

theorem pow2_pos (j : Nat) : (0 : Int) < 2 ^ j := Int.pow_pos (by decide)

theorem Dv.step {x y q x' Y : Int} {j : Nat} (h : Dv x y q x' (j + 1)) (hY : Y = y * 2 ^ j) : (¬ x' < Y → Dv x y (2 * q + 1) (x' - Y) j) ∧ (x' < Y → Dv x y (2 * q) x' j) := by
  obtain ⟨h1, h2, h3, h4⟩ := h
  have e : y * 2 ^ (j + 1) = 2 * Y := by rw [hY, Int.pow_succ, ← Int.mul_assoc, Int.mul_comm]
  rw [e] at h1 h3
  have e2 : q * (2 * Y) = 2 * (q * Y) := Int.mul_left_comm q 2 Y
  have e3 : (2 * q + 1) * Y = 2 * (q * Y) + Y := by rw [Int.add_mul, Int.mul_assoc]; omega
  have e4 : (2 * q) * Y = 2 * (q * Y) := Int.mul_assoc 2 q Y
  unfold Dv
  rw [← hY, e3, e4]
  omega

theorem Dv.le {x y q x' : Int} {j : Nat} (h : Dv x y q x' (j + 1)) (hy : 0 < y) : 2 * q ≤ x := by
  obtain ⟨h1, h2, h3, h4⟩ := h
  have hp := pow2_pos j
  have h5 : 1 ≤ y * 2 ^ j := by
    have := Int.mul_pos hy hp
    omega
  have e : y * 2 ^ (j + 1) = 2 * (y * 2 ^ j) := by rw [Int.pow_succ, ← Int.mul_assoc, Int.mul_comm]
  have h6 : q * (2 * 1) ≤ q * (y * 2 ^ (j + 1)) := Int.mul_le_mul_of_nonneg_left (by omega) h4
  omega

theorem Dv.fin {x y q x' : Int} (h : Dv x y q x' 0) (hy : 0 < y) : x / y = q ∧ x % y = x' := by
  obtain ⟨h1, h2, h3, h4⟩ := h
  simp at h1 h3
  have := Int.ediv_emod_unique hy (r := x') (q := q) (a := x)
  exact this.2 ⟨by rw [Int.mul_comm y q]; omega, h2, h3⟩

theorem Dv.start {x y : Int} {d LX LY : Nat} (hx0 : 0 ≤ x) (hx : BL x LX) (hy : BL y LY) (hy0 : 0 < y) (hd : LX = LY + d) : Dv x y 0 x (d + 1) := by
  have hL : LY ≠ 0 := by
    intro e; subst e; have := hy.1; simp at this; omega
  have h2 := hy.2 hL
  refine ⟨by omega, hx0, ?_, by omega⟩
  have h3 : (2 : Int) ^ (LY - 1) * 2 ^ (d + 1) ≤ y * 2 ^ (d + 1) := Int.mul_le_mul_of_nonneg_right h2 (Int.le_of_lt (pow2_pos _))
  rw [← Int.pow_add, show LY - 1 + (d + 1) = LX by omega] at h3
  have := hx.1
  omega

theorem bl_short {x y : Int} {LX LY : Nat} (hx : BL x LX) (hy : BL y LY) (h : LX < LY) : x < y := by
  have h1 := hx.1
  have h2 := hy.2 (by omega)
  have h3 : (2 : Int) ^ LX ≤ 2 ^ (LY - 1) := by
    have : LY - 1 = LX + (LY - 1 - LX) := by omega
    rw [this, Int.pow_add]
    have := pow2_pos (LY - 1 - LX)
    have h4 := Int.mul_le_mul_of_nonneg_left (show (1 : Int) ≤ 2 ^ (LY - 1 - LX) by omega) (Int.le_of_lt (pow2_pos LX))
    omega
  omega

theorem bl_dbl {y : Int} {LX LY d k : Nat} (hy0 : 0 < y) (hy : BL y LY) (hd : LX = LY + d) (hX : LX ≤ 256) (hk : k ≤ d) : 0 < y * 2 ^ k ∧ y * 2 ^ k < 115792089237316195423570985008687907853269984665640564039457584007913129639936 := by
  refine ⟨Int.mul_pos hy0 (pow2_pos k), ?_⟩
  have h1 : y * 2 ^ k < 2 ^ LY * 2 ^ k := Int.mul_lt_mul_of_pos_right hy.1 (pow2_pos k)
  rw [← Int.pow_add] at h1
  have h2 : (2 : Int) ^ (LY + k) ≤ 2 ^ 256 := by
    have e : (2 : Int) ^ 256 = 2 ^ (LY + k) * 2 ^ (256 - (LY + k)) := by rw [← Int.pow_add]; congr 1; omega
    rw [e]
    have := pow2_pos (256 - (LY + k))
    have h4 := Int.mul_le_mul_of_nonneg_left (show (1 : Int) ≤ 2 ^ (256 - (LY + k)) by omega) (Int.le_of_lt (pow2_pos (LY + k)))
    omega
  have h3 : (2 : Int) ^ 256 = 115792089237316195423570985008687907853269984665640564039457584007913129639936 := by decide
  omega

theorem or_one {a b c d q : Int} (h : Is a b c d (2 * q)) : bits .or .u64 a 1 = a + 1 ∧ Is (a + 1) b c d (2 * q + 1) := by
  unfold Is at h
  have he : a % 2 = 0 := by omega
  obtain ⟨n, rfl⟩ := Int.eq_ofNat_of_zero_le h.1
  refine ⟨?_, by unfold Is; omega⟩
  have e := bits_or_u64_nat n 1 (by omega) (by omega)
  have e' : bits .or .u64 (n : Int) 1 = ((n ||| 1 : Nat) : Int) := e
  rw [e']
  have e2 : n = 2 ^ 1 * (n / 2) := by omega
  have e3 := Nat.two_pow_add_eq_or_of_lt (i := 1) (b := 1) (by omega) (n / 2)
  rw [← e2] at e3
  rw [← e3]
  omega
end Go.Proofs.YtfpifbfnebfdaaaDoor
