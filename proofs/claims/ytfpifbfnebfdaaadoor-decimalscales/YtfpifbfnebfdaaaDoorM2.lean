/- Plain facts: how many bits a number has. -/
import Derived.Test.YtfpifbfnebfdaaaDoorM1
import Derived.Lib.ItoaNum
namespace Go.Proofs.YtfpifbfnebfdaaaDoor
open Go.RowKit

/-- x has just L bits. -/
def BL (x : Int) (L : Nat) : Prop := x < 2 ^ L ∧ (L ≠ 0 → 2 ^ (L - 1) ≤ x)

theorem pow_two_split (a b : Nat) : (2 : Int) ^ (a + b) = 2 ^ a * 2 ^ b := Int.pow_add 2 a b

theorem bl_word (x : Int) (h0 : 0 < x) (h1 : x < 18446744073709551616) : 1 ≤ Lib.bitLen x.toNat ∧ Lib.bitLen x.toNat ≤ 64 ∧ BL x (Lib.bitLen x.toNat) := by
  obtain ⟨x, rfl⟩ := Int.eq_ofNat_of_zero_le (Int.le_of_lt h0)
  have hx : x < 2 ^ 64 := by omega
  obtain ⟨a, b, c⟩ := Lib.bitLenAux_bounds 64 x hx (by omega)
  have d := Lib.bitLen_le x 64 (by omega) hx
  rw [Int.toNat_natCast]
  refine ⟨a, d, ?_, fun _ => ?_⟩
  · have : ((x : Nat) : Int) < ((2 ^ Lib.bitLen x : Nat) : Int) := by exact_mod_cast c
    simpa using this
  · have : ((2 ^ (Lib.bitLen x - 1) : Nat) : Int) ≤ (x : Int) := by exact_mod_cast b
    simpa using this

theorem BL.pos {x : Int} {L : Nat} (h : BL x L) (hL : 1 ≤ L) : 2 ^ (L - 1) ≤ x := h.2 (by omega)

theorem bl_shift (x y r : Int) (L s : Nat) (hL : 1 ≤ L) (h : BL x L) (hy : y = x * 2 ^ s + r) (hr : 0 ≤ r) (hr' : r < 2 ^ s) : BL y (s + L) := by
  obtain ⟨h1, h2⟩ := h
  have h2 := h2 (by omega)
  have hp : (0 : Int) < 2 ^ s := Int.pow_pos (by decide)
  refine ⟨?_, fun _ => ?_⟩
  · rw [Nat.add_comm, pow_two_split]
    have : (x + 1) * 2 ^ s ≤ 2 ^ L * 2 ^ s := Int.mul_le_mul_of_nonneg_right (by omega) (Int.le_of_lt hp)
    rw [Int.add_mul] at this
    omega
  · rw [show s + L - 1 = (L - 1) + s by omega, pow_two_split]
    have : 2 ^ (L - 1) * 2 ^ s ≤ x * 2 ^ s := Int.mul_le_mul_of_nonneg_right h2 (Int.le_of_lt hp)
    omega

theorem BL.zero : BL 0 0 := ⟨by decide, fun h => absurd rfl h⟩
theorem BL.of_eq {x : Int} {L L' : Nat} (h : BL x L) (e : L = L') : BL x L' := e ▸ h
end Go.Proofs.YtfpifbfnebfdaaaDoor
