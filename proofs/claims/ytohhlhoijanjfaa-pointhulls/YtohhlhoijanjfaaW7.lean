/- Contracts over the loaded program: math/bits.Div64 by ten, and sizes without their last decimal digit. -/
import Derived.Test.YtohhlhoijanjfaaW6
namespace Go.Proofs.Ytohhlhoijanjfaa
open Go.RowKit Go.Shelf
attribute [local go_sem] Gr.size Gr.cell? Gr.frozen? Gr.setCell Gr.drew Gr.drewN Gr.of_drew Gr.of_drewN Gr.gr Gr.lt_of1 Gr.le_of1 Gr.lt_of2 Gr.le_of2 Gr.lt_of3 Gr.le_of3 Gr.lt_of4 Gr.le_of4 Gr.lt_of5 Gr.le_of5 Gr.lt_of6 Gr.le_of6 Gr.lt_of7 Gr.le_of7 Gr.lt_of8 Gr.le_of8

theorem or_sixty (h l : Int) (h0 : 0 ≤ h) (h1 : h < 10) (l0 : 0 ≤ l) (l1 : l < 18446744073709551616) : bits .or .u64 (h * 1152921504606846976) (l / 16) = h * 1152921504606846976 + l / 16 := by
  obtain ⟨h, rfl⟩ := Int.eq_ofNat_of_zero_le h0
  obtain ⟨l, rfl⟩ := Int.eq_ofNat_of_zero_le l0
  have e1 : (h : Int) * 1152921504606846976 = ((h * 1152921504606846976 : Nat) : Int) := by omega
  have e2 : (l : Int) / 16 = ((l / 16 : Nat) : Int) := by omega
  rw [e1, e2, bits_or_u64_nat _ _ (by omega) (by omega)]
  have e3 : h * 1152921504606846976 = 2 ^ 60 * h := by omega
  rw [e3, ← Nat.two_pow_add_eq_or_of_lt (by omega)]
  omega
theorem and_low (V : Int) (V0 : 0 ≤ V) (V1 : V < 18446744073709551616) : bits .and .u64 V 4294967295 = V % 4294967296 := by
  obtain ⟨V, rfl⟩ := Int.eq_ofNat_of_zero_le V0
  have e := bits_and_u64_nat V 4294967295 (by omega) (by omega)
  have e' : bits .and .u64 (V : Int) 4294967295 = ((V &&& 4294967295 : Nat) : Int) := e
  rw [e', show V &&& 4294967295 = V % 4294967296 from Nat.and_two_pow_sub_one_eq_mod V 32]
  omega

end Go.Proofs.Ytohhlhoijanjfaa
