/- gromalaw01.WideCommon: for every three Ints the law answers true. -/
import Derived.Test.YtecohcgcffhlnaaA1
import Derived.Test.YtecohcgcffhlnaaW13
import Derived.Test.YtecohcgcffhlnaaW17
namespace Go.Proofs.Ytecohcgcffhlnaa
open Go.RowKit Go.Shelf
attribute [local go_sem] Gr.size Gr.cell? Gr.frozen? Gr.setCell Gr.drew Gr.drewN Gr.of_drew Gr.of_drewN Gr.gr Gr.lt_of1 Gr.le_of1 Gr.lt_of2 Gr.le_of2 Gr.lt_of3 Gr.le_of3 Gr.lt_of4 Gr.le_of4 Gr.lt_of5 Gr.le_of5 Gr.lt_of6 Gr.le_of6 Gr.lt_of7 Gr.le_of7 Gr.lt_of8 Gr.le_of8

theorem gcdI_eq (x y : Int) : gcdI (abs x) (abs y) = (Int.gcd x y : Int) := by
  have h : ∀ z : Int, (abs z).toNat = z.natAbs := by intro z; unfold abs; split <;> omega
  unfold gcdI
  rw [h, h]; rfl
theorem gcdI_l (x y : Int) : x.fmod (gcdI (abs x) (abs y)) = 0 := by
  rw [gcdI_eq]; exact Int.fmod_eq_zero_of_dvd (Int.gcd_dvd_left x y)
theorem gcdI_r (x y : Int) : y.fmod (gcdI (abs x) (abs y)) = 0 := by
  rw [gcdI_eq]; exact Int.fmod_eq_zero_of_dvd (Int.gcd_dvd_right x y)
theorem gcdI_all {x y z : Int} (h1 : x.fmod z = 0) (h2 : y.fmod z = 0) : (gcdI (abs x) (abs y)).fmod z = 0 := by
  rw [gcdI_eq]
  exact Int.fmod_eq_zero_of_dvd (Int.dvd_coe_gcd (Int.dvd_of_fmod_eq_zero h1) (Int.dvd_of_fmod_eq_zero h2))
theorem gcdI_nonneg (x y : Int) : 0 ≤ gcdI (abs x) (abs y) := by unfold gcdI; omega
theorem gcdI_none {x y : Int} (h : gcdI (abs x) (abs y) = 0) : x = 0 ∧ y = 0 := by
  rw [gcdI_eq] at h
  have h2 : Int.gcd x y = 0 := by omega
  exact Int.gcd_eq_zero_iff.1 h2
theorem gcdI_over {x y : Int} (hx : -57896044618658097711785492504343953926634992332820282019728792003956564819968 ≤ x ∧ x < 57896044618658097711785492504343953926634992332820282019728792003956564819968) (hy : -57896044618658097711785492504343953926634992332820282019728792003956564819968 ≤ y ∧ y < 57896044618658097711785492504343953926634992332820282019728792003956564819968) (h : ¬ (-57896044618658097711785492504343953926634992332820282019728792003956564819968 ≤ gcdI (abs x) (abs y) ∧ gcdI (abs x) (abs y) < 57896044618658097711785492504343953926634992332820282019728792003956564819968)) : (x = -57896044618658097711785492504343953926634992332820282019728792003956564819968 ∨ x = 0) ∧ (y = -57896044618658097711785492504343953926634992332820282019728792003956564819968 ∨ y = 0) := by
  have h0 := gcdI_nonneg x y
  rw [gcdI_eq] at h h0
  have d1 := Int.gcd_dvd_left x y
  have d2 := Int.gcd_dvd_right x y
  generalize ((Int.gcd x y : Nat) : Int) = G at h h0 d1 d2
  have key : ∀ z : Int, -57896044618658097711785492504343953926634992332820282019728792003956564819968 ≤ z → z < 57896044618658097711785492504343953926634992332820282019728792003956564819968 → G ∣ z → z = -57896044618658097711785492504343953926634992332820282019728792003956564819968 ∨ z = 0 := by
    intro z z0 z1 hd
    by_cases hz : z = 0
    · exact Or.inr hz
    · left
      by_cases hp : 0 < z
      · have := Int.le_of_dvd hp hd; omega
      · have := Int.le_of_dvd (show 0 < -z by omega) ((Int.dvd_neg).2 hd); omega
  exact ⟨key x hx.1 hx.2 d1, key y hy.1 hy.2 d2⟩
theorem is_least : Is 0 0 0 9223372036854775808 57896044618658097711785492504343953926634992332820282019728792003956564819968 := by unfold Is; omega

theorem div_told {x y s0 s1 s2 s3 r0 r1 r2 r3 : Int} {ok : Bool} (h : DivAll x y s0 s1 s2 s3 r0 r1 r2 r3 ok) (hy : y ≠ 0) (hn : ¬ (x = -57896044618658097711785492504343953926634992332820282019728792003956564819968 ∧ y = -1)) : ok = true ∧ IsI r0 r1 r2 r3 (x.fmod y) := by
  rcases h with ⟨a, _, _, d⟩ | ⟨_, h, _⟩
  · exact ⟨a, d⟩
  · rcases h with h | h
    · exact absurd h hy
    · exact absurd h hn

end Go.Proofs.Ytecohcgcffhlnaa
