/- gromalaw01.WideProducts: for every two Ints the law answers true. -/
import Derived.Test.YtecohcgcffhlnaaA1
import Derived.Test.YtecohcgcffhlnaaK1
import Derived.Test.YtecohcgcffhlnaaR11
namespace Go.Proofs.Ytecohcgcffhlnaa
open Go.RowKit Go.Shelf
attribute [local go_sem] Gr.size Gr.cell? Gr.frozen? Gr.setCell Gr.drew Gr.drewN Gr.of_drew Gr.of_drewN Gr.gr Gr.lt_of1 Gr.le_of1 Gr.lt_of2 Gr.le_of2 Gr.lt_of3 Gr.le_of3 Gr.lt_of4 Gr.le_of4 Gr.lt_of5 Gr.le_of5 Gr.lt_of6 Gr.le_of6 Gr.lt_of7 Gr.le_of7 Gr.lt_of8 Gr.le_of8

theorem prod_sm {x y : Int} (hx : -57896044618658097711785492504343953926634992332820282019728792003956564819968 ≤ x ∧ x < 57896044618658097711785492504343953926634992332820282019728792003956564819968) (hy : -57896044618658097711785492504343953926634992332820282019728792003956564819968 ≤ y ∧ y < 57896044618658097711785492504343953926634992332820282019728792003956564819968) : Sm (x * y) := by
  have h1 := mul_signs x y
  have a1 : 0 ≤ abs x ∧ abs x ≤ 57896044618658097711785492504343953926634992332820282019728792003956564819968 := by unfold abs; split <;> omega
  have a2 : 0 ≤ abs y ∧ abs y ≤ 57896044618658097711785492504343953926634992332820282019728792003956564819968 := by unfold abs; split <;> omega
  have h2 : abs x * abs y ≤ 57896044618658097711785492504343953926634992332820282019728792003956564819968 * abs y := Int.mul_le_mul_of_nonneg_right a1.2 a2.1
  have h3 : 0 ≤ abs x * abs y := Int.mul_nonneg a1.1 a2.1
  rw [← h1]
  unfold Sm sgn
  split <;> omega

end Go.Proofs.Ytecohcgcffhlnaa
