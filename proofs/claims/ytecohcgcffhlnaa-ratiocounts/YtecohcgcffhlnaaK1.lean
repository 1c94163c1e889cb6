/- Helpers of the statements of layer 1: is. -/
import Derived.Test.YtecohcgcffhlnaaR9
import Derived.Test.YtecohcgcffhlnaaW11
namespace Go.Proofs.Ytecohcgcffhlnaa
open Go.RowKit
attribute [local go_sem] Gr.size Gr.cell? Gr.frozen? Gr.setCell Gr.drew Gr.drewN Gr.of_drew Gr.of_drewN Gr.gr Gr.lt_of1 Gr.le_of1 Gr.lt_of2 Gr.le_of2 Gr.lt_of3 Gr.le_of3 Gr.lt_of4 Gr.le_of4 Gr.lt_of5 Gr.le_of5 Gr.lt_of6 Gr.le_of6 Gr.lt_of7 Gr.le_of7 Gr.lt_of8 Gr.le_of8

/-- Are they the same number? -/
def same (x y : Int) : Bool := cmpI x y == 0
theorem same_eq {x y : Int} : same x y = decide (x = y) := by
  unfold same cmpI
  repeat' split
  all_goals simp
  all_goals omega

theorem fits_t {x : Int} (h : -57896044618658097711785492504343953926634992332820282019728792003956564819968 ≤ x ∧ x < 57896044618658097711785492504343953926634992332820282019728792003956564819968) : fits x = true := by unfold fits; simp; exact ⟨h.1, h.2⟩
theorem fits_f {x : Int} (h : ¬ (-57896044618658097711785492504343953926634992332820282019728792003956564819968 ≤ x ∧ x < 57896044618658097711785492504343953926634992332820282019728792003956564819968)) : fits x = false := by unfold fits; simp; omega

end Go.Proofs.Ytecohcgcffhlnaa
