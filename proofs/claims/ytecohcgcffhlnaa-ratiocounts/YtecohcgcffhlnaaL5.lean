/- gromalaw01.WideDivides: for every two Ints the law answers true. -/
import Derived.Test.YtecohcgcffhlnaaA1
import Derived.Test.YtecohcgcffhlnaaL3
import Derived.Test.YtecohcgcffhlnaaW13
namespace Go.Proofs.Ytecohcgcffhlnaa
open Go.RowKit Go.Shelf
attribute [local go_sem] Gr.size Gr.cell? Gr.frozen? Gr.setCell Gr.drew Gr.drewN Gr.of_drew Gr.of_drewN Gr.gr Gr.lt_of1 Gr.le_of1 Gr.lt_of2 Gr.le_of2 Gr.lt_of3 Gr.le_of3 Gr.lt_of4 Gr.le_of4 Gr.lt_of5 Gr.le_of5 Gr.lt_of6 Gr.le_of6 Gr.lt_of7 Gr.le_of7 Gr.lt_of8 Gr.le_of8

theorem IsGr.cell_eq {w w' : World} (h : IsGr w w') {g o : Nat} {v : Value} (hg : g < w.heap.size) (hc : w.cell? ⟨g, o, none⟩ = some v) : w'.cell? ⟨g, o, none⟩ = some v := (h.below.cell (p := ⟨g, o, none⟩) hg).trans hc
theorem cmp_self (x : Int) : cmpI x x = 0 := cmpI_eq rfl

theorem fmod_facts (x y : Int) (hy : y ≠ 0) : x.fdiv y * y + x.fmod y = x ∧ (0 < y → 0 ≤ x.fmod y ∧ x.fmod y < y) ∧ (y < 0 → y < x.fmod y ∧ x.fmod y ≤ 0) := by
  have h0 : x.fmod y = x - y * x.fdiv y := Int.fmod_def x y
  refine ⟨by rw [h0, Int.mul_comm]; omega, fun hp => ?_, fun hn => ?_⟩
  · rw [Int.fmod_eq_emod_of_nonneg x (Int.le_of_lt hp)]
    exact ⟨Int.emod_nonneg x hy, Int.emod_lt_of_pos x hp⟩
  · have e1 : x.fdiv y = (-x).fdiv (-y) := (Int.neg_fdiv_neg x y).symm
    rw [Int.fdiv_eq_ediv_of_nonneg (-x) (by omega)] at e1
    have e2 := Int.mul_ediv_add_emod (-x) (-y)
    have e3 := Int.emod_nonneg (-x) (show -y ≠ 0 by omega)
    have e4 := Int.emod_lt_of_pos (-x) (show 0 < -y by omega)
    rw [← e1, Int.neg_mul] at e2
    omega

end Go.Proofs.Ytecohcgcffhlnaa
