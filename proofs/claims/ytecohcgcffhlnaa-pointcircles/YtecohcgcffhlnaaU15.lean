/- Contracts of package gromaref03 over the loaded program: Circle of any points. -/
import Derived.Test.YtecohcgcffhlnaaU14
import Derived.Test.YtecohcgcffhlnaaU10
namespace Go.Proofs.Ytecohcgcffhlnaa
open Go.RowKit Go.Shelf
attribute [local go_sem] Gr.size Gr.cell? Gr.frozen? Gr.setCell Gr.drew Gr.drewN Gr.of_drew Gr.of_drewN Gr.gr Gr.lt_of1 Gr.le_of1 Gr.lt_of2 Gr.le_of2 Gr.lt_of3 Gr.le_of3 Gr.lt_of4 Gr.le_of4 Gr.lt_of5 Gr.le_of5 Gr.lt_of6 Gr.le_of6 Gr.lt_of7 Gr.le_of7 Gr.lt_of8 Gr.le_of8 Gr.lt_of9 Gr.le_of9 Gr.lt_of10 Gr.le_of10 Gr.lt_of11 Gr.le_of11 Gr.lt_of12 Gr.le_of12 Gr.lt_of13 Gr.le_of13 Gr.lt_of14 Gr.le_of14 Gr.lt_of15 Gr.le_of15 Gr.lt_of16 Gr.le_of16 Gr.lt_of17 Gr.le_of17 Gr.lt_of18 Gr.le_of18 Gr.lt_of19 Gr.le_of19 Gr.lt_of20 Gr.le_of20 Gr.lt_of21 Gr.le_of21 Gr.lt_of22 Gr.le_of22 Gr.lt_of23 Gr.le_of23 Gr.lt_of24 Gr.le_of24
set_option maxRecDepth 20000 in set_option maxHeartbeats 3000000 in
theorem refCircle_any (a1 a2 b1 b2 c1 c2 p1 p2 : Int) (w : World) :
    Calls Try.prog 28 #[.agg #[.int .i64 a1, .int .i64 a2], .agg #[.int .i64 b1, .int .i64 b2], .agg #[.int .i64 c1, .int .i64 c2], .agg #[.int .i64 p1, .int .i64 p2]] w fun e w' => e = .returned (.int .i64 (circleP a1 a2 b1 b2 c1 c2 p1 p2)) ∧ IsGr w w' := by
  have CR := fun w => RefRight_any p1 p2 w
  have CW := fun w => Way_any a1 a2 b1 b2 c1 c2 w
  by_cases hp : rightP p1 p2 = true
  · by_cases hT : wayP a1 a2 b1 b2 c1 c2 = 0
    · have HR : Hid (0 = circleP a1 a2 b1 b2 c1 c2 p1 p2) := by unfold Hid circleP; rw [hT]; split <;> simp
      rw [hp] at CR
      rw [hT] at CW
      clear hp hT
      go_enter Try.func28, Try.ntmps28
      go_wp2_with fail
      refine (CR _).mono ?_
      rintro e w1 ⟨rfl, os1, m1, rfl⟩
      go_wp2_with fail
      refine (CW _).mono ?_
      rintro e w1 ⟨rfl, os2, m2, rfl⟩
      go_wp2
      go_ret
      exact ⟨ret_int' HR.out, (by with_reducible repeat (first | exact IsGr.refl _ | refine IsGr.gr ?_ _ _ | refine IsGr.alloc ?_ _ | refine IsGr.drew ?_ | refine IsGr.drewN ?_ _))⟩
    · have h3 : right3 a1 a2 b1 b2 c1 c2 = true := by
        cases h : right3 a1 a2 b1 b2 c1 c2 with
        | true => rfl
        | false => exact absurd (by unfold wayP; rw [h]; rfl) hT
      exact refCircle_right a1 a2 b1 b2 c1 c2 p1 p2 (by simp only [right3, Bool.and_eq_true] at h3; simp only [right4, Bool.and_eq_true]; exact ⟨h3, hp⟩) hT w
  · have HR : Hid (0 = circleP a1 a2 b1 b2 c1 c2 p1 p2) := by
      unfold Hid circleP; rw [if_neg (by simp only [right4, Bool.and_eq_true]; exact fun h => hp h.2)]
    rw [Bool.not_eq_true] at hp
    rw [hp] at CR
    clear hp
    go_enter Try.func28, Try.ntmps28
    go_wp2_with fail
    refine (CR _).mono ?_
    rintro e w1 ⟨rfl, os1, m1, rfl⟩
    go_wp2
    go_ret
    exact ⟨ret_int' HR.out, (by with_reducible repeat (first | exact IsGr.refl _ | refine IsGr.gr ?_ _ _ | refine IsGr.alloc ?_ _ | refine IsGr.drew ?_ | refine IsGr.drewN ?_ _))⟩
end Go.Proofs.Ytecohcgcffhlnaa
