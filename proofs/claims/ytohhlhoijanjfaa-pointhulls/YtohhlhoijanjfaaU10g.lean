/- Contracts over the loaded program: point.Circle; and gromalaw03's awake. -/
import Derived.Test.YtohhlhoijanjfaaU8g
import Derived.Test.YtohhlhoijanjfaaU9
namespace Go.Proofs.Ytohhlhoijanjfaa
open Go.RowKit Go.Shelf
attribute [local go_sem] Gr.size Gr.cell? Gr.frozen? Gr.setCell Gr.drew Gr.drewN Gr.of_drew Gr.of_drewN Gr.gr Gr.lt_of1 Gr.le_of1 Gr.lt_of2 Gr.le_of2 Gr.lt_of3 Gr.le_of3 Gr.lt_of4 Gr.le_of4 Gr.lt_of5 Gr.le_of5 Gr.lt_of6 Gr.le_of6 Gr.lt_of7 Gr.le_of7 Gr.lt_of8 Gr.le_of8 Gr.lt_of9 Gr.le_of9 Gr.lt_of10 Gr.le_of10 Gr.lt_of11 Gr.le_of11 Gr.lt_of12 Gr.le_of12 Gr.lt_of13 Gr.le_of13 Gr.lt_of14 Gr.le_of14 Gr.lt_of15 Gr.le_of15 Gr.lt_of16 Gr.le_of16 Gr.lt_of17 Gr.le_of17 Gr.lt_of18 Gr.le_of18 Gr.lt_of19 Gr.le_of19 Gr.lt_of20 Gr.le_of20 Gr.lt_of21 Gr.le_of21 Gr.lt_of22 Gr.le_of22 Gr.lt_of23 Gr.le_of23 Gr.lt_of24 Gr.le_of24

set_option maxRecDepth 20000 in set_option maxHeartbeats 8000000 in
theorem Circle_any (a1 a2 b1 b2 c1 c2 p1 p2 : Int) (w : World) :
    Calls Try.prog 45 #[.agg #[.int .i64 a1, .int .i64 a2], .agg #[.int .i64 b1, .int .i64 b2], .agg #[.int .i64 c1, .int .i64 c2], .agg #[.int .i64 p1, .int .i64 p2]] w fun e w' => e = .returned (.int .i64 (circleP a1 a2 b1 b2 c1 c2 p1 p2)) ∧ IsGr w w' := by
  by_cases h : right4 a1 a2 b1 b2 c1 c2 p1 p2 = true
  · exact circle_right a1 a2 b1 b2 c1 c2 p1 p2 h w
  · have CA := fun g w (h : Pts w (.slice (some ⟨g, 0, none⟩) 4 4) [(a1, a2), (b1, b2), (c1, c2), (p1, p2)]) => allRight_any _ 4 4 _ w h (by omega)
    have HR : Hid (0 = circleP a1 a2 b1 b2 c1 c2 p1 p2) := by unfold Hid circleP; rw [if_neg h]
    rw [Bool.not_eq_true] at h
    rw [allR_four, h] at CA
    clear h
    go_enter Try.func45, Try.ntmps45
    go_wp2_with fail
    refine (CA _ _ (Pts.four (by simp) (by simp [go_sem]) (by simp [go_sem]) (by simp [go_sem]) (by simp [go_sem]) (by simp [go_sem]) (by simp [go_sem]) (by simp [go_sem]) (by simp [go_sem]))).mono ?_
    rintro e w1 ⟨rfl, os1, m1, rfl⟩
    go_wp2
    go_ret
    exact ⟨ret_int' HR.out, (by with_reducible repeat (first | exact IsGr.refl _ | refine IsGr.gr ?_ _ _ | refine IsGr.alloc ?_ _ | refine IsGr.drew ?_ | refine IsGr.drewN ?_ _))⟩

set_option maxRecDepth 20000 in set_option maxHeartbeats 8000000 in
theorem awake3_any (w : World) : Calls Try.prog 10 #[] w fun e w' => e = .returned (.bool true) ∧ IsGr w w' := by
  have C1 := fun w => Turn_any 0 0 2 0 0 2 w
  have C2 := fun w => Circle_any 0 0 2 0 0 2 1 1 w
  have C3 := fun w => Circle_any 2 0 0 0 0 2 1 1 w
  have C4 := fun w => Circle_any 0 0 2 0 0 2 3 2 w
  have C5 := fun w => Circle_any 0 0 2 0 0 2 2 2 w
  have C6 := fun w => On_any 2 0 0 2 1 1 w
  have C7 := fun w => PCmp_any 0 0 2 0 w
  rw [show wayP 0 0 2 0 0 2 = 1 by decide] at C1
  rw [show circleP 0 0 2 0 0 2 1 1 = 1 by decide] at C2
  rw [show circleP 2 0 0 0 0 2 1 1 = 1 by decide] at C3
  rw [show circleP 0 0 2 0 0 2 3 2 = -1 by decide] at C4
  rw [show circleP 0 0 2 0 0 2 2 2 = 0 by decide] at C5
  rw [show onP 2 0 0 2 1 1 = true by decide] at C6
  rw [show cmpP 0 0 2 0 = -1 by decide] at C7
  go_enter Try.func10, Try.ntmps10
  go_wp2_with fail
  refine (C1 _).mono ?_
  rintro e w1 ⟨rfl, os1, m1, rfl⟩
  go_wp2_with fail
  refine (C2 _).mono ?_
  rintro e w1 ⟨rfl, os2, m2, rfl⟩
  go_wp2_with fail
  refine (C3 _).mono ?_
  rintro e w1 ⟨rfl, os3, m3, rfl⟩
  go_wp2_with fail
  refine (C4 _).mono ?_
  rintro e w1 ⟨rfl, os4, m4, rfl⟩
  go_wp2_with fail
  refine (C5 _).mono ?_
  rintro e w1 ⟨rfl, os5, m5, rfl⟩
  go_wp2_with fail
  refine (C6 _).mono ?_
  rintro e w1 ⟨rfl, os6, m6, rfl⟩
  go_wp2_with fail
  refine (C7 _).mono ?_
  rintro e w1 ⟨rfl, os7, m7, rfl⟩
  go_wp2
  go_ret
  exact ⟨rfl, (by with_reducible repeat (first | exact IsGr.refl _ | refine IsGr.gr ?_ _ _ | refine IsGr.alloc ?_ _ | refine IsGr.drew ?_ | refine IsGr.drewN ?_ _))⟩
end Go.Proofs.Ytohhlhoijanjfaa
