/- Contracts over the loaded program: point.On, gromaref03.On. -/
import Derived.Test.YtohhlhoijanjfaaU6
namespace Go.Proofs.Ytohhlhoijanjfaa
open Go.RowKit Go.Shelf
attribute [local go_sem] Gr.size Gr.cell? Gr.frozen? Gr.setCell Gr.drew Gr.drewN Gr.of_drew Gr.of_drewN Gr.gr Gr.lt_of1 Gr.le_of1 Gr.lt_of2 Gr.le_of2 Gr.lt_of3 Gr.le_of3 Gr.lt_of4 Gr.le_of4 Gr.lt_of5 Gr.le_of5 Gr.lt_of6 Gr.le_of6 Gr.lt_of7 Gr.le_of7 Gr.lt_of8 Gr.le_of8 Gr.lt_of9 Gr.le_of9 Gr.lt_of10 Gr.le_of10 Gr.lt_of11 Gr.le_of11 Gr.lt_of12 Gr.le_of12 Gr.lt_of13 Gr.le_of13 Gr.lt_of14 Gr.le_of14 Gr.lt_of15 Gr.le_of15 Gr.lt_of16 Gr.le_of16 Gr.lt_of17 Gr.le_of17 Gr.lt_of18 Gr.le_of18 Gr.lt_of19 Gr.le_of19 Gr.lt_of20 Gr.le_of20 Gr.lt_of21 Gr.le_of21 Gr.lt_of22 Gr.le_of22 Gr.lt_of23 Gr.le_of23 Gr.lt_of24 Gr.le_of24

/-- Does p lie between a and b, in the order of the points? -/
def betw (a1 a2 b1 b2 p1 p2 : Int) : Bool := decide (0 ≤ cmpP a1 a2 p1 p2 * cmpP p1 p2 b1 b2)
/-- Does p lie on the segment from a to b? -/
def onP (a1 a2 b1 b2 p1 p2 : Int) : Bool := right3 a1 a2 b1 b2 p1 p2 && decide (wayP a1 a2 b1 b2 p1 p2 = 0) && betw a1 a2 b1 b2 p1 p2

theorem cmpP_cases (a1 a2 b1 b2 : Int) : (cmpP a1 a2 b1 b2 = -1 ∧ (a1 < b1 ∨ a1 = b1 ∧ a2 < b2)) ∨ (cmpP a1 a2 b1 b2 = 0 ∧ a1 = b1 ∧ a2 = b2) ∨ (cmpP a1 a2 b1 b2 = 1 ∧ (b1 < a1 ∨ a1 = b1 ∧ b2 < a2)) := by
  unfold cmpP cmpI
  repeat' split
  all_goals omega
theorem betw_eq (a1 a2 b1 b2 p1 p2 : Int) : betw a1 a2 b1 b2 p1 p2 = if aheadP b1 b2 a1 a2 = true then !aheadP p1 p2 b1 b2 && !aheadP a1 a2 p1 p2 else !aheadP p1 p2 a1 a2 && !aheadP b1 b2 p1 p2 := by
  unfold betw aheadP
  rcases cmpP_cases a1 a2 p1 p2 with ⟨e1, h1⟩ | ⟨e1, h1⟩ | ⟨e1, h1⟩ <;> rcases cmpP_cases p1 p2 b1 b2 with ⟨e2, h2⟩ | ⟨e2, h2⟩ | ⟨e2, h2⟩ <;> rw [e1, e2]
  all_goals
    split
    all_goals
      rename_i hd
      simp only [decide_eq_true_eq] at hd
      rw [Bool.eq_iff_iff]
      simp
      try omega

set_option maxRecDepth 20000 in set_option maxHeartbeats 8000000 in
theorem On_any (a1 a2 b1 b2 p1 p2 : Int) (w : World) :
    Calls Try.prog 46 #[.agg #[.int .i64 a1, .int .i64 a2], .agg #[.int .i64 b1, .int .i64 b2], .agg #[.int .i64 p1, .int .i64 p2]] w fun e w' => e = .returned (.bool (onP a1 a2 b1 b2 p1 p2)) ∧ IsGr w w' := by
  have CA := fun g w (h : Pts w (.slice (some ⟨g, 0, none⟩) 3 3) [(a1, a2), (b1, b2), (p1, p2)]) => allRight_any _ 3 3 _ w h (by omega)
  rw [allR_three] at CA
  have CT := fun w => Turn_any a1 a2 b1 b2 p1 p2 w
  have C1 := fun w => PCmp_any a1 a2 p1 p2 w
  have C2 := fun w => PCmp_any p1 p2 b1 b2 w
  have HO : Hid (onP a1 a2 b1 b2 p1 p2 = (right3 a1 a2 b1 b2 p1 p2 && decide (wayP a1 a2 b1 b2 p1 p2 = 0) && betw a1 a2 b1 b2 p1 p2)) := rfl
  have r1 := cmpP_cases a1 a2 p1 p2
  have r2 := cmpP_cases p1 p2 b1 b2
  have HB : Hid (betw a1 a2 b1 b2 p1 p2 = decide (0 ≤ cmpP a1 a2 p1 p2 * cmpP p1 p2 b1 b2)) := rfl
  generalize right3 a1 a2 b1 b2 p1 p2 = R at CA HO
  generalize wayP a1 a2 b1 b2 p1 p2 = T at CT HO
  generalize cmpP a1 a2 p1 p2 = K1 at C1 r1 HB
  generalize cmpP p1 p2 b1 b2 = K2 at C2 r2 HB
  cases R
  · have HR : Hid (false = onP a1 a2 b1 b2 p1 p2) := by unfold Hid; rw [HO.out]; rfl
    clear HO CT C1 C2 r1 r2 HB
    go_enter Try.func46, Try.ntmps46
    go_wp2_with fail
    refine (CA _ _ (Pts.three (by simp) (by simp [go_sem]) (by simp [go_sem]) (by simp [go_sem]) (by simp [go_sem]) (by simp [go_sem]) (by simp [go_sem]))).mono ?_
    rintro e w1 ⟨rfl, os1, m1, rfl⟩
    go_wp2
    go_ret
    exact ⟨ret_bool HR.out, (by with_reducible repeat (first | exact IsGr.refl _ | refine IsGr.gr ?_ _ _ | refine IsGr.alloc ?_ _ | refine IsGr.drew ?_ | refine IsGr.drewN ?_ _))⟩
  by_cases hT : T = 0
  · have v1 : IntKind.i64.wrap (K1 * K2) = K1 * K2 := by
      rw [IntKind.wrap_i64]
      rcases r1 with ⟨rfl, _⟩ | ⟨rfl, _⟩ | ⟨rfl, _⟩ <;> rcases r2 with ⟨rfl, _⟩ | ⟨rfl, _⟩ | ⟨rfl, _⟩ <;> rfl
    have HR : Hid (decide (0 ≤ K1 * K2) = onP a1 a2 b1 b2 p1 p2) := by unfold Hid; rw [HO.out, HB.out, hT]; rfl
    subst hT
    clear HO r1 r2 HB
    go_enter Try.func46, Try.ntmps46
    go_wp2_with fail
    refine (CA _ _ (Pts.three (by simp) (by simp [go_sem]) (by simp [go_sem]) (by simp [go_sem]) (by simp [go_sem]) (by simp [go_sem]) (by simp [go_sem]))).mono ?_
    rintro e w1 ⟨rfl, os1, m1, rfl⟩
    go_wp2_with fail
    refine (CT _).mono ?_
    rintro e w1 ⟨rfl, os2, m2, rfl⟩
    go_upto_region 3 with fail
    go_region_held3 (fun w' => (w'.cell? ⟨w.heap.size, 0, none⟩ = some (.int .i64 a1) ∧ w'.cell? ⟨w.heap.size, 1, none⟩ = some (.int .i64 a2)) ∧ (w'.cell? ⟨w.heap.size + 1, 0, none⟩ = some (.int .i64 b1) ∧ w'.cell? ⟨w.heap.size + 1, 1, none⟩ = some (.int .i64 b2)) ∧ (w'.cell? ⟨w.heap.size + 1 + 1, 0, none⟩ = some (.int .i64 p1) ∧ w'.cell? ⟨w.heap.size + 1 + 1, 1, none⟩ = some (.int .i64 p2))) (simp [go_sem])
      ((first | (go_at_call_of 47 (Value.int IntKind.i64 a1); refine (C1 _).mono ?_; rintro e' w1 ⟨rfl, os3, m3, rfl⟩) | (go_at_call_of 47 (Value.int IntKind.i64 b1); refine (C2 _).mono ?_; rintro e' w1 ⟨rfl, os4, m4, rfl⟩)))
    all_goals
      go_wp2
      go_ret
      exact ⟨ret_bool HR.out, (by with_reducible repeat (first | exact IsGr.refl _ | refine IsGr.gr ?_ _ _ | refine IsGr.alloc ?_ _ | refine IsGr.drew ?_ | refine IsGr.drewN ?_ _))⟩
  · have HR : Hid (false = onP a1 a2 b1 b2 p1 p2) := by unfold Hid; rw [HO.out]; simp [hT]
    clear HO C1 C2 r1 r2 HB
    go_enter Try.func46, Try.ntmps46
    go_wp2_with fail
    refine (CA _ _ (Pts.three (by simp) (by simp [go_sem]) (by simp [go_sem]) (by simp [go_sem]) (by simp [go_sem]) (by simp [go_sem]) (by simp [go_sem]))).mono ?_
    rintro e w1 ⟨rfl, os1, m1, rfl⟩
    go_wp2_with fail
    refine (CT _).mono ?_
    rintro e w1 ⟨rfl, os2, m2, rfl⟩
    go_wp2
    go_ret
    exact ⟨ret_bool HR.out, (by with_reducible repeat (first | exact IsGr.refl _ | refine IsGr.gr ?_ _ _ | refine IsGr.alloc ?_ _ | refine IsGr.drew ?_ | refine IsGr.drewN ?_ _))⟩

set_option maxRecDepth 20000 in set_option maxHeartbeats 8000000 in
theorem refOn_any (a1 a2 b1 b2 p1 p2 : Int) (w : World) :
    Calls Try.prog 13 #[.agg #[.int .i64 a1, .int .i64 a2], .agg #[.int .i64 b1, .int .i64 b2], .agg #[.int .i64 p1, .int .i64 p2]] w fun e w' => e = .returned (.bool (onP a1 a2 b1 b2 p1 p2)) ∧ IsGr w w' := by
  have C1 := fun w => RefRight_any a1 a2 w
  have C2 := fun w => RefRight_any b1 b2 w
  have C3 := fun w => RefRight_any p1 p2 w
  have CW := fun w => Way_any a1 a2 b1 b2 p1 p2 w
  have CB := fun w => Ahead_any b1 b2 a1 a2 w
  have D1 := fun w => Ahead_any p1 p2 b1 b2 w
  have D2 := fun w => Ahead_any a1 a2 p1 p2 w
  have D3 := fun w => Ahead_any p1 p2 a1 a2 w
  have D4 := fun w => Ahead_any b1 b2 p1 p2 w
  have HO : Hid (onP a1 a2 b1 b2 p1 p2 = (rightP a1 a2 && rightP b1 b2 && rightP p1 p2 && decide (wayP a1 a2 b1 b2 p1 p2 = 0) && (if aheadP b1 b2 a1 a2 = true then !aheadP p1 p2 b1 b2 && !aheadP a1 a2 p1 p2 else !aheadP p1 p2 a1 a2 && !aheadP b1 b2 p1 p2))) := by
    unfold Hid; rw [← betw_eq]; rfl
  generalize rightP a1 a2 = r1 at C1 HO
  generalize rightP b1 b2 = r2 at C2 HO
  generalize rightP p1 p2 = r3 at C3 HO
  generalize wayP a1 a2 b1 b2 p1 p2 = T at CW HO
  generalize aheadP b1 b2 a1 a2 = A at CB HO
  generalize aheadP p1 p2 b1 b2 = A1 at D1 HO
  generalize aheadP a1 a2 p1 p2 = A2 at D2 HO
  generalize aheadP p1 p2 a1 a2 = A3 at D3 HO
  generalize aheadP b1 b2 p1 p2 = A4 at D4 HO
  cases r1
  · have HR : Hid (false = onP a1 a2 b1 b2 p1 p2) := by unfold Hid; rw [HO.out]; rfl
    clear HO
    go_enter Try.func13, Try.ntmps13
    go_wp2_with fail
    refine (C1 _).mono ?_
    rintro e w1 ⟨rfl, os1, m1, rfl⟩
    go_wp2
    go_ret
    exact ⟨ret_bool HR.out, (by with_reducible repeat (first | exact IsGr.refl _ | refine IsGr.gr ?_ _ _ | refine IsGr.alloc ?_ _ | refine IsGr.drew ?_ | refine IsGr.drewN ?_ _))⟩
  cases r2
  · have HR : Hid (false = onP a1 a2 b1 b2 p1 p2) := by unfold Hid; rw [HO.out]; rfl
    clear HO
    go_enter Try.func13, Try.ntmps13
    go_wp2_with fail
    refine (C1 _).mono ?_
    rintro e w1 ⟨rfl, os1, m1, rfl⟩
    go_wp2_with fail
    refine (C2 _).mono ?_
    rintro e w1 ⟨rfl, os2, m2, rfl⟩
    go_wp2
    go_ret
    exact ⟨ret_bool HR.out, (by with_reducible repeat (first | exact IsGr.refl _ | refine IsGr.gr ?_ _ _ | refine IsGr.alloc ?_ _ | refine IsGr.drew ?_ | refine IsGr.drewN ?_ _))⟩
  cases r3
  · have HR : Hid (false = onP a1 a2 b1 b2 p1 p2) := by unfold Hid; rw [HO.out]; rfl
    clear HO
    go_enter Try.func13, Try.ntmps13
    go_wp2_with fail
    refine (C1 _).mono ?_
    rintro e w1 ⟨rfl, os1, m1, rfl⟩
    go_wp2_with fail
    refine (C2 _).mono ?_
    rintro e w1 ⟨rfl, os2, m2, rfl⟩
    go_wp2_with fail
    refine (C3 _).mono ?_
    rintro e w1 ⟨rfl, os3, m3, rfl⟩
    go_wp2
    go_ret
    exact ⟨ret_bool HR.out, (by with_reducible repeat (first | exact IsGr.refl _ | refine IsGr.gr ?_ _ _ | refine IsGr.alloc ?_ _ | refine IsGr.drew ?_ | refine IsGr.drewN ?_ _))⟩
  by_cases hT : T = 0
  · subst hT
    cases A
    · have HR : Hid ((!A3 && !A4) = onP a1 a2 b1 b2 p1 p2) := by unfold Hid; rw [HO.out]; rfl
      clear HO
      go_enter Try.func13, Try.ntmps13
      go_wp2_with fail
      refine (C1 _).mono ?_
      rintro e w1 ⟨rfl, os1, m1, rfl⟩
      go_wp2_with fail
      refine (C2 _).mono ?_
      rintro e w1 ⟨rfl, os2, m2, rfl⟩
      go_wp2_with fail
      refine (C3 _).mono ?_
      rintro e w1 ⟨rfl, os3, m3, rfl⟩
      go_wp2_with fail
      refine (CW _).mono ?_
      rintro e w1 ⟨rfl, os4, m4, rfl⟩
      go_wp2_with fail
      refine (CB _).mono ?_
      rintro e w1 ⟨rfl, os5, m5, rfl⟩
      go_wp2_with fail
      refine (D3 _).mono ?_
      rintro e w1 ⟨rfl, os6, m6, rfl⟩
      cases A3
      · go_wp2_with fail
        refine (D4 _).mono ?_
        rintro e w1 ⟨rfl, os7, m7, rfl⟩
        go_wp2
        go_ret
        exact ⟨ret_bool HR.out, (by with_reducible repeat (first | exact IsGr.refl _ | refine IsGr.gr ?_ _ _ | refine IsGr.alloc ?_ _ | refine IsGr.drew ?_ | refine IsGr.drewN ?_ _))⟩
      · go_wp2
        go_ret
        exact ⟨ret_bool HR.out, (by with_reducible repeat (first | exact IsGr.refl _ | refine IsGr.gr ?_ _ _ | refine IsGr.alloc ?_ _ | refine IsGr.drew ?_ | refine IsGr.drewN ?_ _))⟩
    · have HR : Hid ((!A1 && !A2) = onP a1 a2 b1 b2 p1 p2) := by unfold Hid; rw [HO.out]; rfl
      clear HO
      go_enter Try.func13, Try.ntmps13
      go_wp2_with fail
      refine (C1 _).mono ?_
      rintro e w1 ⟨rfl, os1, m1, rfl⟩
      go_wp2_with fail
      refine (C2 _).mono ?_
      rintro e w1 ⟨rfl, os2, m2, rfl⟩
      go_wp2_with fail
      refine (C3 _).mono ?_
      rintro e w1 ⟨rfl, os3, m3, rfl⟩
      go_wp2_with fail
      refine (CW _).mono ?_
      rintro e w1 ⟨rfl, os4, m4, rfl⟩
      go_wp2_with fail
      refine (CB _).mono ?_
      rintro e w1 ⟨rfl, os5, m5, rfl⟩
      go_wp2_with fail
      refine (D1 _).mono ?_
      rintro e w1 ⟨rfl, os6, m6, rfl⟩
      cases A1
      · go_wp2_with fail
        refine (D2 _).mono ?_
        rintro e w1 ⟨rfl, os7, m7, rfl⟩
        go_wp2
        go_ret
        exact ⟨ret_bool HR.out, (by with_reducible repeat (first | exact IsGr.refl _ | refine IsGr.gr ?_ _ _ | refine IsGr.alloc ?_ _ | refine IsGr.drew ?_ | refine IsGr.drewN ?_ _))⟩
      · go_wp2
        go_ret
        exact ⟨ret_bool HR.out, (by with_reducible repeat (first | exact IsGr.refl _ | refine IsGr.gr ?_ _ _ | refine IsGr.alloc ?_ _ | refine IsGr.drew ?_ | refine IsGr.drewN ?_ _))⟩
  · have HR : Hid (false = onP a1 a2 b1 b2 p1 p2) := by unfold Hid; rw [HO.out]; simp [hT]
    clear HO
    go_enter Try.func13, Try.ntmps13
    go_wp2_with fail
    refine (C1 _).mono ?_
    rintro e w1 ⟨rfl, os1, m1, rfl⟩
    go_wp2_with fail
    refine (C2 _).mono ?_
    rintro e w1 ⟨rfl, os2, m2, rfl⟩
    go_wp2_with fail
    refine (C3 _).mono ?_
    rintro e w1 ⟨rfl, os3, m3, rfl⟩
    go_wp2_with fail
    refine (CW _).mono ?_
    rintro e w1 ⟨rfl, os4, m4, rfl⟩
    go_wp2
    go_ret
    exact ⟨ret_bool HR.out, (by with_reducible repeat (first | exact IsGr.refl _ | refine IsGr.gr ?_ _ _ | refine IsGr.alloc ?_ _ | refine IsGr.drew ?_ | refine IsGr.drewN ?_ _))⟩
end Go.Proofs.Ytohhlhoijanjfaa
