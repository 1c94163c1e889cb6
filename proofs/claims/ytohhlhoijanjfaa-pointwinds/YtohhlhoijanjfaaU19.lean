/- Contracts over the loaded program: point.passed, gromaref03.quarter; and how the two count. -/
import Derived.Test.YtohhlhoijanjfaaU6
import Derived.Test.YtohhlhoijanjfaaU7
namespace Go.Proofs.Ytohhlhoijanjfaa
open Go.RowKit Go.Shelf
attribute [local go_sem] Gr.size Gr.cell? Gr.frozen? Gr.setCell Gr.drew Gr.drewN Gr.of_drew Gr.of_drewN Gr.gr Gr.lt_of1 Gr.le_of1 Gr.lt_of2 Gr.le_of2 Gr.lt_of3 Gr.le_of3 Gr.lt_of4 Gr.le_of4 Gr.lt_of5 Gr.le_of5 Gr.lt_of6 Gr.le_of6 Gr.lt_of7 Gr.le_of7 Gr.lt_of8 Gr.le_of8 Gr.lt_of9 Gr.le_of9 Gr.lt_of10 Gr.le_of10 Gr.lt_of11 Gr.le_of11 Gr.lt_of12 Gr.le_of12 Gr.lt_of13 Gr.le_of13 Gr.lt_of14 Gr.le_of14 Gr.lt_of15 Gr.le_of15 Gr.lt_of16 Gr.le_of16 Gr.lt_of17 Gr.le_of17 Gr.lt_of18 Gr.le_of18 Gr.lt_of19 Gr.le_of19 Gr.lt_of20 Gr.le_of20 Gr.lt_of21 Gr.le_of21 Gr.lt_of22 Gr.le_of22 Gr.lt_of23 Gr.le_of23 Gr.lt_of24 Gr.le_of24

/-- How the segment from a to b crosses the ray from p to the right. -/
def passP (a1 a2 b1 b2 p1 p2 : Int) : Int :=
  if a2 ≤ p2 ∧ p2 < b2 ∧ 0 < wayP a1 a2 b1 b2 p1 p2 then 1 else if b2 ≤ p2 ∧ p2 < a2 ∧ wayP a1 a2 b1 b2 p1 p2 < 0 then -1 else 0
/-- The quarter around p that a lies in. -/
def qtr (a1 a2 p1 p2 : Int) : Int :=
  if p1 < a1 ∧ p2 ≤ a2 then 0 else if a1 ≤ p1 ∧ p2 < a2 then 1 else if a1 < p1 ∧ a2 ≤ p2 then 2 else 3


set_option maxRecDepth 20000 in set_option maxHeartbeats 2000000 in
theorem passed_any (a1 a2 b1 b2 p1 p2 : Int) (w : World) :
    Calls Try.prog 51 #[.agg #[.int .i64 a1, .int .i64 a2], .agg #[.int .i64 b1, .int .i64 b2], .agg #[.int .i64 p1, .int .i64 p2]] w fun e w' => e = .returned (.int .i64 (passP a1 a2 b1 b2 p1 p2)) ∧ IsGr w w' := by
  have CT := fun w => Turn_any a1 a2 b1 b2 p1 p2 w
  have r := wayP_range a1 a2 b1 b2 p1 p2
  obtain ⟨T, hT⟩ : ∃ T, wayP a1 a2 b1 b2 p1 p2 = T := ⟨_, rfl⟩
  rw [hT] at CT r
  by_cases h1 : a2 ≤ p2
  · by_cases h2 : p2 < b2
    · rcases r with rfl | rfl | rfl
      · have HR : Hid (0 = passP a1 a2 b1 b2 p1 p2) := by
          unfold Hid passP; rw [hT]
          repeat' split
          all_goals omega
        clear hT
        go_enter Try.func51, Try.ntmps51
        go_wp2_with fail
        refine (CT _).mono ?_
        rintro e w1 ⟨rfl, os1, m1, rfl⟩
        go_wp2
        go_ret
        exact ⟨ret_int' HR.out, (by with_reducible repeat (first | exact IsGr.refl _ | refine IsGr.gr ?_ _ _ | refine IsGr.alloc ?_ _ | refine IsGr.drew ?_ | refine IsGr.drewN ?_ _))⟩
      · have HR : Hid (0 = passP a1 a2 b1 b2 p1 p2) := by
          unfold Hid passP; rw [hT]
          repeat' split
          all_goals omega
        clear hT
        go_enter Try.func51, Try.ntmps51
        go_wp2_with fail
        refine (CT _).mono ?_
        rintro e w1 ⟨rfl, os1, m1, rfl⟩
        go_wp2
        go_ret
        exact ⟨ret_int' HR.out, (by with_reducible repeat (first | exact IsGr.refl _ | refine IsGr.gr ?_ _ _ | refine IsGr.alloc ?_ _ | refine IsGr.drew ?_ | refine IsGr.drewN ?_ _))⟩
      · have HR : Hid (1 = passP a1 a2 b1 b2 p1 p2) := by
          unfold Hid passP; rw [hT]
          repeat' split
          all_goals omega
        clear hT
        go_enter Try.func51, Try.ntmps51
        go_wp2_with fail
        refine (CT _).mono ?_
        rintro e w1 ⟨rfl, os1, m1, rfl⟩
        go_wp2
        go_ret
        exact ⟨ret_int' HR.out, (by with_reducible repeat (first | exact IsGr.refl _ | refine IsGr.gr ?_ _ _ | refine IsGr.alloc ?_ _ | refine IsGr.drew ?_ | refine IsGr.drewN ?_ _))⟩
    · have h3 : b2 ≤ p2 := by omega
      have h4 : ¬ p2 < a2 := by omega
      have HR : Hid (0 = passP a1 a2 b1 b2 p1 p2) := by
        unfold Hid passP; rw [hT]
        repeat' split
        all_goals omega
      clear hT
      go_enter Try.func51, Try.ntmps51
      go_wp2
      go_ret
      exact ⟨ret_int' HR.out, (by with_reducible repeat (first | exact IsGr.refl _ | refine IsGr.gr ?_ _ _ | refine IsGr.alloc ?_ _ | refine IsGr.drew ?_ | refine IsGr.drewN ?_ _))⟩
  · have h4 : p2 < a2 := by omega
    by_cases h3 : b2 ≤ p2
    · rcases r with rfl | rfl | rfl
      · have HR : Hid (-1 = passP a1 a2 b1 b2 p1 p2) := by
          unfold Hid passP; rw [hT]
          repeat' split
          all_goals omega
        clear hT
        go_enter Try.func51, Try.ntmps51
        go_wp2_with fail
        refine (CT _).mono ?_
        rintro e w1 ⟨rfl, os1, m1, rfl⟩
        go_wp2
        go_ret
        exact ⟨ret_int' HR.out, (by with_reducible repeat (first | exact IsGr.refl _ | refine IsGr.gr ?_ _ _ | refine IsGr.alloc ?_ _ | refine IsGr.drew ?_ | refine IsGr.drewN ?_ _))⟩
      · have HR : Hid (0 = passP a1 a2 b1 b2 p1 p2) := by
          unfold Hid passP; rw [hT]
          repeat' split
          all_goals omega
        clear hT
        go_enter Try.func51, Try.ntmps51
        go_wp2_with fail
        refine (CT _).mono ?_
        rintro e w1 ⟨rfl, os1, m1, rfl⟩
        go_wp2
        go_ret
        exact ⟨ret_int' HR.out, (by with_reducible repeat (first | exact IsGr.refl _ | refine IsGr.gr ?_ _ _ | refine IsGr.alloc ?_ _ | refine IsGr.drew ?_ | refine IsGr.drewN ?_ _))⟩
      · have HR : Hid (0 = passP a1 a2 b1 b2 p1 p2) := by
          unfold Hid passP; rw [hT]
          repeat' split
          all_goals omega
        clear hT
        go_enter Try.func51, Try.ntmps51
        go_wp2_with fail
        refine (CT _).mono ?_
        rintro e w1 ⟨rfl, os1, m1, rfl⟩
        go_wp2
        go_ret
        exact ⟨ret_int' HR.out, (by with_reducible repeat (first | exact IsGr.refl _ | refine IsGr.gr ?_ _ _ | refine IsGr.alloc ?_ _ | refine IsGr.drew ?_ | refine IsGr.drewN ?_ _))⟩
    · clear r
      have HR : Hid (0 = passP a1 a2 b1 b2 p1 p2) := by
        unfold Hid passP; rw [hT]
        repeat' split
        all_goals omega
      clear hT
      go_enter Try.func51, Try.ntmps51
      go_wp2
      go_ret
      exact ⟨ret_int' HR.out, (by with_reducible repeat (first | exact IsGr.refl _ | refine IsGr.gr ?_ _ _ | refine IsGr.alloc ?_ _ | refine IsGr.drew ?_ | refine IsGr.drewN ?_ _))⟩

set_option maxRecDepth 20000 in set_option maxHeartbeats 2000000 in
theorem quarter_any (a1 a2 p1 p2 : Int) (w : World) :
    Calls Try.prog 52 #[.agg #[.int .i64 a1, .int .i64 a2], .agg #[.int .i64 p1, .int .i64 p2]] w fun e w' => e = .returned (.int .i64 (qtr a1 a2 p1 p2)) ∧ IsGr w w' := by
  by_cases h1 : p1 < a1
  · have h1' : ¬ a1 ≤ p1 := by omega
    have h1'' : ¬ a1 < p1 := by omega
    by_cases h2 : p2 ≤ a2
    · have HR : Hid (0 = qtr a1 a2 p1 p2) := by
        unfold Hid qtr
        repeat' split
        all_goals omega
      go_enter Try.func52, Try.ntmps52
      go_wp2
      go_ret
      exact ⟨ret_int' HR.out, (by with_reducible repeat (first | exact IsGr.refl _ | refine IsGr.gr ?_ _ _ | refine IsGr.alloc ?_ _ | refine IsGr.drew ?_ | refine IsGr.drewN ?_ _))⟩
    · have HR : Hid (3 = qtr a1 a2 p1 p2) := by
        unfold Hid qtr
        repeat' split
        all_goals omega
      go_enter Try.func52, Try.ntmps52
      go_wp2
      go_ret
      exact ⟨ret_int' HR.out, (by with_reducible repeat (first | exact IsGr.refl _ | refine IsGr.gr ?_ _ _ | refine IsGr.alloc ?_ _ | refine IsGr.drew ?_ | refine IsGr.drewN ?_ _))⟩
  · have h1' : a1 ≤ p1 := by omega
    by_cases h3 : p2 < a2
    · have HR : Hid (1 = qtr a1 a2 p1 p2) := by
        unfold Hid qtr
        repeat' split
        all_goals omega
      go_enter Try.func52, Try.ntmps52
      go_wp2
      go_ret
      exact ⟨ret_int' HR.out, (by with_reducible repeat (first | exact IsGr.refl _ | refine IsGr.gr ?_ _ _ | refine IsGr.alloc ?_ _ | refine IsGr.drew ?_ | refine IsGr.drewN ?_ _))⟩
    · have h3' : a2 ≤ p2 := by omega
      by_cases h4 : a1 < p1
      · have HR : Hid (2 = qtr a1 a2 p1 p2) := by
          unfold Hid qtr
          repeat' split
          all_goals omega
        go_enter Try.func52, Try.ntmps52
        go_wp2
        go_ret
        exact ⟨ret_int' HR.out, (by with_reducible repeat (first | exact IsGr.refl _ | refine IsGr.gr ?_ _ _ | refine IsGr.alloc ?_ _ | refine IsGr.drew ?_ | refine IsGr.drewN ?_ _))⟩
      · have HR : Hid (3 = qtr a1 a2 p1 p2) := by
          unfold Hid qtr
          repeat' split
          all_goals omega
        go_enter Try.func52, Try.ntmps52
        go_wp2
        go_ret
        exact ⟨ret_int' HR.out, (by with_reducible repeat (first | exact IsGr.refl _ | refine IsGr.gr ?_ _ _ | refine IsGr.alloc ?_ _ | refine IsGr.drew ?_ | refine IsGr.drewN ?_ _))⟩
end Go.Proofs.Ytohhlhoijanjfaa
