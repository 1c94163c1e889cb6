/- Contracts over the loaded program: gromaref03.In. -/
import Derived.Test.YtecohcgcffhlnaaU11
namespace Go.Proofs.Ytecohcgcffhlnaa
open Go.RowKit Go.Shelf
attribute [local go_sem] Gr.size Gr.cell? Gr.frozen? Gr.setCell Gr.drew Gr.drewN Gr.of_drew Gr.of_drewN Gr.gr Gr.lt_of1 Gr.le_of1 Gr.lt_of2 Gr.le_of2 Gr.lt_of3 Gr.le_of3 Gr.lt_of4 Gr.le_of4 Gr.lt_of5 Gr.le_of5 Gr.lt_of6 Gr.le_of6 Gr.lt_of7 Gr.le_of7 Gr.lt_of8 Gr.le_of8 Gr.lt_of9 Gr.le_of9 Gr.lt_of10 Gr.le_of10 Gr.lt_of11 Gr.le_of11 Gr.lt_of12 Gr.le_of12 Gr.lt_of13 Gr.le_of13 Gr.lt_of14 Gr.le_of14 Gr.lt_of15 Gr.le_of15 Gr.lt_of16 Gr.le_of16 Gr.lt_of17 Gr.le_of17 Gr.lt_of18 Gr.le_of18 Gr.lt_of19 Gr.le_of19 Gr.lt_of20 Gr.le_of20 Gr.lt_of21 Gr.le_of21 Gr.lt_of22 Gr.le_of22 Gr.lt_of23 Gr.le_of23 Gr.lt_of24 Gr.le_of24
theorem in_cases {x y z : Int} (hx : x = -1 ∨ x = 0 ∨ x = 1) (hy : y = -1 ∨ y = 0 ∨ y = 1) (hz : z = -1 ∨ z = 0 ∨ z = 1) :
    min 1 (min x (min y z)) = if x < 0 ∨ y < 0 ∨ z < 0 then -1 else if x = 0 ∨ y = 0 ∨ z = 0 then 0 else 1 := by
  rcases hx with rfl | rfl | rfl <;> rcases hy with rfl | rfl | rfl <;> rcases hz with rfl | rfl | rfl <;> decide

set_option maxRecDepth 20000 in set_option maxHeartbeats 2000000 in
theorem refIn_any (a1 a2 b1 b2 c1 c2 p1 p2 : Int) (w : World) :
    Calls Try.prog 32 #[.agg #[.int .i64 a1, .int .i64 a2], .agg #[.int .i64 b1, .int .i64 b2], .agg #[.int .i64 c1, .int .i64 c2], .agg #[.int .i64 p1, .int .i64 p2]] w fun e w' => e = .returned (.int .i64 (inP a1 a2 b1 b2 c1 c2 p1 p2)) ∧ IsGr w w' := by
  have CR := fun w => RefRight_any p1 p2 w
  have C0 := fun w => Way_any a1 a2 b1 b2 c1 c2 w
  have C1 := fun w => Way_any a1 a2 b1 b2 p1 p2 w
  have C2 := fun w => Way_any b1 b2 c1 c2 p1 p2 w
  have C3 := fun w => Way_any c1 c2 a1 a2 p1 p2 w
  have r0 := wayP_range a1 a2 b1 b2 c1 c2
  have r1 := wayP_range a1 a2 b1 b2 p1 p2
  have r2 := wayP_range b1 b2 c1 c2 p1 p2
  have r3 := wayP_range c1 c2 a1 a2 p1 p2
  obtain ⟨I, hI⟩ : ∃ I, I = inP a1 a2 b1 b2 c1 c2 p1 p2 := ⟨_, rfl⟩
  rw [← hI]
  unfold inP at hI
  generalize wayP a1 a2 b1 b2 c1 c2 = T at C0 r0 hI
  generalize wayP a1 a2 b1 b2 p1 p2 = X at C1 r1 hI
  generalize wayP b1 b2 c1 c2 p1 p2 = Y at C2 r2 hI
  generalize wayP c1 c2 a1 a2 p1 p2 = Z at C3 r3 hI
  generalize rightP p1 p2 = R at CR hI
  by_cases hT : T = 0
  · subst hT
    have HR : Hid (-1 = I) := by unfold Hid; rw [hI]; simp
    clear hI r1 r2 r3 r0
    go_enter Try.func32, Try.ntmps32
    go_wp2_with fail
    refine (C0 _).mono ?_
    rintro e w1 ⟨rfl, os1, m1, rfl⟩
    go_wp2
    go_ret
    exact ⟨ret_int' HR.out, (by with_reducible repeat (first | exact IsGr.refl _ | refine IsGr.gr ?_ _ _ | refine IsGr.alloc ?_ _ | refine IsGr.drew ?_ | refine IsGr.drewN ?_ _))⟩
  have t0 : (T == 0) = false := by simp [hT]
  cases R
  · have HR : Hid (-1 = I) := by unfold Hid; rw [hI]; simp
    clear hI r1 r2 r3 r0
    go_enter Try.func32, Try.ntmps32
    go_wp2_with fail
    refine (C0 _).mono ?_
    rintro e w1 ⟨rfl, os1, m1, rfl⟩
    go_wp2_with fail
    refine (CR _).mono ?_
    rintro e w1 ⟨rfl, os2, m2, rfl⟩
    go_wp2
    go_ret
    exact ⟨ret_int' HR.out, (by with_reducible repeat (first | exact IsGr.refl _ | refine IsGr.gr ?_ _ _ | refine IsGr.alloc ?_ _ | refine IsGr.drew ?_ | refine IsGr.drewN ?_ _))⟩
  have v1 := wrap_prod r1 r0
  have v2 := wrap_prod r2 r0
  have v3 := wrap_prod r3 r0
  obtain ⟨v1, u1⟩ := v1
  obtain ⟨v2, u2⟩ := v2
  obtain ⟨v3, u3⟩ := v3
  rw [if_neg (by simp [hT]), in_cases u1 u2 u3] at hI
  clear r1 r2 r3 r0 hT
  rcases u1 with u1 | u1 | u1 <;> (rw [u1] at hI; replace v1 := v1.trans u1)
  · have HR : Hid (-1 = I) := by unfold Hid; rw [hI]; simp
    clear hI u1 u2 u3
    go_enter Try.func32, Try.ntmps32
    go_wp2_with fail
    refine (C0 _).mono ?_
    rintro e w1 ⟨rfl, os1, m1, rfl⟩
    go_wp2_with fail
    refine (CR _).mono ?_
    rintro e w1 ⟨rfl, os2, m2, rfl⟩
    go_wp2_with fail
    refine (C1 _).mono ?_
    rintro e w1 ⟨rfl, os3, m3, rfl⟩
    go_wp2_with fail
    refine (C2 _).mono ?_
    rintro e w1 ⟨rfl, os4, m4, rfl⟩
    go_wp2_with fail
    refine (C3 _).mono ?_
    rintro e w1 ⟨rfl, os5, m5, rfl⟩
    go_wp2
    go_ret
    exact ⟨ret_int' HR.out, (by with_reducible repeat (first | exact IsGr.refl _ | refine IsGr.gr ?_ _ _ | refine IsGr.alloc ?_ _ | refine IsGr.drew ?_ | refine IsGr.drewN ?_ _))⟩
  · rcases u2 with u2 | u2 | u2 <;> (rw [u2] at hI; replace v2 := v2.trans u2)
    · have HR : Hid (-1 = I) := by unfold Hid; rw [hI]; simp
      clear hI u1 u2 u3
      go_enter Try.func32, Try.ntmps32
      go_wp2_with fail
      refine (C0 _).mono ?_
      rintro e w1 ⟨rfl, os1, m1, rfl⟩
      go_wp2_with fail
      refine (CR _).mono ?_
      rintro e w1 ⟨rfl, os2, m2, rfl⟩
      go_wp2_with fail
      refine (C1 _).mono ?_
      rintro e w1 ⟨rfl, os3, m3, rfl⟩
      go_wp2_with fail
      refine (C2 _).mono ?_
      rintro e w1 ⟨rfl, os4, m4, rfl⟩
      go_wp2_with fail
      refine (C3 _).mono ?_
      rintro e w1 ⟨rfl, os5, m5, rfl⟩
      go_wp2
      go_ret
      exact ⟨ret_int' HR.out, (by with_reducible repeat (first | exact IsGr.refl _ | refine IsGr.gr ?_ _ _ | refine IsGr.alloc ?_ _ | refine IsGr.drew ?_ | refine IsGr.drewN ?_ _))⟩
    · rcases u3 with u3 | u3 | u3 <;> (rw [u3] at hI; replace v3 := v3.trans u3)
      · have HR : Hid (-1 = I) := by unfold Hid; rw [hI]; simp
        clear hI u1 u2 u3
        go_enter Try.func32, Try.ntmps32
        go_wp2_with fail
        refine (C0 _).mono ?_
        rintro e w1 ⟨rfl, os1, m1, rfl⟩
        go_wp2_with fail
        refine (CR _).mono ?_
        rintro e w1 ⟨rfl, os2, m2, rfl⟩
        go_wp2_with fail
        refine (C1 _).mono ?_
        rintro e w1 ⟨rfl, os3, m3, rfl⟩
        go_wp2_with fail
        refine (C2 _).mono ?_
        rintro e w1 ⟨rfl, os4, m4, rfl⟩
        go_wp2_with fail
        refine (C3 _).mono ?_
        rintro e w1 ⟨rfl, os5, m5, rfl⟩
        go_wp2
        go_ret
        exact ⟨ret_int' HR.out, (by with_reducible repeat (first | exact IsGr.refl _ | refine IsGr.gr ?_ _ _ | refine IsGr.alloc ?_ _ | refine IsGr.drew ?_ | refine IsGr.drewN ?_ _))⟩
      · have HR : Hid (0 = I) := by unfold Hid; rw [hI]; simp
        clear hI u1 u2 u3
        go_enter Try.func32, Try.ntmps32
        go_wp2_with fail
        refine (C0 _).mono ?_
        rintro e w1 ⟨rfl, os1, m1, rfl⟩
        go_wp2_with fail
        refine (CR _).mono ?_
        rintro e w1 ⟨rfl, os2, m2, rfl⟩
        go_wp2_with fail
        refine (C1 _).mono ?_
        rintro e w1 ⟨rfl, os3, m3, rfl⟩
        go_wp2_with fail
        refine (C2 _).mono ?_
        rintro e w1 ⟨rfl, os4, m4, rfl⟩
        go_wp2_with fail
        refine (C3 _).mono ?_
        rintro e w1 ⟨rfl, os5, m5, rfl⟩
        go_wp2
        go_ret
        exact ⟨ret_int' HR.out, (by with_reducible repeat (first | exact IsGr.refl _ | refine IsGr.gr ?_ _ _ | refine IsGr.alloc ?_ _ | refine IsGr.drew ?_ | refine IsGr.drewN ?_ _))⟩
      · have HR : Hid (0 = I) := by unfold Hid; rw [hI]; simp
        clear hI u1 u2 u3
        go_enter Try.func32, Try.ntmps32
        go_wp2_with fail
        refine (C0 _).mono ?_
        rintro e w1 ⟨rfl, os1, m1, rfl⟩
        go_wp2_with fail
        refine (CR _).mono ?_
        rintro e w1 ⟨rfl, os2, m2, rfl⟩
        go_wp2_with fail
        refine (C1 _).mono ?_
        rintro e w1 ⟨rfl, os3, m3, rfl⟩
        go_wp2_with fail
        refine (C2 _).mono ?_
        rintro e w1 ⟨rfl, os4, m4, rfl⟩
        go_wp2_with fail
        refine (C3 _).mono ?_
        rintro e w1 ⟨rfl, os5, m5, rfl⟩
        go_wp2
        go_ret
        exact ⟨ret_int' HR.out, (by with_reducible repeat (first | exact IsGr.refl _ | refine IsGr.gr ?_ _ _ | refine IsGr.alloc ?_ _ | refine IsGr.drew ?_ | refine IsGr.drewN ?_ _))⟩
    · rcases u3 with u3 | u3 | u3 <;> (rw [u3] at hI; replace v3 := v3.trans u3)
      · have HR : Hid (-1 = I) := by unfold Hid; rw [hI]; simp
        clear hI u1 u2 u3
        go_enter Try.func32, Try.ntmps32
        go_wp2_with fail
        refine (C0 _).mono ?_
        rintro e w1 ⟨rfl, os1, m1, rfl⟩
        go_wp2_with fail
        refine (CR _).mono ?_
        rintro e w1 ⟨rfl, os2, m2, rfl⟩
        go_wp2_with fail
        refine (C1 _).mono ?_
        rintro e w1 ⟨rfl, os3, m3, rfl⟩
        go_wp2_with fail
        refine (C2 _).mono ?_
        rintro e w1 ⟨rfl, os4, m4, rfl⟩
        go_wp2_with fail
        refine (C3 _).mono ?_
        rintro e w1 ⟨rfl, os5, m5, rfl⟩
        go_wp2
        go_ret
        exact ⟨ret_int' HR.out, (by with_reducible repeat (first | exact IsGr.refl _ | refine IsGr.gr ?_ _ _ | refine IsGr.alloc ?_ _ | refine IsGr.drew ?_ | refine IsGr.drewN ?_ _))⟩
      · have HR : Hid (0 = I) := by unfold Hid; rw [hI]; simp
        clear hI u1 u2 u3
        go_enter Try.func32, Try.ntmps32
        go_wp2_with fail
        refine (C0 _).mono ?_
        rintro e w1 ⟨rfl, os1, m1, rfl⟩
        go_wp2_with fail
        refine (CR _).mono ?_
        rintro e w1 ⟨rfl, os2, m2, rfl⟩
        go_wp2_with fail
        refine (C1 _).mono ?_
        rintro e w1 ⟨rfl, os3, m3, rfl⟩
        go_wp2_with fail
        refine (C2 _).mono ?_
        rintro e w1 ⟨rfl, os4, m4, rfl⟩
        go_wp2_with fail
        refine (C3 _).mono ?_
        rintro e w1 ⟨rfl, os5, m5, rfl⟩
        go_wp2
        go_ret
        exact ⟨ret_int' HR.out, (by with_reducible repeat (first | exact IsGr.refl _ | refine IsGr.gr ?_ _ _ | refine IsGr.alloc ?_ _ | refine IsGr.drew ?_ | refine IsGr.drewN ?_ _))⟩
      · have HR : Hid (0 = I) := by unfold Hid; rw [hI]; simp
        clear hI u1 u2 u3
        go_enter Try.func32, Try.ntmps32
        go_wp2_with fail
        refine (C0 _).mono ?_
        rintro e w1 ⟨rfl, os1, m1, rfl⟩
        go_wp2_with fail
        refine (CR _).mono ?_
        rintro e w1 ⟨rfl, os2, m2, rfl⟩
        go_wp2_with fail
        refine (C1 _).mono ?_
        rintro e w1 ⟨rfl, os3, m3, rfl⟩
        go_wp2_with fail
        refine (C2 _).mono ?_
        rintro e w1 ⟨rfl, os4, m4, rfl⟩
        go_wp2_with fail
        refine (C3 _).mono ?_
        rintro e w1 ⟨rfl, os5, m5, rfl⟩
        go_wp2
        go_ret
        exact ⟨ret_int' HR.out, (by with_reducible repeat (first | exact IsGr.refl _ | refine IsGr.gr ?_ _ _ | refine IsGr.alloc ?_ _ | refine IsGr.drew ?_ | refine IsGr.drewN ?_ _))⟩
  · rcases u2 with u2 | u2 | u2 <;> (rw [u2] at hI; replace v2 := v2.trans u2)
    · have HR : Hid (-1 = I) := by unfold Hid; rw [hI]; simp
      clear hI u1 u2 u3
      go_enter Try.func32, Try.ntmps32
      go_wp2_with fail
      refine (C0 _).mono ?_
      rintro e w1 ⟨rfl, os1, m1, rfl⟩
      go_wp2_with fail
      refine (CR _).mono ?_
      rintro e w1 ⟨rfl, os2, m2, rfl⟩
      go_wp2_with fail
      refine (C1 _).mono ?_
      rintro e w1 ⟨rfl, os3, m3, rfl⟩
      go_wp2_with fail
      refine (C2 _).mono ?_
      rintro e w1 ⟨rfl, os4, m4, rfl⟩
      go_wp2_with fail
      refine (C3 _).mono ?_
      rintro e w1 ⟨rfl, os5, m5, rfl⟩
      go_wp2
      go_ret
      exact ⟨ret_int' HR.out, (by with_reducible repeat (first | exact IsGr.refl _ | refine IsGr.gr ?_ _ _ | refine IsGr.alloc ?_ _ | refine IsGr.drew ?_ | refine IsGr.drewN ?_ _))⟩
    · rcases u3 with u3 | u3 | u3 <;> (rw [u3] at hI; replace v3 := v3.trans u3)
      · have HR : Hid (-1 = I) := by unfold Hid; rw [hI]; simp
        clear hI u1 u2 u3
        go_enter Try.func32, Try.ntmps32
        go_wp2_with fail
        refine (C0 _).mono ?_
        rintro e w1 ⟨rfl, os1, m1, rfl⟩
        go_wp2_with fail
        refine (CR _).mono ?_
        rintro e w1 ⟨rfl, os2, m2, rfl⟩
        go_wp2_with fail
        refine (C1 _).mono ?_
        rintro e w1 ⟨rfl, os3, m3, rfl⟩
        go_wp2_with fail
        refine (C2 _).mono ?_
        rintro e w1 ⟨rfl, os4, m4, rfl⟩
        go_wp2_with fail
        refine (C3 _).mono ?_
        rintro e w1 ⟨rfl, os5, m5, rfl⟩
        go_wp2
        go_ret
        exact ⟨ret_int' HR.out, (by with_reducible repeat (first | exact IsGr.refl _ | refine IsGr.gr ?_ _ _ | refine IsGr.alloc ?_ _ | refine IsGr.drew ?_ | refine IsGr.drewN ?_ _))⟩
      · have HR : Hid (0 = I) := by unfold Hid; rw [hI]; simp
        clear hI u1 u2 u3
        go_enter Try.func32, Try.ntmps32
        go_wp2_with fail
        refine (C0 _).mono ?_
        rintro e w1 ⟨rfl, os1, m1, rfl⟩
        go_wp2_with fail
        refine (CR _).mono ?_
        rintro e w1 ⟨rfl, os2, m2, rfl⟩
        go_wp2_with fail
        refine (C1 _).mono ?_
        rintro e w1 ⟨rfl, os3, m3, rfl⟩
        go_wp2_with fail
        refine (C2 _).mono ?_
        rintro e w1 ⟨rfl, os4, m4, rfl⟩
        go_wp2_with fail
        refine (C3 _).mono ?_
        rintro e w1 ⟨rfl, os5, m5, rfl⟩
        go_wp2
        go_ret
        exact ⟨ret_int' HR.out, (by with_reducible repeat (first | exact IsGr.refl _ | refine IsGr.gr ?_ _ _ | refine IsGr.alloc ?_ _ | refine IsGr.drew ?_ | refine IsGr.drewN ?_ _))⟩
      · have HR : Hid (0 = I) := by unfold Hid; rw [hI]; simp
        clear hI u1 u2 u3
        go_enter Try.func32, Try.ntmps32
        go_wp2_with fail
        refine (C0 _).mono ?_
        rintro e w1 ⟨rfl, os1, m1, rfl⟩
        go_wp2_with fail
        refine (CR _).mono ?_
        rintro e w1 ⟨rfl, os2, m2, rfl⟩
        go_wp2_with fail
        refine (C1 _).mono ?_
        rintro e w1 ⟨rfl, os3, m3, rfl⟩
        go_wp2_with fail
        refine (C2 _).mono ?_
        rintro e w1 ⟨rfl, os4, m4, rfl⟩
        go_wp2_with fail
        refine (C3 _).mono ?_
        rintro e w1 ⟨rfl, os5, m5, rfl⟩
        go_wp2
        go_ret
        exact ⟨ret_int' HR.out, (by with_reducible repeat (first | exact IsGr.refl _ | refine IsGr.gr ?_ _ _ | refine IsGr.alloc ?_ _ | refine IsGr.drew ?_ | refine IsGr.drewN ?_ _))⟩
    · rcases u3 with u3 | u3 | u3 <;> (rw [u3] at hI; replace v3 := v3.trans u3)
      · have HR : Hid (-1 = I) := by unfold Hid; rw [hI]; simp
        clear hI u1 u2 u3
        go_enter Try.func32, Try.ntmps32
        go_wp2_with fail
        refine (C0 _).mono ?_
        rintro e w1 ⟨rfl, os1, m1, rfl⟩
        go_wp2_with fail
        refine (CR _).mono ?_
        rintro e w1 ⟨rfl, os2, m2, rfl⟩
        go_wp2_with fail
        refine (C1 _).mono ?_
        rintro e w1 ⟨rfl, os3, m3, rfl⟩
        go_wp2_with fail
        refine (C2 _).mono ?_
        rintro e w1 ⟨rfl, os4, m4, rfl⟩
        go_wp2_with fail
        refine (C3 _).mono ?_
        rintro e w1 ⟨rfl, os5, m5, rfl⟩
        go_wp2
        go_ret
        exact ⟨ret_int' HR.out, (by with_reducible repeat (first | exact IsGr.refl _ | refine IsGr.gr ?_ _ _ | refine IsGr.alloc ?_ _ | refine IsGr.drew ?_ | refine IsGr.drewN ?_ _))⟩
      · have HR : Hid (0 = I) := by unfold Hid; rw [hI]; simp
        clear hI u1 u2 u3
        go_enter Try.func32, Try.ntmps32
        go_wp2_with fail
        refine (C0 _).mono ?_
        rintro e w1 ⟨rfl, os1, m1, rfl⟩
        go_wp2_with fail
        refine (CR _).mono ?_
        rintro e w1 ⟨rfl, os2, m2, rfl⟩
        go_wp2_with fail
        refine (C1 _).mono ?_
        rintro e w1 ⟨rfl, os3, m3, rfl⟩
        go_wp2_with fail
        refine (C2 _).mono ?_
        rintro e w1 ⟨rfl, os4, m4, rfl⟩
        go_wp2_with fail
        refine (C3 _).mono ?_
        rintro e w1 ⟨rfl, os5, m5, rfl⟩
        go_wp2
        go_ret
        exact ⟨ret_int' HR.out, (by with_reducible repeat (first | exact IsGr.refl _ | refine IsGr.gr ?_ _ _ | refine IsGr.alloc ?_ _ | refine IsGr.drew ?_ | refine IsGr.drewN ?_ _))⟩
      · have HR : Hid (1 = I) := by unfold Hid; rw [hI]; simp
        clear hI u1 u2 u3
        go_enter Try.func32, Try.ntmps32
        go_wp2_with fail
        refine (C0 _).mono ?_
        rintro e w1 ⟨rfl, os1, m1, rfl⟩
        go_wp2_with fail
        refine (CR _).mono ?_
        rintro e w1 ⟨rfl, os2, m2, rfl⟩
        go_wp2_with fail
        refine (C1 _).mono ?_
        rintro e w1 ⟨rfl, os3, m3, rfl⟩
        go_wp2_with fail
        refine (C2 _).mono ?_
        rintro e w1 ⟨rfl, os4, m4, rfl⟩
        go_wp2_with fail
        refine (C3 _).mono ?_
        rintro e w1 ⟨rfl, os5, m5, rfl⟩
        go_wp2
        go_ret
        exact ⟨ret_int' HR.out, (by with_reducible repeat (first | exact IsGr.refl _ | refine IsGr.gr ?_ _ _ | refine IsGr.alloc ?_ _ | refine IsGr.drew ?_ | refine IsGr.drewN ?_ _))⟩
end Go.Proofs.Ytecohcgcffhlnaa
