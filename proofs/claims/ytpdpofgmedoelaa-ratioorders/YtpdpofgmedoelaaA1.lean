/- The fixed answer that each statement of layer 1 asks besides. -/
import Derived.Test.YtpdpofgmedoelaaW10
import Derived.Test.YtpdpofgmedoelaaW11
import Derived.Test.YtpdpofgmedoelaaW12
namespace Go.Proofs.Ytpdpofgmedoelaa
open Go.RowKit Go.Shelf
attribute [local go_sem] Gr.size Gr.cell? Gr.frozen? Gr.setCell Gr.drew Gr.drewN Gr.of_drew Gr.of_drewN Gr.gr Gr.lt_of1 Gr.le_of1 Gr.lt_of2 Gr.le_of2 Gr.lt_of3 Gr.le_of3 Gr.lt_of4 Gr.le_of4 Gr.lt_of5 Gr.le_of5 Gr.lt_of6 Gr.le_of6 Gr.lt_of7 Gr.le_of7 Gr.lt_of8 Gr.le_of8

theorem told_of {z s0 s1 s2 s3 : Int} {ok : Bool} (h : Told z s0 s1 s2 s3 ok) (hr : -57896044618658097711785492504343953926634992332820282019728792003956564819968 ≤ z ∧ z < 57896044618658097711785492504343953926634992332820282019728792003956564819968) : ok = true ∧ IsI s0 s1 s2 s3 z := by
  rcases h with h | ⟨_, h, _⟩
  · exact h
  · exact absurd hr h
theorem div_of {x y s0 s1 s2 s3 r0 r1 r2 r3 : Int} {ok : Bool} (h : DivTold x y s0 s1 s2 s3 r0 r1 r2 r3 ok) (hx : x ≠ -57896044618658097711785492504343953926634992332820282019728792003956564819968) : ok = true ∧ IsI s0 s1 s2 s3 (x.fdiv y) ∧ IsI r0 r1 r2 r3 (x.fmod y) := by
  rcases h with h | ⟨_, h, _⟩
  · exact h
  · exact absurd h hx
theorem txt_awake : strOfNums (txt (-36893488147419103232)) = { data := #[45, 51, 54, 56, 57, 51, 52, 56, 56, 49, 52, 55, 52, 49, 57, 49, 48, 51, 50, 51, 50] } := by decide +kernel

set_option maxHeartbeats 4000000 in
theorem awake_any (w : World) : Calls Try.prog 26 #[] w fun e w' => e = .returned (.bool true) ∧ IsGr w w' := by
  have C7 := fun w => Of_any (-7) (by omega) (by omega) w
  have C2 := fun w => Of_any 2 (by omega) (by omega) w
  have C4 := fun w => Of_any (-4) (by omega) (by omega) w
  have C1 := fun w => Of_any 1 (by omega) (by omega) w
  have C62 := fun w => Of_any 4611686018427387904 (by omega) (by omega) w
  have C8 := fun w => Of_any (-8) (by omega) (by omega) w
  go_enter Try.func26, Try.ntmps26
  go_wp2_with fail
  refine (C7 _).mono ?_
  rintro e w1 ⟨a0, a1, a2, a3, rfl, ha, os1, n1, rfl⟩
  go_wp2_with fail
  refine (C2 _).mono ?_
  rintro e w1 ⟨b0, b1, b2, b3, rfl, hb, os2, n2, rfl⟩
  go_wp2_with fail
  refine (Div_any a0 a1 a2 a3 (-7) b0 b1 b2 b3 2 ha hb (by omega) _).mono ?_
  rintro e w1 ⟨q0, q1, q2, q3, r0, r1, r2, r3, ok, rfl, hD, os3, n3, rfl⟩
  obtain ⟨rfl, hq, hr⟩ := div_of hD (by omega)
  rw [show (-7 : Int).fdiv 2 = -4 by decide] at hq
  rw [show (-7 : Int).fmod 2 = 1 by decide] at hr
  clear hD ha hb
  go_wp2_with fail
  refine (C62 _).mono ?_
  rintro e w1 ⟨c0, c1, c2, c3, rfl, hc, os4, n4, rfl⟩
  go_wp2_with fail
  refine (C8 _).mono ?_
  rintro e w1 ⟨d0, d1, d2, d3, rfl, hd, os5, n5, rfl⟩
  go_wp2_with fail
  refine (Mul_any c0 c1 c2 c3 _ d0 d1 d2 d3 _ hc hd _).mono ?_
  rintro e w1 ⟨p0, p1, p2, p3, ok, rfl, hP, os6, n6, rfl⟩
  rw [show (4611686018427387904 : Int) * -8 = -36893488147419103232 by decide] at hP
  obtain ⟨rfl, hp⟩ := told_of hP (by omega)
  have CT := fun w => Text_any p0 p1 p2 p3 _ hp w
  rw [txt_awake] at CT
  have CS := fun w => Sign_any p0 p1 p2 p3 _ hp w
  rw [show cmpI (-36893488147419103232) 0 = -1 by decide] at CS
  clear hP hc hd
  go_upto_region 3 with fail
  have tok1 : True := trivial
  go_region_held3 (fun w' => (w'.cell? ⟨w.heap.size + (os1.size + (os2.size + os3.size)), 0, none⟩ = some (.int .u64 q0) ∧ w'.cell? ⟨w.heap.size + (os1.size + (os2.size + os3.size)), 1, none⟩ = some (.int .u64 q1) ∧ w'.cell? ⟨w.heap.size + (os1.size + (os2.size + os3.size)), 2, none⟩ = some (.int .u64 q2) ∧ w'.cell? ⟨w.heap.size + (os1.size + (os2.size + os3.size)), 3, none⟩ = some (.int .u64 q3)) ∧ (w'.cell? ⟨w.heap.size + (os1.size + (os2.size + os3.size)) + 1, 0, none⟩ = some (.int .u64 r0) ∧ w'.cell? ⟨w.heap.size + (os1.size + (os2.size + os3.size)) + 1, 1, none⟩ = some (.int .u64 r1) ∧ w'.cell? ⟨w.heap.size + (os1.size + (os2.size + os3.size)) + 1, 2, none⟩ = some (.int .u64 r2) ∧ w'.cell? ⟨w.heap.size + (os1.size + (os2.size + os3.size)) + 1, 3, none⟩ = some (.int .u64 r3)) ∧ (w'.cell? ⟨w.heap.size + (os1.size + (os2.size + os3.size)) + 1 + 1 + (os4.size + (os5.size + os6.size)), 0, none⟩ = some (.int .u64 p0) ∧ w'.cell? ⟨w.heap.size + (os1.size + (os2.size + os3.size)) + 1 + 1 + (os4.size + (os5.size + os6.size)), 1, none⟩ = some (.int .u64 p1) ∧ w'.cell? ⟨w.heap.size + (os1.size + (os2.size + os3.size)) + 1 + 1 + (os4.size + (os5.size + os6.size)), 2, none⟩ = some (.int .u64 p2) ∧ w'.cell? ⟨w.heap.size + (os1.size + (os2.size + os3.size)) + 1 + 1 + (os4.size + (os5.size + os6.size)), 3, none⟩ = some (.int .u64 p3))) (simp [go_sem])
    ((first | (go_at_call 33; have _t := tok1; refine (C4 _).mono ?_; rintro e w1 ⟨u0, u1, u2, u3, rfl, hu, os7, n7, rfl⟩; have he1 := fun w => eqI_t hq.1 hu.1 rfl w; clear tok1) | (go_at_call 33; refine (C1 _).mono ?_; rintro e w1 ⟨v0, v1, v2, v3, rfl, hv, os8, n8, rfl⟩; have he2 := fun w => eqI_t hr.1 hv.1 rfl w) | (go_at_call 75; refine (CT _).mono ?_; rintro e w1 ⟨rfl, os9, n9, rfl⟩) | (go_at_call 59; refine (CS _).mono ?_; rintro e w1 ⟨rfl, os10, n10, rfl⟩)))
  all_goals
    go_wp2
    go_ret
    exact ⟨rfl, (by with_reducible repeat (first | exact IsGr.refl _ | refine IsGr.gr ?_ _ _ | refine IsGr.alloc ?_ _ | refine IsGr.drew ?_ | refine IsGr.drewN ?_ _))⟩
end Go.Proofs.Ytpdpofgmedoelaa
