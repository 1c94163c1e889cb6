/- gromalaw01.WideProducts: for every two Ints the law answers true. -/
import Derived.Test.YtjgkmhgaacallaaA1
import Derived.Test.YtjgkmhgaacallaaK1
import Derived.Test.YtjgkmhgaacallaaR11
namespace Go.Proofs.Ytjgkmhgaacallaa
open Go.RowKit Go.Shelf
attribute [local go_sem] Gr.size Gr.cell? Gr.frozen? Gr.setCell Gr.drew Gr.drewN Gr.of_drew Gr.of_drewN Gr.gr Gr.lt_of1 Gr.le_of1 Gr.lt_of2 Gr.le_of2 Gr.lt_of3 Gr.le_of3 Gr.lt_of4 Gr.le_of4 Gr.lt_of5 Gr.le_of5 Gr.lt_of6 Gr.le_of6 Gr.lt_of7 Gr.le_of7 Gr.lt_of8 Gr.le_of8

theorem prod_sm {x y : Int} (hx : -57896044618658097711785492504343953926634992332820282019728792003956564819968 ≤ x ∧ x < 57896044618658097711785492504343953926634992332820282019728792003956564819968) (hy : -57896044618658097711785492504343953926634992332820282019728792003956564819968 ≤ y ∧ y < 57896044618658097711785492504343953926634992332820282019728792003956564819968) : Sm (x * y) := by
  have h1 := mul_signs x y
  have a1 : 0 ≤ abs x ∧ abs x ≤ 57896044618658097711785492504343953926634992332820282019728792003956564819968 := by unfold abs; split <;> omega
  have a2 : 0 ≤ abs y ∧ abs y ≤ 57896044618658097711785492504343953926634992332820282019728792003956564819968 := by unfold abs; split <;> omega
  have h2 : abs x * abs y ≤ 57896044618658097711785492504343953926634992332820282019728792003956564819968 * abs y := Int.mul_le_mul_of_nonneg_right a1.2 a2.1
  have h3 : 0 ≤ abs x * abs y := Int.mul_nonneg a1.1 a2.1
  rw [← h1]
  unfold Sm sgn
  split <;> omega

set_option maxHeartbeats 8000000 in
theorem law_products (x0 x1 x2 x3 x y0 y1 y2 y3 y : Int) (hx : IsI x0 x1 x2 x3 x) (hy : IsI y0 y1 y2 y3 y) (w : World) :
    Calls Try.prog 3 #[.agg #[.int .u64 x0, .int .u64 x1, .int .u64 x2, .int .u64 x3], .agg #[.int .u64 y0, .int .u64 y1, .int .u64 y2, .int .u64 y3]] w fun e w' => e = .returned (.bool true) ∧ IsGr w w' := by
  have RX := fun w => Read_any hx.1 hx.2.1 hx.2.2 w
  have RY := fun w => Read_any hy.1 hy.2.1 hy.2.2 w
  have C1 := fun w => Mul_any x0 x1 x2 x3 x y0 y1 y2 y3 y hx hy w
  have sx : Sm x := by have := hx.2; unfold Sm; omega
  have sy : Sm y := by have := hy.2; unfold Sm; omega
  have s1 : Sm (x * y) := prod_sm hx.2 hy.2
  have CA := fun w => awake_any w
  clear hx hy
  go_enter Try.func3, Try.ntmps3
  go_wp2_with fail
  refine (C1 _).mono ?_
  rintro e w1 ⟨p0, p1, p2, p3, k1, rfl, T1, os1, n1, rfl⟩
  go_upto_region 2 with fail
  go_region_held3 (fun w' => (w'.cell? ⟨w.heap.size, 0, none⟩ = some (.int .u64 x0) ∧ w'.cell? ⟨w.heap.size, 1, none⟩ = some (.int .u64 x1) ∧ w'.cell? ⟨w.heap.size, 2, none⟩ = some (.int .u64 x2) ∧ w'.cell? ⟨w.heap.size, 3, none⟩ = some (.int .u64 x3)) ∧ (w'.cell? ⟨w.heap.size + 1, 0, none⟩ = some (.int .u64 y0) ∧ w'.cell? ⟨w.heap.size + 1, 1, none⟩ = some (.int .u64 y1) ∧ w'.cell? ⟨w.heap.size + 1, 2, none⟩ = some (.int .u64 y2) ∧ w'.cell? ⟨w.heap.size + 1, 3, none⟩ = some (.int .u64 y3)) ∧ (w'.cell? ⟨w.heap.size + 1 + 1 + os1.size, 0, none⟩ = some (.int .u64 p0) ∧ w'.cell? ⟨w.heap.size + 1 + 1 + os1.size, 1, none⟩ = some (.int .u64 p1) ∧ w'.cell? ⟨w.heap.size + 1 + 1 + os1.size, 2, none⟩ = some (.int .u64 p2) ∧ w'.cell? ⟨w.heap.size + 1 + 1 + os1.size, 3, none⟩ = some (.int .u64 p3))) (simp [go_sem])
    ((first | (go_at_call_of 18 (Value.int IntKind.u64 x0); refine (RX _).mono ?_; rintro e w1 ⟨u, rfl, hu, os2, n2, rfl⟩; obtain ⟨us, ua, un, uc, rfl⟩ := hu.shape) | (go_at_call_of 18 (Value.int IntKind.u64 y0); refine (RY _).mono ?_; rintro e w1 ⟨v, rfl, hv, os3, n3, rfl⟩; obtain ⟨vs, va, vn, vc, rfl⟩ := hv.shape) | (go_at_call 17; refine (BigMul_any _ _ x y _ (hu.gr ?_) (hv.gr ?_) sx sy).mono ?_; exact ⟨os3, n3, by simp only [Gr.gr, Gr.of_drew]⟩; exact ⟨#[], n3, by simp [Gr.gr]⟩; rintro e w1 ⟨t1, rfl, H1, os4, n4, rfl⟩; obtain ⟨c1s, c1a, c1n, c1c, rfl⟩ := H1.shape) | (go_at_call 16; refine (told_any T1 _ _ (H1.gr ?_) s1).mono ?_; exact ⟨#[], n4, by simp [Gr.gr]⟩; rintro e w1 ⟨rfl, os11, n11, rfl⟩) | (go_at_call 19; refine (CA _).mono ?_; rintro e w1 ⟨rfl, os7, n7, rfl⟩)))
  all_goals
    go_wp2
    go_ret
    exact ⟨rfl, (by with_reducible repeat (first | exact IsGr.refl _ | refine IsGr.gr ?_ _ _ | refine IsGr.alloc ?_ _ | refine IsGr.drew ?_ | refine IsGr.drewN ?_ _))⟩
end Go.Proofs.Ytjgkmhgaacallaa
