/- Contracts of package point over the loaded program: Circle. -/
import Derived.Test.YtohhlhoijanjfaaU7g
namespace Go.Proofs.Ytohhlhoijanjfaa
open Go.RowKit Go.Shelf
attribute [local go_sem] Gr.size Gr.cell? Gr.frozen? Gr.setCell Gr.drew Gr.drewN Gr.of_drew Gr.of_drewN Gr.gr Gr.lt_of1 Gr.le_of1 Gr.lt_of2 Gr.le_of2 Gr.lt_of3 Gr.le_of3 Gr.lt_of4 Gr.le_of4 Gr.lt_of5 Gr.le_of5 Gr.lt_of6 Gr.le_of6 Gr.lt_of7 Gr.le_of7 Gr.lt_of8 Gr.le_of8 Gr.lt_of9 Gr.le_of9 Gr.lt_of10 Gr.le_of10 Gr.lt_of11 Gr.le_of11 Gr.lt_of12 Gr.le_of12 Gr.lt_of13 Gr.le_of13 Gr.lt_of14 Gr.le_of14 Gr.lt_of15 Gr.le_of15 Gr.lt_of16 Gr.le_of16 Gr.lt_of17 Gr.le_of17 Gr.lt_of18 Gr.le_of18 Gr.lt_of19 Gr.le_of19 Gr.lt_of20 Gr.le_of20 Gr.lt_of21 Gr.le_of21 Gr.lt_of22 Gr.le_of22 Gr.lt_of23 Gr.le_of23 Gr.lt_of24 Gr.le_of24


set_option maxRecDepth 20000 in set_option maxHeartbeats 16000000 in
theorem circle_right (a1 a2 b1 b2 c1 c2 p1 p2 : Int) (h4 : right4 a1 a2 b1 b2 c1 c2 p1 p2 = true) (w : World) :
    Calls Try.prog 45 #[.agg #[.int .i64 a1, .int .i64 a2], .agg #[.int .i64 b1, .int .i64 b2], .agg #[.int .i64 c1, .int .i64 c2], .agg #[.int .i64 p1, .int .i64 p2]] w fun e w' => e = .returned (.int .i64 (circleP a1 a2 b1 b2 c1 c2 p1 p2)) ∧ IsGr w w' := by
  have CA := fun g w (h : Pts w (.slice (some ⟨g, 0, none⟩) 4 4) [(a1, a2), (b1, b2), (c1, c2), (p1, p2)]) => allRight_any _ 4 4 _ w h (by omega)
  rw [allR_four, h4] at CA
  obtain ⟨ha, hb, hc, hp⟩ := right4_t h4
  have CT := fun w => Turn_any a1 a2 b1 b2 c1 c2 w
  have Q0 := fun w => square_any p1 p2 a1 a2 hp ha w
  have N0 := fun w => turn_any p1 p2 b1 b2 c1 c2 hp hb hc w
  have b0' := lift_bound hp ha hb hc
  have P0 : ∀ (x0 x1 x2 x3 y0 y1 y2 y3 : Int) (_ : IsI x0 x1 x2 x3 (squareI p1 p2 a1 a2)) (_ : IsI y0 y1 y2 y3 (turnI p1 p2 b1 b2 c1 c2)) w, Calls Try.prog 84 #[.agg #[.int .u64 x0, .int .u64 x1, .int .u64 x2, .int .u64 x3], .agg #[.int .u64 y0, .int .u64 y1, .int .u64 y2, .int .u64 y3]] w fun e w' => ∃ s0 s1 s2 s3 : Int, e = .returned (.agg #[.int .u64 s0, .int .u64 s1, .int .u64 s2, .int .u64 s3]) ∧ IsI s0 s1 s2 s3 (liftP p1 p2 a1 a2 b1 b2 c1 c2) ∧ IsGr w w' := fun x0 x1 x2 x3 y0 y1 y2 y3 hx hy w => product_any x0 x1 x2 x3 _ y0 y1 y2 y3 _ hx hy (by unfold liftP at b0'; omega) w
  have Q1 := fun w => square_any p1 p2 b1 b2 hp hb w
  have N1 := fun w => turn_any p1 p2 c1 c2 a1 a2 hp hc ha w
  have b1' := lift_bound hp hb hc ha
  have P1 : ∀ (x0 x1 x2 x3 y0 y1 y2 y3 : Int) (_ : IsI x0 x1 x2 x3 (squareI p1 p2 b1 b2)) (_ : IsI y0 y1 y2 y3 (turnI p1 p2 c1 c2 a1 a2)) w, Calls Try.prog 84 #[.agg #[.int .u64 x0, .int .u64 x1, .int .u64 x2, .int .u64 x3], .agg #[.int .u64 y0, .int .u64 y1, .int .u64 y2, .int .u64 y3]] w fun e w' => ∃ s0 s1 s2 s3 : Int, e = .returned (.agg #[.int .u64 s0, .int .u64 s1, .int .u64 s2, .int .u64 s3]) ∧ IsI s0 s1 s2 s3 (liftP p1 p2 b1 b2 c1 c2 a1 a2) ∧ IsGr w w' := fun x0 x1 x2 x3 y0 y1 y2 y3 hx hy w => product_any x0 x1 x2 x3 _ y0 y1 y2 y3 _ hx hy (by unfold liftP at b1'; omega) w
  have Q2 := fun w => square_any p1 p2 c1 c2 hp hc w
  have N2 := fun w => turn_any p1 p2 a1 a2 b1 b2 hp ha hb w
  have b2' := lift_bound hp hc ha hb
  have P2 : ∀ (x0 x1 x2 x3 y0 y1 y2 y3 : Int) (_ : IsI x0 x1 x2 x3 (squareI p1 p2 c1 c2)) (_ : IsI y0 y1 y2 y3 (turnI p1 p2 a1 a2 b1 b2)) w, Calls Try.prog 84 #[.agg #[.int .u64 x0, .int .u64 x1, .int .u64 x2, .int .u64 x3], .agg #[.int .u64 y0, .int .u64 y1, .int .u64 y2, .int .u64 y3]] w fun e w' => ∃ s0 s1 s2 s3 : Int, e = .returned (.agg #[.int .u64 s0, .int .u64 s1, .int .u64 s2, .int .u64 s3]) ∧ IsI s0 s1 s2 s3 (liftP p1 p2 c1 c2 a1 a2 b1 b2) ∧ IsGr w w' := fun x0 x1 x2 x3 y0 y1 y2 y3 hx hy w => product_any x0 x1 x2 x3 _ y0 y1 y2 y3 _ hx hy (by unfold liftP at b2'; omega) w
  have HK : Hid (cmpI (circleK 3 a1 a2 b1 b2 c1 c2 p1 p2) 0 * wayP a1 a2 b1 b2 c1 c2 = circleP a1 a2 b1 b2 c1 c2 p1 p2) := by
    unfold Hid circleP; rw [if_pos h4]; simp [circleK, circleI]
  have k0 : circleK 0 a1 a2 b1 b2 c1 c2 p1 p2 = 0 := by simp [circleK]
  have bK : ∀ k, -4489733029880533764721719806104421436383024772022272 ≤ circleK k a1 a2 b1 b2 c1 c2 p1 p2 ∧ circleK k a1 a2 b1 b2 c1 c2 p1 p2 ≤ 4489733029880533764721719806104421436383024772022272 := by
    intro k; unfold circleK; repeat' split
    all_goals omega
  have M0 : ∀ (x0 x1 x2 x3 y0 y1 y2 y3 : Int) (_ : IsI x0 x1 x2 x3 (circleK 0 a1 a2 b1 b2 c1 c2 p1 p2)) (_ : IsI y0 y1 y2 y3 (liftP p1 p2 a1 a2 b1 b2 c1 c2)) w, Calls Try.prog 83 #[.agg #[.int .u64 x0, .int .u64 x1, .int .u64 x2, .int .u64 x3], .agg #[.int .u64 y0, .int .u64 y1, .int .u64 y2, .int .u64 y3]] w fun e w' => ∃ s0 s1 s2 s3 : Int, e = .returned (.agg #[.int .u64 s0, .int .u64 s1, .int .u64 s2, .int .u64 s3]) ∧ IsI s0 s1 s2 s3 (circleK 1 a1 a2 b1 b2 c1 c2 p1 p2) ∧ IsGr w w' := fun x0 x1 x2 x3 y0 y1 y2 y3 hx hy w => by
    have e : circleK 1 a1 a2 b1 b2 c1 c2 p1 p2 = circleK 0 a1 a2 b1 b2 c1 c2 p1 p2 + liftP p1 p2 a1 a2 b1 b2 c1 c2 := by simp [circleK]
    rw [e]
    exact sum_any x0 x1 x2 x3 _ y0 y1 y2 y3 _ hx hy (by have := bK 0; omega) w
  have M1 : ∀ (x0 x1 x2 x3 y0 y1 y2 y3 : Int) (_ : IsI x0 x1 x2 x3 (circleK 1 a1 a2 b1 b2 c1 c2 p1 p2)) (_ : IsI y0 y1 y2 y3 (liftP p1 p2 b1 b2 c1 c2 a1 a2)) w, Calls Try.prog 83 #[.agg #[.int .u64 x0, .int .u64 x1, .int .u64 x2, .int .u64 x3], .agg #[.int .u64 y0, .int .u64 y1, .int .u64 y2, .int .u64 y3]] w fun e w' => ∃ s0 s1 s2 s3 : Int, e = .returned (.agg #[.int .u64 s0, .int .u64 s1, .int .u64 s2, .int .u64 s3]) ∧ IsI s0 s1 s2 s3 (circleK 2 a1 a2 b1 b2 c1 c2 p1 p2) ∧ IsGr w w' := fun x0 x1 x2 x3 y0 y1 y2 y3 hx hy w => by
    have e : circleK 2 a1 a2 b1 b2 c1 c2 p1 p2 = circleK 1 a1 a2 b1 b2 c1 c2 p1 p2 + liftP p1 p2 b1 b2 c1 c2 a1 a2 := by simp [circleK]
    rw [e]
    exact sum_any x0 x1 x2 x3 _ y0 y1 y2 y3 _ hx hy (by have := bK 1; omega) w
  have M2 : ∀ (x0 x1 x2 x3 y0 y1 y2 y3 : Int) (_ : IsI x0 x1 x2 x3 (circleK 2 a1 a2 b1 b2 c1 c2 p1 p2)) (_ : IsI y0 y1 y2 y3 (liftP p1 p2 c1 c2 a1 a2 b1 b2)) w, Calls Try.prog 83 #[.agg #[.int .u64 x0, .int .u64 x1, .int .u64 x2, .int .u64 x3], .agg #[.int .u64 y0, .int .u64 y1, .int .u64 y2, .int .u64 y3]] w fun e w' => ∃ s0 s1 s2 s3 : Int, e = .returned (.agg #[.int .u64 s0, .int .u64 s1, .int .u64 s2, .int .u64 s3]) ∧ IsI s0 s1 s2 s3 (circleK 3 a1 a2 b1 b2 c1 c2 p1 p2) ∧ IsGr w w' := fun x0 x1 x2 x3 y0 y1 y2 y3 hx hy w => by
    have e : circleK 3 a1 a2 b1 b2 c1 c2 p1 p2 = circleK 2 a1 a2 b1 b2 c1 c2 p1 p2 + liftP p1 p2 c1 c2 a1 a2 b1 b2 := by simp [circleK]
    rw [e]
    exact sum_any x0 x1 x2 x3 _ y0 y1 y2 y3 _ hx hy (by have := bK 2; omega) w
  have I0 : IsI 0 0 0 0 (circleK 0 a1 a2 b1 b2 c1 c2 p1 p2) := by rw [k0]; exact IsI.zero
  have CS := fun (s0 s1 s2 s3 : Int) (hs : IsI s0 s1 s2 s3 (circleK 3 a1 a2 b1 b2 c1 c2 p1 p2)) w => Sign_any s0 s1 s2 s3 _ hs w
  have i0 := fun w => idx3_0 a1 a2 b1 b2 c1 c2 w
  have i1 := fun w => idx3_1 a1 a2 b1 b2 c1 c2 w
  have i2 := fun w => idx3_2 a1 a2 b1 b2 c1 c2 w
  obtain ⟨K1, hK1⟩ : ∃ K, cmpI (circleK 3 a1 a2 b1 b2 c1 c2 p1 p2) 0 = K := ⟨_, rfl⟩
  obtain ⟨K2, hK2⟩ : ∃ K, wayP a1 a2 b1 b2 c1 c2 = K := ⟨_, rfl⟩
  rw [hK1] at CS
  rw [hK2] at CT
  rw [hK1, hK2] at HK
  have r1 := cmpI_range (circleK 3 a1 a2 b1 b2 c1 c2 p1 p2) 0
  have r2 := wayP_range a1 a2 b1 b2 c1 c2
  rw [hK1] at r1
  rw [hK2] at r2
  obtain ⟨v1, v2⟩ : IntKind.i64.wrap (K1 * K2) = K1 * K2 ∧ Hid True := ⟨by rw [IntKind.wrap_i64]; rcases r1 with rfl | rfl | rfl <;> rcases r2 with rfl | rfl | rfl <;> rfl, trivial⟩
  clear b0' b1' b2' k0 bK ha hb hc hp h4 hK1 hK2 r1 r2 v2
  go_enter Try.func45, Try.ntmps45
  go_wp2_with fail
  refine (CA _ _ (Pts.four (by simp) (by simp [go_sem]) (by simp [go_sem]) (by simp [go_sem]) (by simp [go_sem]) (by simp [go_sem]) (by simp [go_sem]) (by simp [go_sem]) (by simp [go_sem]))).mono ?_
  rintro e w1 ⟨rfl, os1, m1, rfl⟩
  go_upto_region 4 with fail
  go_cut [9, 10] (fun t9 t10 wr => ∃ (g h : Nat), t9 = .pointer (some ⟨g, 0, none⟩) ∧ t10 = .pointer (some ⟨h, 0, none⟩) ∧ w.heap.size + 1 + 1 + 1 < g ∧ g < h ∧ h < wr.heap.size ∧ (wr.cell? ⟨g, 0, none⟩ = some (.int .i64 a1) ∧ wr.cell? ⟨g, 1, none⟩ = some (.int .i64 a2) ∧ wr.cell? ⟨g, 2, none⟩ = some (.int .i64 b1) ∧ wr.cell? ⟨g, 3, none⟩ = some (.int .i64 b2) ∧ wr.cell? ⟨g, 4, none⟩ = some (.int .i64 c1) ∧ wr.cell? ⟨g, 5, none⟩ = some (.int .i64 c2)) ∧ (wr.cell? ⟨h, 0, none⟩ = some (.int .u64 0) ∧ wr.cell? ⟨h, 1, none⟩ = some (.int .u64 0) ∧ wr.cell? ⟨h, 2, none⟩ = some (.int .u64 0) ∧ wr.cell? ⟨h, 3, none⟩ = some (.int .u64 0)) ∧ (wr.frozen? ⟨h, 0, none⟩ = false ∧ wr.frozen? ⟨h, 1, none⟩ = false ∧ wr.frozen? ⟨h, 2, none⟩ = false ∧ wr.frozen? ⟨h, 3, none⟩ = false) ∧ (wr.cell? ⟨w.heap.size, 0, none⟩ = some (.int .i64 a1) ∧ wr.cell? ⟨w.heap.size, 1, none⟩ = some (.int .i64 a2)) ∧ (wr.cell? ⟨w.heap.size + 1, 0, none⟩ = some (.int .i64 b1) ∧ wr.cell? ⟨w.heap.size + 1, 1, none⟩ = some (.int .i64 b2)) ∧ (wr.cell? ⟨w.heap.size + 1 + 1, 0, none⟩ = some (.int .i64 c1) ∧ wr.cell? ⟨w.heap.size + 1 + 1, 1, none⟩ = some (.int .i64 c2)) ∧ (wr.cell? ⟨w.heap.size + 1 + 1 + 1, 0, none⟩ = some (.int .i64 p1) ∧ wr.cell? ⟨w.heap.size + 1 + 1 + 1, 1, none⟩ = some (.int .i64 p2)) ∧ Below w.heap.size w wr)
  case first =>
    go_wp2
    go_meet
    case rel =>
      refine ⟨_, _, rfl, rfl, ?_, ?_, ?_, ?_, ?_, ?_, ?_, ?_, ?_, ?_, IsGr.below (w := w) (by with_reducible repeat (first | exact IsGr.refl _ | refine IsGr.gr ?_ _ _ | refine IsGr.alloc ?_ _ | refine IsGr.drew ?_ | refine IsGr.drewN ?_ _))⟩
      · first | omega | (simp [Gr.size]; done) | (simp [Gr.size]; omega)
      · first | omega | (simp [Gr.size]; done) | (simp [Gr.size]; omega)
      · first | omega | (simp [Gr.size]; done) | (simp [Gr.size]; omega)
      all_goals simp [go_sem]
  case rest =>
    obtain ⟨g, h, rfl, rfl, kg0, kgh, kh, ⟨g0, g1, g2, g3, g4, g5⟩, ⟨z0, z1, z2, z3⟩, ⟨f0, f1, f2, f3⟩, ⟨a1', a2'⟩, ⟨b1', b2'⟩, ⟨c1', c2'⟩, ⟨p1', p2'⟩, hbe⟩ := hcut
    obtain ⟨W1, hW1⟩ : ∃ W1, W1 = wc := ⟨_, rfl⟩
    subst hW1
    have HBe : Hid (Below w.heap.size w W1) := hbe
    have N4 : Hid (w.heap.size + 1 + 1 + 1 < g ∧ g < h ∧ h < W1.heap.size) := ⟨kg0, kgh, kh⟩
    clear hbe kg0 kgh kh CA
    go_wp2
    go_loopw [27] (fun t27 wr => ∃ (k : Nat) (s0 s1 s2 s3 : Int), k ≤ 3 ∧ t27 = .int .i64 k ∧ IsI s0 s1 s2 s3 (circleK k a1 a2 b1 b2 c1 c2 p1 p2) ∧ (wr.cell? ⟨h, 0, none⟩ = some (.int .u64 s0) ∧ wr.cell? ⟨h, 1, none⟩ = some (.int .u64 s1) ∧ wr.cell? ⟨h, 2, none⟩ = some (.int .u64 s2) ∧ wr.cell? ⟨h, 3, none⟩ = some (.int .u64 s3)) ∧ (wr.frozen? ⟨h, 0, none⟩ = false ∧ wr.frozen? ⟨h, 1, none⟩ = false ∧ wr.frozen? ⟨h, 2, none⟩ = false ∧ wr.frozen? ⟨h, 3, none⟩ = false) ∧ (wr.cell? ⟨g, 0, none⟩ = some (.int .i64 a1) ∧ wr.cell? ⟨g, 1, none⟩ = some (.int .i64 a2) ∧ wr.cell? ⟨g, 2, none⟩ = some (.int .i64 b1) ∧ wr.cell? ⟨g, 3, none⟩ = some (.int .i64 b2) ∧ wr.cell? ⟨g, 4, none⟩ = some (.int .i64 c1) ∧ wr.cell? ⟨g, 5, none⟩ = some (.int .i64 c2)) ∧ (wr.cell? ⟨w.heap.size, 0, none⟩ = some (.int .i64 a1) ∧ wr.cell? ⟨w.heap.size, 1, none⟩ = some (.int .i64 a2)) ∧ (wr.cell? ⟨w.heap.size + 1, 0, none⟩ = some (.int .i64 b1) ∧ wr.cell? ⟨w.heap.size + 1, 1, none⟩ = some (.int .i64 b2)) ∧ (wr.cell? ⟨w.heap.size + 1 + 1, 0, none⟩ = some (.int .i64 c1) ∧ wr.cell? ⟨w.heap.size + 1 + 1, 1, none⟩ = some (.int .i64 c2)) ∧ (wr.cell? ⟨w.heap.size + 1 + 1 + 1, 0, none⟩ = some (.int .i64 p1) ∧ wr.cell? ⟨w.heap.size + 1 + 1 + 1, 1, none⟩ = some (.int .i64 p2)) ∧ Hid (h < wr.heap.size ∧ Below w.heap.size w wr)) (fun t27 _ => (3 - intOf t27).toNat)
    case atStart => exact ⟨0, 0, 0, 0, 0, by omega, rfl, I0, ⟨z0, z1, z2, z3⟩, ⟨f0, f1, f2, f3⟩, ⟨g0, g1, g2, g3, g4, g5⟩, ⟨a1', a2'⟩, ⟨b1', b2'⟩, ⟨c1', c2'⟩, ⟨p1', p2'⟩, ⟨N4.out.2.2, HBe.out⟩⟩
    case round =>
      clear z0 z1 z2 z3 f0 f1 f2 f3 g0 g1 g2 g3 g4 g5 a1' a2' b1' b2' c1' c2' p1' p2' I0
      obtain ⟨k, s0, s1, s2, s3, hk3, rfl, hs, ⟨z0, z1, z2, z3⟩, ⟨f0, f1, f2, f3⟩, ⟨g0, g1, g2, g3, g4, g5⟩, ⟨a1', a2'⟩, ⟨b1', b2'⟩, ⟨c1', c2'⟩, ⟨p1', p2'⟩, HW⟩ := hrel
      obtain ⟨W2, hW2⟩ : ∃ W2, W2 = wr := ⟨_, rfl⟩
      subst hW2
      have kh : h < W2.heap.size := HW.out.1
      have kg : g < W2.heap.size := by have := N4.out; omega
      have kp : w.heap.size + 1 + 1 + 1 < W2.heap.size := by have := N4.out; omega
      have kc : w.heap.size + 1 + 1 < W2.heap.size := by omega
      have kb : w.heap.size + 1 < W2.heap.size := by omega
      have ka : w.heap.size < W2.heap.size := by omega
      have n1 : ¬ h = w.heap.size := by have := N4.out; omega
      have n2 : ¬ h = w.heap.size + 1 := by have := N4.out; omega
      have n3 : ¬ h = w.heap.size + 1 + 1 := by have := N4.out; omega
      have n4 : ¬ h = w.heap.size + 1 + 1 + 1 := by have := N4.out; omega
      have n5 : ¬ h = g := by have := N4.out; omega
      obtain rfl | rfl | rfl | rfl : k = 0 ∨ k = 1 ∨ k = 2 ∨ k = 3 := by omega
      · go_upto_region 8 with fail
        go_cut [13, 14] from 28 to 51 (fun t13 t14 wx => ∃ (d e : Nat), t13 = .pointer (some ⟨d, 0, none⟩) ∧ t14 = .pointer (some ⟨e, 0, none⟩) ∧ d < wx.heap.size ∧ e < wx.heap.size ∧ (wx.cell? ⟨d, 0, none⟩ = some (.int .i64 b1) ∧ wx.cell? ⟨d, 1, none⟩ = some (.int .i64 b2)) ∧ (wx.cell? ⟨e, 0, none⟩ = some (.int .i64 c1) ∧ wx.cell? ⟨e, 1, none⟩ = some (.int .i64 c2)) ∧ (wx.cell? ⟨W2.heap.size, 0, none⟩ = some (.int .i64 a1) ∧ wx.cell? ⟨W2.heap.size, 1, none⟩ = some (.int .i64 a2)) ∧ Hid (W2.heap.size < wx.heap.size) ∧ IsGr W2 wx)
        case first =>
          go_region
          all_goals
            go_wp2
            go_meet
            case rel =>
              refine ⟨_, _, rfl, rfl, ?_, ?_, ?_, ?_, ?_, ?_, (by with_reducible repeat (first | exact IsGr.refl _ | refine IsGr.gr ?_ _ _ | refine IsGr.alloc ?_ _ | refine IsGr.drew ?_ | refine IsGr.drewN ?_ _))⟩
              · first | omega | (simp; done) | (simp; omega)
              · first | omega | (simp; done) | (simp; omega)
              · simp [go_sem]
              · simp [go_sem]
              · simp [go_sem]
              · unfold Hid; first | omega | (simp; done) | (simp; omega)
        case rest =>
          obtain ⟨d, e, rfl, rfl, kd, ke, ⟨d1, d2⟩, ⟨e1, e2⟩, ⟨q1, q2⟩, HQ, hgr⟩ := hcut
          obtain ⟨W3, hW3⟩ : ∃ W3, W3 = wc := ⟨_, rfl⟩
          subst hW3
          have kq : W2.heap.size < W3.heap.size := HQ.out
          replace z0 := hgr.cell_at kh z0
          replace z1 := hgr.cell_at kh z1
          replace z2 := hgr.cell_at kh z2
          replace z3 := hgr.cell_at kh z3
          replace g0 := hgr.cell_at kg g0
          replace g1 := hgr.cell_at kg g1
          replace g2 := hgr.cell_at kg g2
          replace g3 := hgr.cell_at kg g3
          replace g4 := hgr.cell_at kg g4
          replace g5 := hgr.cell_at kg g5
          replace a1' := hgr.cell_at ka a1'
          replace a2' := hgr.cell_at ka a2'
          replace b1' := hgr.cell_at kb b1'
          replace b2' := hgr.cell_at kb b2'
          replace c1' := hgr.cell_at kc c1'
          replace c2' := hgr.cell_at kc c2'
          replace p1' := hgr.cell_at kp p1'
          replace p2' := hgr.cell_at kp p2'
          replace f0 := hgr.frozen_at kh f0
          replace f1 := hgr.frozen_at kh f1
          replace f2 := hgr.frozen_at kh f2
          replace f3 := hgr.frozen_at kh f3
          have HB3 : Hid (Below w.heap.size w W3) := HW.out.2.trans (hgr.below.mono (by omega))
          replace kh : h < W3.heap.size := by omega
          replace kg : g < W3.heap.size := by omega
          replace kp : w.heap.size + 1 + 1 + 1 < W3.heap.size := by omega
          replace kc : w.heap.size + 1 + 1 < W3.heap.size := by omega
          replace kb : w.heap.size + 1 < W3.heap.size := by omega
          replace ka : w.heap.size < W3.heap.size := by omega
          clear HQ hgr HW
          go_upto_region 9 with fail
          refine wp_region_but (S := (fun w' => (w'.cell? ⟨h, 0, none⟩ = some (.int .u64 s0) ∧ w'.cell? ⟨h, 1, none⟩ = some (.int .u64 s1) ∧ w'.cell? ⟨h, 2, none⟩ = some (.int .u64 s2) ∧ w'.cell? ⟨h, 3, none⟩ = some (.int .u64 s3)) ∧ (w'.cell? ⟨w.heap.size + 1 + 1 + 1, 0, none⟩ = some (.int .i64 p1) ∧ w'.cell? ⟨w.heap.size + 1 + 1 + 1, 1, none⟩ = some (.int .i64 p2)) ∧ (w'.cell? ⟨W2.heap.size, 0, none⟩ = some (.int .i64 a1) ∧ w'.cell? ⟨W2.heap.size, 1, none⟩ = some (.int .i64 a2)) ∧ (w'.cell? ⟨d, 0, none⟩ = some (.int .i64 b1) ∧ w'.cell? ⟨d, 1, none⟩ = some (.int .i64 b2)) ∧ (w'.cell? ⟨e, 0, none⟩ = some (.int .i64 c1) ∧ w'.cell? ⟨e, 1, none⟩ = some (.int .i64 c2)))) (k := 10) (n := 10) (by kernel_rfl) (by kernel_rfl) (by (try dsimp only); simp [go_sem, z0, z1, z2, z3, p1', p2', q1, q2, d1, d2, e1, e2]) (fun hHeld => ?_)
          refine wpAnyH_take (i := 0) (oi := { dst := some 41, op := Op.load 44 (Operand.tmp 10), type := 44, pos := "point.go:94", after := #[], guard := none }) (v := ?_) rfl (by kernel_rfl) (by kernel_rfl) (by kernel_rfl) (fun _ _ _ h => h) (Or.inl ⟨by rfl, ?_⟩) (by assumption) ?_
          rotate_left
          · (intro w hSw; (try dsimp only at hSw); go_simp <;> with_reducible rfl)
          (try simp only [Act.put, qA, qB, qC])
          refine wpAnyH_take (i := 1) (oi := { dst := some 42, op := Op.load 24 (Operand.tmp 7), type := 24, pos := "point.go:94", after := #[], guard := none }) (v := ?_) rfl (by kernel_rfl) (by kernel_rfl) (by kernel_rfl) (fun _ _ _ h => h) (Or.inl ⟨by rfl, ?_⟩) (by assumption) ?_
          rotate_left
          · (intro w hSw; (try dsimp only at hSw); go_simp <;> with_reducible rfl)
          (try simp only [Act.put, qA, qB, qC])
          refine wpAnyH_take (i := 2) (oi := { dst := some 43, op := Op.load 24 (Operand.tmp 12), type := 24, pos := "point.go:94", after := #[], guard := none }) (v := ?_) rfl (by kernel_rfl) (by kernel_rfl) (by kernel_rfl) (fun _ _ _ h => h) (Or.inl ⟨by rfl, ?_⟩) (by assumption) ?_
          rotate_left
          · (intro w hSw; (try dsimp only at hSw); go_simp <;> with_reducible rfl)
          (try simp only [Act.put, qA, qB, qC])
          refine wpAnyH_take (i := 4) (oi := { dst := some 45, op := Op.load 24 (Operand.tmp 7), type := 24, pos := "point.go:94", after := #[], guard := none }) (v := ?_) rfl (by kernel_rfl) (by kernel_rfl) (by kernel_rfl) (fun _ _ _ h => h) (Or.inl ⟨by rfl, ?_⟩) (by assumption) ?_
          rotate_left
          · (intro w hSw; (try dsimp only at hSw); go_simp <;> with_reducible rfl)
          (try simp only [Act.put, qA, qB, qC])
          refine wpAnyH_take (i := 5) (oi := { dst := some 46, op := Op.load 24 (Operand.tmp 13), type := 24, pos := "point.go:94", after := #[], guard := none }) (v := ?_) rfl (by kernel_rfl) (by kernel_rfl) (by kernel_rfl) (fun _ _ _ h => h) (Or.inl ⟨by rfl, ?_⟩) (by assumption) ?_
          rotate_left
          · (intro w hSw; (try dsimp only at hSw); go_simp <;> with_reducible rfl)
          (try simp only [Act.put, qA, qB, qC])
          refine wpAnyH_take (i := 6) (oi := { dst := some 47, op := Op.load 24 (Operand.tmp 14), type := 24, pos := "point.go:94", after := #[], guard := none }) (v := ?_) rfl (by kernel_rfl) (by kernel_rfl) (by kernel_rfl) (fun _ _ _ h => h) (Or.inl ⟨by rfl, ?_⟩) (by assumption) ?_
          rotate_left
          · (intro w hSw; (try dsimp only at hSw); go_simp <;> with_reducible rfl)
          (try simp only [Act.put, qA, qB, qC])
          refine wpAnyH_ready (rs := [3]) (by kernel_rfl) (by simp) ?_
          refine AllReadyH.cons (o := { dst := some 44, op := Op.call { callee := Callee.value (Operand.func 85), args := #[Operand.tmp 42, Operand.tmp 43], argTypes := #[24, 24] }, type := 44, pos := "point.go:94", after := #[{ on := 1, ground := Ground.data }, { on := 2, ground := Ground.data }], guard := none }) rfl (fun K hK => ?_) ?_
          · go_simp
            refine (Q0 _).mono ?_
            rintro e' w1 ⟨x0, x1, x2, x3, rfl, hx, os1, m1, rfl⟩
            (try go_wp2_with fail)
            refine hK.out _ _ (by (try dsimp only); simp [go_sem, z0, z1, z2, z3, p1', p2', q1, q2, d1, d2, e1, e2, kh, kp, kq, kd, ke]) (fun hHeld2 => ?_)
            clear hK K hHeld
            have hHeld := hHeld2
            clear hHeld2
            (try simp only [Act.put, qA, qB, qC])
            refine wpAnyH_ready (rs := [7]) (by kernel_rfl) (by simp) ?_
            refine AllReadyH.cons (o := { dst := some 48, op := Op.call { callee := Callee.value (Operand.func 82), args := #[Operand.tmp 45, Operand.tmp 46, Operand.tmp 47], argTypes := #[24, 24, 24] }, type := 44, pos := "point.go:94", after := #[{ on := 4, ground := Ground.data }, { on := 5, ground := Ground.data }, { on := 6, ground := Ground.data }, { on := 3, ground := Ground.chain }], guard := none }) rfl (fun K hK => ?_) ?_
            · go_simp
              refine (N0 _).mono ?_
              rintro e' w1 ⟨y0, y1, y2, y3, rfl, hy, os2, m2, rfl⟩
              (try go_wp2_with fail)
              refine hK.out _ _ (by (try dsimp only); simp [go_sem, z0, z1, z2, z3, p1', p2', q1, q2, d1, d2, e1, e2, kh, kp, kq, kd, ke]) (fun hHeld2 => ?_)
              clear hK K hHeld
              have hHeld := hHeld2
              clear hHeld2
              (try simp only [Act.put, qA, qB, qC])
              refine wpAnyH_ready (rs := [8]) (by kernel_rfl) (by simp) ?_
              refine AllReadyH.cons (o := { dst := some 49, op := Op.call { callee := Callee.value (Operand.func 84), args := #[Operand.tmp 44, Operand.tmp 48], argTypes := #[44, 44] }, type := 44, pos := "point.go:94", after := #[{ on := 3, ground := Ground.data }, { on := 7, ground := Ground.data }, { on := 7, ground := Ground.chain }], guard := none }) rfl (fun K hK => ?_) ?_
              · go_simp
                refine (P0 _ _ _ _ _ _ _ _ hx hy _).mono ?_
                rintro e' w1 ⟨u0, u1, u2, u3, rfl, hu, os3, m3, rfl⟩
                (try go_wp2_with fail)
                refine hK.out _ _ (by (try dsimp only); simp [go_sem, z0, z1, z2, z3, p1', p2', q1, q2, d1, d2, e1, e2, kh, kp, kq, kd, ke]) (fun hHeld2 => ?_)
                clear hK K hHeld
                have hHeld := hHeld2
                clear hHeld2
                (try simp only [Act.put, qA, qB, qC])
                refine wpAnyH_ready (rs := [9]) (by kernel_rfl) (by simp) ?_
                refine AllReadyH.cons (o := { dst := some 50, op := Op.call { callee := Callee.value (Operand.func 83), args := #[Operand.tmp 41, Operand.tmp 49], argTypes := #[44, 44] }, type := 44, pos := "point.go:94", after := #[{ on := 0, ground := Ground.data }, { on := 8, ground := Ground.data }, { on := 8, ground := Ground.chain }], guard := none }) rfl (fun K hK => ?_) ?_
                · go_simp
                  refine (M0 _ _ _ _ _ _ _ _ hs hu _).mono ?_
                  rintro e' w1 ⟨t0, t1, t2, t3, rfl, ht, os4, m4, rfl⟩
                  (try go_wp2_with fail)
                  refine hK.out _ _ (by (try dsimp only); simp [go_sem, z0, z1, z2, z3, p1', p2', q1, q2, d1, d2, e1, e2, kh, kp, kq, kd, ke]) (fun hHeld2 => ?_)
                  clear hK K hHeld
                  have hHeld := hHeld2
                  clear hHeld2
                  (try simp only [Act.put, qA, qB, qC])
                  refine wpAnyH_done (by kernel_rfl) ?_ _
                  refine butLast_step (o := { dst := none, op := Op.store 44 (Operand.tmp 10) (Operand.tmp 50), type := 0, pos := "point.go:94", after := #[{ on := 9, ground := Ground.data }, { on := 9, ground := Ground.chain }, { on := 0, ground := Ground.phase }, { on := 1, ground := Ground.phase }, { on := 2, ground := Ground.phase }, { on := 3, ground := Ground.phase }, { on := 4, ground := Ground.phase }, { on := 5, ground := Ground.phase }, { on := 6, ground := Ground.phase }, { on := 7, ground := Ground.phase }, { on := 8, ground := Ground.phase }, { on := 9, ground := Ground.phase }], guard := none }) rfl (fun K hK => ?_)
                  go_simp
                  refine hK.out _ _ ?_
                  clear hK K
                  (try simp only [Act.put, qA, qB, qC])
                  go_wp2
                  have hbe := HB3.out
                  have hN5 := N4.out
                  go_roundw
                  case rel =>
                    refine ⟨1, t0, t1, t2, t3, by omega, by go_num, ht, ?_, ?_, ?_, ?_, ?_, ?_, ?_, ⟨?_, (by repeat (first | exact Below.refl _ _ | exact (by assumption) | refine Below.drew ?_ | refine Below.gro ?_ (by first | omega | (simp; done) | (simp; omega) | (simp [Gr.size]; omega)) _ _ | refine Below.alloc ?_ (by first | omega | (simp; done) | (simp; omega) | (simp [Gr.size]; omega)) _ | refine Below.setCell ?_ (by first | omega | (simp; done) | (simp; omega) | (simp [Gr.size]; omega)) _))⟩⟩
                    · simp [go_sem, z0, z1, z2, z3, kh]
                    · simp [go_sem, f0, f1, f2, f3, kh]
                    · simp [go_sem, g0, g1, g2, g3, g4, g5, kg]
                    · simp [go_sem, a1', a2', ka]
                    · simp [go_sem, b1', b2', kb]
                    · simp [go_sem, c1', c2', kc]
                    · simp [go_sem, p1', p2', kp]
                    · simp [Gr.size]; omega
                  case measure => simp [intOf]
                exact AllReadyH.nil
              exact AllReadyH.nil
            exact AllReadyH.nil
          exact AllReadyH.nil
      · go_upto_region 8 with fail
        go_cut [13, 14] from 28 to 51 (fun t13 t14 wx => ∃ (d e : Nat), t13 = .pointer (some ⟨d, 0, none⟩) ∧ t14 = .pointer (some ⟨e, 0, none⟩) ∧ d < wx.heap.size ∧ e < wx.heap.size ∧ (wx.cell? ⟨d, 0, none⟩ = some (.int .i64 c1) ∧ wx.cell? ⟨d, 1, none⟩ = some (.int .i64 c2)) ∧ (wx.cell? ⟨e, 0, none⟩ = some (.int .i64 a1) ∧ wx.cell? ⟨e, 1, none⟩ = some (.int .i64 a2)) ∧ (wx.cell? ⟨W2.heap.size, 0, none⟩ = some (.int .i64 b1) ∧ wx.cell? ⟨W2.heap.size, 1, none⟩ = some (.int .i64 b2)) ∧ Hid (W2.heap.size < wx.heap.size) ∧ IsGr W2 wx)
        case first =>
          go_region
          all_goals
            go_wp2
            go_meet
            case rel =>
              refine ⟨_, _, rfl, rfl, ?_, ?_, ?_, ?_, ?_, ?_, (by with_reducible repeat (first | exact IsGr.refl _ | refine IsGr.gr ?_ _ _ | refine IsGr.alloc ?_ _ | refine IsGr.drew ?_ | refine IsGr.drewN ?_ _))⟩
              · first | omega | (simp; done) | (simp; omega)
              · first | omega | (simp; done) | (simp; omega)
              · simp [go_sem]
              · simp [go_sem]
              · simp [go_sem]
              · unfold Hid; first | omega | (simp; done) | (simp; omega)
        case rest =>
          obtain ⟨d, e, rfl, rfl, kd, ke, ⟨d1, d2⟩, ⟨e1, e2⟩, ⟨q1, q2⟩, HQ, hgr⟩ := hcut
          obtain ⟨W3, hW3⟩ : ∃ W3, W3 = wc := ⟨_, rfl⟩
          subst hW3
          have kq : W2.heap.size < W3.heap.size := HQ.out
          replace z0 := hgr.cell_at kh z0
          replace z1 := hgr.cell_at kh z1
          replace z2 := hgr.cell_at kh z2
          replace z3 := hgr.cell_at kh z3
          replace g0 := hgr.cell_at kg g0
          replace g1 := hgr.cell_at kg g1
          replace g2 := hgr.cell_at kg g2
          replace g3 := hgr.cell_at kg g3
          replace g4 := hgr.cell_at kg g4
          replace g5 := hgr.cell_at kg g5
          replace a1' := hgr.cell_at ka a1'
          replace a2' := hgr.cell_at ka a2'
          replace b1' := hgr.cell_at kb b1'
          replace b2' := hgr.cell_at kb b2'
          replace c1' := hgr.cell_at kc c1'
          replace c2' := hgr.cell_at kc c2'
          replace p1' := hgr.cell_at kp p1'
          replace p2' := hgr.cell_at kp p2'
          replace f0 := hgr.frozen_at kh f0
          replace f1 := hgr.frozen_at kh f1
          replace f2 := hgr.frozen_at kh f2
          replace f3 := hgr.frozen_at kh f3
          have HB3 : Hid (Below w.heap.size w W3) := HW.out.2.trans (hgr.below.mono (by omega))
          replace kh : h < W3.heap.size := by omega
          replace kg : g < W3.heap.size := by omega
          replace kp : w.heap.size + 1 + 1 + 1 < W3.heap.size := by omega
          replace kc : w.heap.size + 1 + 1 < W3.heap.size := by omega
          replace kb : w.heap.size + 1 < W3.heap.size := by omega
          replace ka : w.heap.size < W3.heap.size := by omega
          clear HQ hgr HW
          go_upto_region 9 with fail
          refine wp_region_but (S := (fun w' => (w'.cell? ⟨h, 0, none⟩ = some (.int .u64 s0) ∧ w'.cell? ⟨h, 1, none⟩ = some (.int .u64 s1) ∧ w'.cell? ⟨h, 2, none⟩ = some (.int .u64 s2) ∧ w'.cell? ⟨h, 3, none⟩ = some (.int .u64 s3)) ∧ (w'.cell? ⟨w.heap.size + 1 + 1 + 1, 0, none⟩ = some (.int .i64 p1) ∧ w'.cell? ⟨w.heap.size + 1 + 1 + 1, 1, none⟩ = some (.int .i64 p2)) ∧ (w'.cell? ⟨W2.heap.size, 0, none⟩ = some (.int .i64 b1) ∧ w'.cell? ⟨W2.heap.size, 1, none⟩ = some (.int .i64 b2)) ∧ (w'.cell? ⟨d, 0, none⟩ = some (.int .i64 c1) ∧ w'.cell? ⟨d, 1, none⟩ = some (.int .i64 c2)) ∧ (w'.cell? ⟨e, 0, none⟩ = some (.int .i64 a1) ∧ w'.cell? ⟨e, 1, none⟩ = some (.int .i64 a2)))) (k := 10) (n := 10) (by kernel_rfl) (by kernel_rfl) (by (try dsimp only); simp [go_sem, z0, z1, z2, z3, p1', p2', q1, q2, d1, d2, e1, e2]) (fun hHeld => ?_)
          refine wpAnyH_take (i := 0) (oi := { dst := some 41, op := Op.load 44 (Operand.tmp 10), type := 44, pos := "point.go:94", after := #[], guard := none }) (v := ?_) rfl (by kernel_rfl) (by kernel_rfl) (by kernel_rfl) (fun _ _ _ h => h) (Or.inl ⟨by rfl, ?_⟩) (by assumption) ?_
          rotate_left
          · (intro w hSw; (try dsimp only at hSw); go_simp <;> with_reducible rfl)
          (try simp only [Act.put, qA, qB, qC])
          refine wpAnyH_take (i := 1) (oi := { dst := some 42, op := Op.load 24 (Operand.tmp 7), type := 24, pos := "point.go:94", after := #[], guard := none }) (v := ?_) rfl (by kernel_rfl) (by kernel_rfl) (by kernel_rfl) (fun _ _ _ h => h) (Or.inl ⟨by rfl, ?_⟩) (by assumption) ?_
          rotate_left
          · (intro w hSw; (try dsimp only at hSw); go_simp <;> with_reducible rfl)
          (try simp only [Act.put, qA, qB, qC])
          refine wpAnyH_take (i := 2) (oi := { dst := some 43, op := Op.load 24 (Operand.tmp 12), type := 24, pos := "point.go:94", after := #[], guard := none }) (v := ?_) rfl (by kernel_rfl) (by kernel_rfl) (by kernel_rfl) (fun _ _ _ h => h) (Or.inl ⟨by rfl, ?_⟩) (by assumption) ?_
          rotate_left
          · (intro w hSw; (try dsimp only at hSw); go_simp <;> with_reducible rfl)
          (try simp only [Act.put, qA, qB, qC])
          refine wpAnyH_take (i := 4) (oi := { dst := some 45, op := Op.load 24 (Operand.tmp 7), type := 24, pos := "point.go:94", after := #[], guard := none }) (v := ?_) rfl (by kernel_rfl) (by kernel_rfl) (by kernel_rfl) (fun _ _ _ h => h) (Or.inl ⟨by rfl, ?_⟩) (by assumption) ?_
          rotate_left
          · (intro w hSw; (try dsimp only at hSw); go_simp <;> with_reducible rfl)
          (try simp only [Act.put, qA, qB, qC])
          refine wpAnyH_take (i := 5) (oi := { dst := some 46, op := Op.load 24 (Operand.tmp 13), type := 24, pos := "point.go:94", after := #[], guard := none }) (v := ?_) rfl (by kernel_rfl) (by kernel_rfl) (by kernel_rfl) (fun _ _ _ h => h) (Or.inl ⟨by rfl, ?_⟩) (by assumption) ?_
          rotate_left
          · (intro w hSw; (try dsimp only at hSw); go_simp <;> with_reducible rfl)
          (try simp only [Act.put, qA, qB, qC])
          refine wpAnyH_take (i := 6) (oi := { dst := some 47, op := Op.load 24 (Operand.tmp 14), type := 24, pos := "point.go:94", after := #[], guard := none }) (v := ?_) rfl (by kernel_rfl) (by kernel_rfl) (by kernel_rfl) (fun _ _ _ h => h) (Or.inl ⟨by rfl, ?_⟩) (by assumption) ?_
          rotate_left
          · (intro w hSw; (try dsimp only at hSw); go_simp <;> with_reducible rfl)
          (try simp only [Act.put, qA, qB, qC])
          refine wpAnyH_ready (rs := [3]) (by kernel_rfl) (by simp) ?_
          refine AllReadyH.cons (o := { dst := some 44, op := Op.call { callee := Callee.value (Operand.func 85), args := #[Operand.tmp 42, Operand.tmp 43], argTypes := #[24, 24] }, type := 44, pos := "point.go:94", after := #[{ on := 1, ground := Ground.data }, { on := 2, ground := Ground.data }], guard := none }) rfl (fun K hK => ?_) ?_
          · go_simp
            refine (Q1 _).mono ?_
            rintro e' w1 ⟨x0, x1, x2, x3, rfl, hx, os1, m1, rfl⟩
            (try go_wp2_with fail)
            refine hK.out _ _ (by (try dsimp only); simp [go_sem, z0, z1, z2, z3, p1', p2', q1, q2, d1, d2, e1, e2, kh, kp, kq, kd, ke]) (fun hHeld2 => ?_)
            clear hK K hHeld
            have hHeld := hHeld2
            clear hHeld2
            (try simp only [Act.put, qA, qB, qC])
            refine wpAnyH_ready (rs := [7]) (by kernel_rfl) (by simp) ?_
            refine AllReadyH.cons (o := { dst := some 48, op := Op.call { callee := Callee.value (Operand.func 82), args := #[Operand.tmp 45, Operand.tmp 46, Operand.tmp 47], argTypes := #[24, 24, 24] }, type := 44, pos := "point.go:94", after := #[{ on := 4, ground := Ground.data }, { on := 5, ground := Ground.data }, { on := 6, ground := Ground.data }, { on := 3, ground := Ground.chain }], guard := none }) rfl (fun K hK => ?_) ?_
            · go_simp
              refine (N1 _).mono ?_
              rintro e' w1 ⟨y0, y1, y2, y3, rfl, hy, os2, m2, rfl⟩
              (try go_wp2_with fail)
              refine hK.out _ _ (by (try dsimp only); simp [go_sem, z0, z1, z2, z3, p1', p2', q1, q2, d1, d2, e1, e2, kh, kp, kq, kd, ke]) (fun hHeld2 => ?_)
              clear hK K hHeld
              have hHeld := hHeld2
              clear hHeld2
              (try simp only [Act.put, qA, qB, qC])
              refine wpAnyH_ready (rs := [8]) (by kernel_rfl) (by simp) ?_
              refine AllReadyH.cons (o := { dst := some 49, op := Op.call { callee := Callee.value (Operand.func 84), args := #[Operand.tmp 44, Operand.tmp 48], argTypes := #[44, 44] }, type := 44, pos := "point.go:94", after := #[{ on := 3, ground := Ground.data }, { on := 7, ground := Ground.data }, { on := 7, ground := Ground.chain }], guard := none }) rfl (fun K hK => ?_) ?_
              · go_simp
                refine (P1 _ _ _ _ _ _ _ _ hx hy _).mono ?_
                rintro e' w1 ⟨u0, u1, u2, u3, rfl, hu, os3, m3, rfl⟩
                (try go_wp2_with fail)
                refine hK.out _ _ (by (try dsimp only); simp [go_sem, z0, z1, z2, z3, p1', p2', q1, q2, d1, d2, e1, e2, kh, kp, kq, kd, ke]) (fun hHeld2 => ?_)
                clear hK K hHeld
                have hHeld := hHeld2
                clear hHeld2
                (try simp only [Act.put, qA, qB, qC])
                refine wpAnyH_ready (rs := [9]) (by kernel_rfl) (by simp) ?_
                refine AllReadyH.cons (o := { dst := some 50, op := Op.call { callee := Callee.value (Operand.func 83), args := #[Operand.tmp 41, Operand.tmp 49], argTypes := #[44, 44] }, type := 44, pos := "point.go:94", after := #[{ on := 0, ground := Ground.data }, { on := 8, ground := Ground.data }, { on := 8, ground := Ground.chain }], guard := none }) rfl (fun K hK => ?_) ?_
                · go_simp
                  refine (M1 _ _ _ _ _ _ _ _ hs hu _).mono ?_
                  rintro e' w1 ⟨t0, t1, t2, t3, rfl, ht, os4, m4, rfl⟩
                  (try go_wp2_with fail)
                  refine hK.out _ _ (by (try dsimp only); simp [go_sem, z0, z1, z2, z3, p1', p2', q1, q2, d1, d2, e1, e2, kh, kp, kq, kd, ke]) (fun hHeld2 => ?_)
                  clear hK K hHeld
                  have hHeld := hHeld2
                  clear hHeld2
                  (try simp only [Act.put, qA, qB, qC])
                  refine wpAnyH_done (by kernel_rfl) ?_ _
                  refine butLast_step (o := { dst := none, op := Op.store 44 (Operand.tmp 10) (Operand.tmp 50), type := 0, pos := "point.go:94", after := #[{ on := 9, ground := Ground.data }, { on := 9, ground := Ground.chain }, { on := 0, ground := Ground.phase }, { on := 1, ground := Ground.phase }, { on := 2, ground := Ground.phase }, { on := 3, ground := Ground.phase }, { on := 4, ground := Ground.phase }, { on := 5, ground := Ground.phase }, { on := 6, ground := Ground.phase }, { on := 7, ground := Ground.phase }, { on := 8, ground := Ground.phase }, { on := 9, ground := Ground.phase }], guard := none }) rfl (fun K hK => ?_)
                  go_simp
                  refine hK.out _ _ ?_
                  clear hK K
                  (try simp only [Act.put, qA, qB, qC])
                  go_wp2
                  have hbe := HB3.out
                  have hN5 := N4.out
                  go_roundw
                  case rel =>
                    refine ⟨2, t0, t1, t2, t3, by omega, by go_num, ht, ?_, ?_, ?_, ?_, ?_, ?_, ?_, ⟨?_, (by repeat (first | exact Below.refl _ _ | exact (by assumption) | refine Below.drew ?_ | refine Below.gro ?_ (by first | omega | (simp; done) | (simp; omega) | (simp [Gr.size]; omega)) _ _ | refine Below.alloc ?_ (by first | omega | (simp; done) | (simp; omega) | (simp [Gr.size]; omega)) _ | refine Below.setCell ?_ (by first | omega | (simp; done) | (simp; omega) | (simp [Gr.size]; omega)) _))⟩⟩
                    · simp [go_sem, z0, z1, z2, z3, kh]
                    · simp [go_sem, f0, f1, f2, f3, kh]
                    · simp [go_sem, g0, g1, g2, g3, g4, g5, kg]
                    · simp [go_sem, a1', a2', ka]
                    · simp [go_sem, b1', b2', kb]
                    · simp [go_sem, c1', c2', kc]
                    · simp [go_sem, p1', p2', kp]
                    · simp [Gr.size]; omega
                  case measure => simp [intOf]
                exact AllReadyH.nil
              exact AllReadyH.nil
            exact AllReadyH.nil
          exact AllReadyH.nil
      · go_upto_region 8 with fail
        go_cut [13, 14] from 28 to 51 (fun t13 t14 wx => ∃ (d e : Nat), t13 = .pointer (some ⟨d, 0, none⟩) ∧ t14 = .pointer (some ⟨e, 0, none⟩) ∧ d < wx.heap.size ∧ e < wx.heap.size ∧ (wx.cell? ⟨d, 0, none⟩ = some (.int .i64 a1) ∧ wx.cell? ⟨d, 1, none⟩ = some (.int .i64 a2)) ∧ (wx.cell? ⟨e, 0, none⟩ = some (.int .i64 b1) ∧ wx.cell? ⟨e, 1, none⟩ = some (.int .i64 b2)) ∧ (wx.cell? ⟨W2.heap.size, 0, none⟩ = some (.int .i64 c1) ∧ wx.cell? ⟨W2.heap.size, 1, none⟩ = some (.int .i64 c2)) ∧ Hid (W2.heap.size < wx.heap.size) ∧ IsGr W2 wx)
        case first =>
          go_region
          all_goals
            go_wp2
            go_meet
            case rel =>
              refine ⟨_, _, rfl, rfl, ?_, ?_, ?_, ?_, ?_, ?_, (by with_reducible repeat (first | exact IsGr.refl _ | refine IsGr.gr ?_ _ _ | refine IsGr.alloc ?_ _ | refine IsGr.drew ?_ | refine IsGr.drewN ?_ _))⟩
              · first | omega | (simp; done) | (simp; omega)
              · first | omega | (simp; done) | (simp; omega)
              · simp [go_sem]
              · simp [go_sem]
              · simp [go_sem]
              · unfold Hid; first | omega | (simp; done) | (simp; omega)
        case rest =>
          obtain ⟨d, e, rfl, rfl, kd, ke, ⟨d1, d2⟩, ⟨e1, e2⟩, ⟨q1, q2⟩, HQ, hgr⟩ := hcut
          obtain ⟨W3, hW3⟩ : ∃ W3, W3 = wc := ⟨_, rfl⟩
          subst hW3
          have kq : W2.heap.size < W3.heap.size := HQ.out
          replace z0 := hgr.cell_at kh z0
          replace z1 := hgr.cell_at kh z1
          replace z2 := hgr.cell_at kh z2
          replace z3 := hgr.cell_at kh z3
          replace g0 := hgr.cell_at kg g0
          replace g1 := hgr.cell_at kg g1
          replace g2 := hgr.cell_at kg g2
          replace g3 := hgr.cell_at kg g3
          replace g4 := hgr.cell_at kg g4
          replace g5 := hgr.cell_at kg g5
          replace a1' := hgr.cell_at ka a1'
          replace a2' := hgr.cell_at ka a2'
          replace b1' := hgr.cell_at kb b1'
          replace b2' := hgr.cell_at kb b2'
          replace c1' := hgr.cell_at kc c1'
          replace c2' := hgr.cell_at kc c2'
          replace p1' := hgr.cell_at kp p1'
          replace p2' := hgr.cell_at kp p2'
          replace f0 := hgr.frozen_at kh f0
          replace f1 := hgr.frozen_at kh f1
          replace f2 := hgr.frozen_at kh f2
          replace f3 := hgr.frozen_at kh f3
          have HB3 : Hid (Below w.heap.size w W3) := HW.out.2.trans (hgr.below.mono (by omega))
          replace kh : h < W3.heap.size := by omega
          replace kg : g < W3.heap.size := by omega
          replace kp : w.heap.size + 1 + 1 + 1 < W3.heap.size := by omega
          replace kc : w.heap.size + 1 + 1 < W3.heap.size := by omega
          replace kb : w.heap.size + 1 < W3.heap.size := by omega
          replace ka : w.heap.size < W3.heap.size := by omega
          clear HQ hgr HW
          go_upto_region 9 with fail
          refine wp_region_but (S := (fun w' => (w'.cell? ⟨h, 0, none⟩ = some (.int .u64 s0) ∧ w'.cell? ⟨h, 1, none⟩ = some (.int .u64 s1) ∧ w'.cell? ⟨h, 2, none⟩ = some (.int .u64 s2) ∧ w'.cell? ⟨h, 3, none⟩ = some (.int .u64 s3)) ∧ (w'.cell? ⟨w.heap.size + 1 + 1 + 1, 0, none⟩ = some (.int .i64 p1) ∧ w'.cell? ⟨w.heap.size + 1 + 1 + 1, 1, none⟩ = some (.int .i64 p2)) ∧ (w'.cell? ⟨W2.heap.size, 0, none⟩ = some (.int .i64 c1) ∧ w'.cell? ⟨W2.heap.size, 1, none⟩ = some (.int .i64 c2)) ∧ (w'.cell? ⟨d, 0, none⟩ = some (.int .i64 a1) ∧ w'.cell? ⟨d, 1, none⟩ = some (.int .i64 a2)) ∧ (w'.cell? ⟨e, 0, none⟩ = some (.int .i64 b1) ∧ w'.cell? ⟨e, 1, none⟩ = some (.int .i64 b2)))) (k := 10) (n := 10) (by kernel_rfl) (by kernel_rfl) (by (try dsimp only); simp [go_sem, z0, z1, z2, z3, p1', p2', q1, q2, d1, d2, e1, e2]) (fun hHeld => ?_)
          refine wpAnyH_take (i := 0) (oi := { dst := some 41, op := Op.load 44 (Operand.tmp 10), type := 44, pos := "point.go:94", after := #[], guard := none }) (v := ?_) rfl (by kernel_rfl) (by kernel_rfl) (by kernel_rfl) (fun _ _ _ h => h) (Or.inl ⟨by rfl, ?_⟩) (by assumption) ?_
          rotate_left
          · (intro w hSw; (try dsimp only at hSw); go_simp <;> with_reducible rfl)
          (try simp only [Act.put, qA, qB, qC])
          refine wpAnyH_take (i := 1) (oi := { dst := some 42, op := Op.load 24 (Operand.tmp 7), type := 24, pos := "point.go:94", after := #[], guard := none }) (v := ?_) rfl (by kernel_rfl) (by kernel_rfl) (by kernel_rfl) (fun _ _ _ h => h) (Or.inl ⟨by rfl, ?_⟩) (by assumption) ?_
          rotate_left
          · (intro w hSw; (try dsimp only at hSw); go_simp <;> with_reducible rfl)
          (try simp only [Act.put, qA, qB, qC])
          refine wpAnyH_take (i := 2) (oi := { dst := some 43, op := Op.load 24 (Operand.tmp 12), type := 24, pos := "point.go:94", after := #[], guard := none }) (v := ?_) rfl (by kernel_rfl) (by kernel_rfl) (by kernel_rfl) (fun _ _ _ h => h) (Or.inl ⟨by rfl, ?_⟩) (by assumption) ?_
          rotate_left
          · (intro w hSw; (try dsimp only at hSw); go_simp <;> with_reducible rfl)
          (try simp only [Act.put, qA, qB, qC])
          refine wpAnyH_take (i := 4) (oi := { dst := some 45, op := Op.load 24 (Operand.tmp 7), type := 24, pos := "point.go:94", after := #[], guard := none }) (v := ?_) rfl (by kernel_rfl) (by kernel_rfl) (by kernel_rfl) (fun _ _ _ h => h) (Or.inl ⟨by rfl, ?_⟩) (by assumption) ?_
          rotate_left
          · (intro w hSw; (try dsimp only at hSw); go_simp <;> with_reducible rfl)
          (try simp only [Act.put, qA, qB, qC])
          refine wpAnyH_take (i := 5) (oi := { dst := some 46, op := Op.load 24 (Operand.tmp 13), type := 24, pos := "point.go:94", after := #[], guard := none }) (v := ?_) rfl (by kernel_rfl) (by kernel_rfl) (by kernel_rfl) (fun _ _ _ h => h) (Or.inl ⟨by rfl, ?_⟩) (by assumption) ?_
          rotate_left
          · (intro w hSw; (try dsimp only at hSw); go_simp <;> with_reducible rfl)
          (try simp only [Act.put, qA, qB, qC])
          refine wpAnyH_take (i := 6) (oi := { dst := some 47, op := Op.load 24 (Operand.tmp 14), type := 24, pos := "point.go:94", after := #[], guard := none }) (v := ?_) rfl (by kernel_rfl) (by kernel_rfl) (by kernel_rfl) (fun _ _ _ h => h) (Or.inl ⟨by rfl, ?_⟩) (by assumption) ?_
          rotate_left
          · (intro w hSw; (try dsimp only at hSw); go_simp <;> with_reducible rfl)
          (try simp only [Act.put, qA, qB, qC])
          refine wpAnyH_ready (rs := [3]) (by kernel_rfl) (by simp) ?_
          refine AllReadyH.cons (o := { dst := some 44, op := Op.call { callee := Callee.value (Operand.func 85), args := #[Operand.tmp 42, Operand.tmp 43], argTypes := #[24, 24] }, type := 44, pos := "point.go:94", after := #[{ on := 1, ground := Ground.data }, { on := 2, ground := Ground.data }], guard := none }) rfl (fun K hK => ?_) ?_
          · go_simp
            refine (Q2 _).mono ?_
            rintro e' w1 ⟨x0, x1, x2, x3, rfl, hx, os1, m1, rfl⟩
            (try go_wp2_with fail)
            refine hK.out _ _ (by (try dsimp only); simp [go_sem, z0, z1, z2, z3, p1', p2', q1, q2, d1, d2, e1, e2, kh, kp, kq, kd, ke]) (fun hHeld2 => ?_)
            clear hK K hHeld
            have hHeld := hHeld2
            clear hHeld2
            (try simp only [Act.put, qA, qB, qC])
            refine wpAnyH_ready (rs := [7]) (by kernel_rfl) (by simp) ?_
            refine AllReadyH.cons (o := { dst := some 48, op := Op.call { callee := Callee.value (Operand.func 82), args := #[Operand.tmp 45, Operand.tmp 46, Operand.tmp 47], argTypes := #[24, 24, 24] }, type := 44, pos := "point.go:94", after := #[{ on := 4, ground := Ground.data }, { on := 5, ground := Ground.data }, { on := 6, ground := Ground.data }, { on := 3, ground := Ground.chain }], guard := none }) rfl (fun K hK => ?_) ?_
            · go_simp
              refine (N2 _).mono ?_
              rintro e' w1 ⟨y0, y1, y2, y3, rfl, hy, os2, m2, rfl⟩
              (try go_wp2_with fail)
              refine hK.out _ _ (by (try dsimp only); simp [go_sem, z0, z1, z2, z3, p1', p2', q1, q2, d1, d2, e1, e2, kh, kp, kq, kd, ke]) (fun hHeld2 => ?_)
              clear hK K hHeld
              have hHeld := hHeld2
              clear hHeld2
              (try simp only [Act.put, qA, qB, qC])
              refine wpAnyH_ready (rs := [8]) (by kernel_rfl) (by simp) ?_
              refine AllReadyH.cons (o := { dst := some 49, op := Op.call { callee := Callee.value (Operand.func 84), args := #[Operand.tmp 44, Operand.tmp 48], argTypes := #[44, 44] }, type := 44, pos := "point.go:94", after := #[{ on := 3, ground := Ground.data }, { on := 7, ground := Ground.data }, { on := 7, ground := Ground.chain }], guard := none }) rfl (fun K hK => ?_) ?_
              · go_simp
                refine (P2 _ _ _ _ _ _ _ _ hx hy _).mono ?_
                rintro e' w1 ⟨u0, u1, u2, u3, rfl, hu, os3, m3, rfl⟩
                (try go_wp2_with fail)
                refine hK.out _ _ (by (try dsimp only); simp [go_sem, z0, z1, z2, z3, p1', p2', q1, q2, d1, d2, e1, e2, kh, kp, kq, kd, ke]) (fun hHeld2 => ?_)
                clear hK K hHeld
                have hHeld := hHeld2
                clear hHeld2
                (try simp only [Act.put, qA, qB, qC])
                refine wpAnyH_ready (rs := [9]) (by kernel_rfl) (by simp) ?_
                refine AllReadyH.cons (o := { dst := some 50, op := Op.call { callee := Callee.value (Operand.func 83), args := #[Operand.tmp 41, Operand.tmp 49], argTypes := #[44, 44] }, type := 44, pos := "point.go:94", after := #[{ on := 0, ground := Ground.data }, { on := 8, ground := Ground.data }, { on := 8, ground := Ground.chain }], guard := none }) rfl (fun K hK => ?_) ?_
                · go_simp
                  refine (M2 _ _ _ _ _ _ _ _ hs hu _).mono ?_
                  rintro e' w1 ⟨t0, t1, t2, t3, rfl, ht, os4, m4, rfl⟩
                  (try go_wp2_with fail)
                  refine hK.out _ _ (by (try dsimp only); simp [go_sem, z0, z1, z2, z3, p1', p2', q1, q2, d1, d2, e1, e2, kh, kp, kq, kd, ke]) (fun hHeld2 => ?_)
                  clear hK K hHeld
                  have hHeld := hHeld2
                  clear hHeld2
                  (try simp only [Act.put, qA, qB, qC])
                  refine wpAnyH_done (by kernel_rfl) ?_ _
                  refine butLast_step (o := { dst := none, op := Op.store 44 (Operand.tmp 10) (Operand.tmp 50), type := 0, pos := "point.go:94", after := #[{ on := 9, ground := Ground.data }, { on := 9, ground := Ground.chain }, { on := 0, ground := Ground.phase }, { on := 1, ground := Ground.phase }, { on := 2, ground := Ground.phase }, { on := 3, ground := Ground.phase }, { on := 4, ground := Ground.phase }, { on := 5, ground := Ground.phase }, { on := 6, ground := Ground.phase }, { on := 7, ground := Ground.phase }, { on := 8, ground := Ground.phase }, { on := 9, ground := Ground.phase }], guard := none }) rfl (fun K hK => ?_)
                  go_simp
                  refine hK.out _ _ ?_
                  clear hK K
                  (try simp only [Act.put, qA, qB, qC])
                  go_wp2
                  have hbe := HB3.out
                  have hN5 := N4.out
                  go_roundw
                  case rel =>
                    refine ⟨3, t0, t1, t2, t3, by omega, by go_num, ht, ?_, ?_, ?_, ?_, ?_, ?_, ?_, ⟨?_, (by repeat (first | exact Below.refl _ _ | exact (by assumption) | refine Below.drew ?_ | refine Below.gro ?_ (by first | omega | (simp; done) | (simp; omega) | (simp [Gr.size]; omega)) _ _ | refine Below.alloc ?_ (by first | omega | (simp; done) | (simp; omega) | (simp [Gr.size]; omega)) _ | refine Below.setCell ?_ (by first | omega | (simp; done) | (simp; omega) | (simp [Gr.size]; omega)) _))⟩⟩
                    · simp [go_sem, z0, z1, z2, z3, kh]
                    · simp [go_sem, f0, f1, f2, f3, kh]
                    · simp [go_sem, g0, g1, g2, g3, g4, g5, kg]
                    · simp [go_sem, a1', a2', ka]
                    · simp [go_sem, b1', b2', kb]
                    · simp [go_sem, c1', c2', kc]
                    · simp [go_sem, p1', p2', kp]
                    · simp [Gr.size]; omega
                  case measure => simp [intOf]
                exact AllReadyH.nil
              exact AllReadyH.nil
            exact AllReadyH.nil
          exact AllReadyH.nil
      · go_upto_region 11 with fail
        go_region_held3 (fun w' => (w'.cell? ⟨h, 0, none⟩ = some (.int .u64 s0) ∧ w'.cell? ⟨h, 1, none⟩ = some (.int .u64 s1) ∧ w'.cell? ⟨h, 2, none⟩ = some (.int .u64 s2) ∧ w'.cell? ⟨h, 3, none⟩ = some (.int .u64 s3)) ∧ (w'.cell? ⟨w.heap.size, 0, none⟩ = some (.int .i64 a1) ∧ w'.cell? ⟨w.heap.size, 1, none⟩ = some (.int .i64 a2)) ∧ (w'.cell? ⟨w.heap.size + 1, 0, none⟩ = some (.int .i64 b1) ∧ w'.cell? ⟨w.heap.size + 1, 1, none⟩ = some (.int .i64 b2)) ∧ (w'.cell? ⟨w.heap.size + 1 + 1, 0, none⟩ = some (.int .i64 c1) ∧ w'.cell? ⟨w.heap.size + 1 + 1, 1, none⟩ = some (.int .i64 c2))) (simp [go_sem, z0, z1, z2, z3, a1', a2', b1', b2', c1', c2', kh, ka, kb, kc])
          ((first | (go_at_call 73; refine (CS _ _ _ _ hs _).mono ?_; rintro e' w1 ⟨rfl, os1, m1, rfl⟩) | (go_at_call 44; refine (CT _).mono ?_; rintro e' w1 ⟨rfl, os2, m2, rfl⟩)))
        all_goals
          go_wp2
          go_ret
          have hbe := HW.out.2
          exact ⟨ret_int' HK.out, IsGr.of_below (by repeat (first | exact Below.refl _ _ | exact (by assumption) | refine Below.drew ?_ | refine Below.gro ?_ (by first | omega | (simp; done) | (simp; omega) | (simp [Gr.size]; omega)) _ _ | refine Below.alloc ?_ (by first | omega | (simp; done) | (simp; omega) | (simp [Gr.size]; omega)) _ | refine Below.setCell ?_ (by first | omega | (simp; done) | (simp; omega) | (simp [Gr.size]; omega)) _))⟩
end Go.Proofs.Ytohhlhoijanjfaa
