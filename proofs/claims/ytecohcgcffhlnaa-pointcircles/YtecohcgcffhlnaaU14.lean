/- Contracts of package gromaref03 over the loaded program: Circle. -/
import Derived.Test.YtecohcgcffhlnaaU13
import Derived.Test.YtecohcgcffhlnaaU8
import Derived.Test.YtecohcgcffhlnaaH1
namespace Go.Proofs.Ytecohcgcffhlnaa
open Go.RowKit Go.Shelf
attribute [local go_sem] Gr.size Gr.cell? Gr.frozen? Gr.setCell Gr.drew Gr.drewN Gr.of_drew Gr.of_drewN Gr.gr Gr.lt_of1 Gr.le_of1 Gr.lt_of2 Gr.le_of2 Gr.lt_of3 Gr.le_of3 Gr.lt_of4 Gr.le_of4 Gr.lt_of5 Gr.le_of5 Gr.lt_of6 Gr.le_of6 Gr.lt_of7 Gr.le_of7 Gr.lt_of8 Gr.le_of8 Gr.lt_of9 Gr.le_of9 Gr.lt_of10 Gr.le_of10 Gr.lt_of11 Gr.le_of11 Gr.lt_of12 Gr.le_of12 Gr.lt_of13 Gr.le_of13 Gr.lt_of14 Gr.le_of14 Gr.lt_of15 Gr.le_of15 Gr.lt_of16 Gr.le_of16 Gr.lt_of17 Gr.le_of17 Gr.lt_of18 Gr.le_of18 Gr.lt_of19 Gr.le_of19 Gr.lt_of20 Gr.le_of20 Gr.lt_of21 Gr.le_of21 Gr.lt_of22 Gr.le_of22 Gr.lt_of23 Gr.le_of23 Gr.lt_of24 Gr.le_of24

theorem liftQ_bound {a1 a2 : Int} (ha : rightP a1 a2 = true) : 0 ≤ liftQ a1 a2 ∧ liftQ a1 a2 ≤ 9671406556917033397649408 := by
  have ra := rightP_t ha
  have h1 := bd_sq (x := a1) (by omega)
  have h2 := bd_sq (x := a2) (by omega)
  unfold liftQ; omega
/-- The first k parts of the determinant's sum. -/
def refK (k : Nat) (a1 a2 b1 b2 c1 c2 p1 p2 : Int) : Int :=
  (if 1 ≤ k then liftQ a1 a2 * turnI b1 b2 c1 c2 p1 p2 else 0) + (if 2 ≤ k then 0 - liftQ b1 b2 * turnI a1 a2 c1 c2 p1 p2 else 0) + (if 3 ≤ k then liftQ c1 c2 * turnI a1 a2 b1 b2 p1 p2 else 0) + (if 4 ≤ k then 0 - liftQ p1 p2 * turnI a1 a2 b1 b2 c1 c2 else 0)
theorem refK_circle (a1 a2 b1 b2 c1 c2 p1 p2 : Int) : refK 4 a1 a2 b1 b2 c1 c2 p1 p2 = circleI a1 a2 b1 b2 c1 c2 p1 p2 := by
  unfold refK circleI liftP squareI turnI liftQ
  simp only [show (1 : Nat) ≤ 4 by omega, show (2 : Nat) ≤ 4 by omega, show (3 : Nat) ≤ 4 by omega, show (4 : Nat) ≤ 4 by omega, if_true]
  grind
theorem part_bound {x1 x2 a1 a2 b1 b2 c1 c2 : Int} (hx : rightP x1 x2 = true) (ha : rightP a1 a2 = true) (hb : rightP b1 b2 = true) (hc : rightP c1 c2 = true) :
    -374144419156711147060143317175368453031918731001856 ≤ liftQ x1 x2 * turnI a1 a2 b1 b2 c1 c2 ∧ liftQ x1 x2 * turnI a1 a2 b1 b2 c1 c2 ≤ 374144419156711147060143317175368453031918731001856 := by
  have h1 := liftQ_bound hx
  have h2 := turn_bound ha hb hc
  have := mul_le_of (x := liftQ x1 x2) (A := 9671406556917033397649408) (B := 38685626227668133590597632) (by omega) h2
  omega


set_option maxRecDepth 20000 in set_option maxHeartbeats 6000000 in
theorem refCircle_right (a1 a2 b1 b2 c1 c2 p1 p2 : Int) (h4 : right4 a1 a2 b1 b2 c1 c2 p1 p2 = true) (hT : wayP a1 a2 b1 b2 c1 c2 ≠ 0) (w : World) :
    Calls Try.prog 28 #[.agg #[.int .i64 a1, .int .i64 a2], .agg #[.int .i64 b1, .int .i64 b2], .agg #[.int .i64 c1, .int .i64 c2], .agg #[.int .i64 p1, .int .i64 p2]] w fun e w' => e = .returned (.int .i64 (circleP a1 a2 b1 b2 c1 c2 p1 p2)) ∧ IsGr w w' := by
  obtain ⟨ha, hb, hc, hp⟩ := right4_t h4
  have CR := fun w => RefRight_any p1 p2 w
  rw [hp] at CR
  have CW := fun w => Way_any a1 a2 b1 b2 c1 c2 w
  have F0 := fun w => RefLift_any a1 a2 ha w
  have N0 := fun w => RefTurn_any b1 b2 c1 c2 p1 p2 hb hc hp w
  have b0' := part_bound ha hb hc hp
  have l0' := liftQ_bound ha
  have t0' := turn_bound hb hc hp
  have M0 := fun u v w1 hu hv => BigMul_any u v (liftQ a1 a2) (turnI b1 b2 c1 c2 p1 p2) w1 hu hv (by unfold Sm; omega) (by unfold Sm; omega)
  have F1 := fun w => RefLift_any b1 b2 hb w
  have N1 := fun w => RefTurn_any a1 a2 c1 c2 p1 p2 ha hc hp w
  have b1' := part_bound hb ha hc hp
  have l1' := liftQ_bound hb
  have t1' := turn_bound ha hc hp
  have M1 := fun u v w1 hu hv => BigMul_any u v (liftQ b1 b2) (turnI a1 a2 c1 c2 p1 p2) w1 hu hv (by unfold Sm; omega) (by unfold Sm; omega)
  have F2 := fun w => RefLift_any c1 c2 hc w
  have N2 := fun w => RefTurn_any a1 a2 b1 b2 p1 p2 ha hb hp w
  have b2' := part_bound hc ha hb hp
  have l2' := liftQ_bound hc
  have t2' := turn_bound ha hb hp
  have M2 := fun u v w1 hu hv => BigMul_any u v (liftQ c1 c2) (turnI a1 a2 b1 b2 p1 p2) w1 hu hv (by unfold Sm; omega) (by unfold Sm; omega)
  have F3 := fun w => RefLift_any p1 p2 hp w
  have N3 := fun w => RefTurn_any a1 a2 b1 b2 c1 c2 ha hb hc w
  have b3' := part_bound hp ha hb hc
  have l3' := liftQ_bound hp
  have t3' := turn_bound ha hb hc
  have M3 := fun u v w1 hu hv => BigMul_any u v (liftQ p1 p2) (turnI a1 a2 b1 b2 c1 c2) w1 hu hv (by unfold Sm; omega) (by unfold Sm; omega)
  have bK : ∀ k, -1496577676626844588240573268701473812127674924007424 ≤ refK k a1 a2 b1 b2 c1 c2 p1 p2 ∧ refK k a1 a2 b1 b2 c1 c2 p1 p2 ≤ 1496577676626844588240573268701473812127674924007424 := by
    intro k; unfold refK; repeat' split
    all_goals omega
  have AD0 : ∀ u v w1, IsBig w1 u (refK 0 a1 a2 b1 b2 c1 c2 p1 p2) → IsBig w1 v (liftQ a1 a2 * turnI b1 b2 c1 c2 p1 p2) → Calls Try.prog 24 #[u, v] w1 fun e w' => ∃ z, e = .returned z ∧ IsBig w' z (refK 1 a1 a2 b1 b2 c1 c2 p1 p2) ∧ IsGr w1 w' := fun u v w1 hu hv => by
    have e : refK 1 a1 a2 b1 b2 c1 c2 p1 p2 = refK 0 a1 a2 b1 b2 c1 c2 p1 p2 + (liftQ a1 a2 * turnI b1 b2 c1 c2 p1 p2) := by simp [refK]
    rw [e]
    exact BigAdd_any u v _ _ w1 hu hv (by have := bK 0; unfold Sm; omega) (by unfold Sm; omega)
  have AD1 : ∀ u v w1, IsBig w1 u (refK 1 a1 a2 b1 b2 c1 c2 p1 p2) → IsBig w1 v (0 - liftQ b1 b2 * turnI a1 a2 c1 c2 p1 p2) → Calls Try.prog 24 #[u, v] w1 fun e w' => ∃ z, e = .returned z ∧ IsBig w' z (refK 2 a1 a2 b1 b2 c1 c2 p1 p2) ∧ IsGr w1 w' := fun u v w1 hu hv => by
    have e : refK 2 a1 a2 b1 b2 c1 c2 p1 p2 = refK 1 a1 a2 b1 b2 c1 c2 p1 p2 + (0 - liftQ b1 b2 * turnI a1 a2 c1 c2 p1 p2) := by simp [refK]
    rw [e]
    exact BigAdd_any u v _ _ w1 hu hv (by have := bK 1; unfold Sm; omega) (by unfold Sm; omega)
  have MI1 := fun v w1 (h : IsBig w1 v (liftQ b1 b2 * turnI a1 a2 c1 c2 p1 p2)) => Minus_any v (liftQ b1 b2 * turnI a1 a2 c1 c2 p1 p2) w1 h (by unfold Sm; omega)
  have AD2 : ∀ u v w1, IsBig w1 u (refK 2 a1 a2 b1 b2 c1 c2 p1 p2) → IsBig w1 v (liftQ c1 c2 * turnI a1 a2 b1 b2 p1 p2) → Calls Try.prog 24 #[u, v] w1 fun e w' => ∃ z, e = .returned z ∧ IsBig w' z (refK 3 a1 a2 b1 b2 c1 c2 p1 p2) ∧ IsGr w1 w' := fun u v w1 hu hv => by
    have e : refK 3 a1 a2 b1 b2 c1 c2 p1 p2 = refK 2 a1 a2 b1 b2 c1 c2 p1 p2 + (liftQ c1 c2 * turnI a1 a2 b1 b2 p1 p2) := by simp [refK]
    rw [e]
    exact BigAdd_any u v _ _ w1 hu hv (by have := bK 2; unfold Sm; omega) (by unfold Sm; omega)
  have AD3 : ∀ u v w1, IsBig w1 u (refK 3 a1 a2 b1 b2 c1 c2 p1 p2) → IsBig w1 v (0 - liftQ p1 p2 * turnI a1 a2 b1 b2 c1 c2) → Calls Try.prog 24 #[u, v] w1 fun e w' => ∃ z, e = .returned z ∧ IsBig w' z (refK 4 a1 a2 b1 b2 c1 c2 p1 p2) ∧ IsGr w1 w' := fun u v w1 hu hv => by
    have e : refK 4 a1 a2 b1 b2 c1 c2 p1 p2 = refK 3 a1 a2 b1 b2 c1 c2 p1 p2 + (0 - liftQ p1 p2 * turnI a1 a2 b1 b2 c1 c2) := by simp [refK]
    rw [e]
    exact BigAdd_any u v _ _ w1 hu hv (by have := bK 3; unfold Sm; omega) (by unfold Sm; omega)
  have MI3 := fun v w1 (h : IsBig w1 v (liftQ p1 p2 * turnI a1 a2 b1 b2 c1 c2)) => Minus_any v (liftQ p1 p2 * turnI a1 a2 b1 b2 c1 c2) w1 h (by unfold Sm; omega)
  have CS := fun v w1 (h : IsBig w1 v (refK 4 a1 a2 b1 b2 c1 c2 p1 p2)) => BigSign_any v _ w1 h (by have := bK 4; unfold Sm; omega)
  have HK : Hid (cmpI (refK 4 a1 a2 b1 b2 c1 c2 p1 p2) 0 * wayP a1 a2 b1 b2 c1 c2 = circleP a1 a2 b1 b2 c1 c2 p1 p2) := by
    unfold Hid circleP; rw [if_pos h4, refK_circle]
  obtain ⟨K1, hK1⟩ : ∃ K, cmpI (refK 4 a1 a2 b1 b2 c1 c2 p1 p2) 0 = K := ⟨_, rfl⟩
  obtain ⟨K2, hK2⟩ : ∃ K, wayP a1 a2 b1 b2 c1 c2 = K := ⟨_, rfl⟩
  have r1 := cmpI_range (refK 4 a1 a2 b1 b2 c1 c2 p1 p2) 0
  have r2 := wayP_range a1 a2 b1 b2 c1 c2
  rw [hK1] at CS r1
  rw [hK2] at CW r2 hT
  rw [hK1, hK2] at HK
  have t0 : (K2 == 0) = false := by simp [hT]
  obtain ⟨v1, v2⟩ : IntKind.i64.wrap (K1 * K2) = K1 * K2 ∧ Hid True := ⟨by rw [IntKind.wrap_i64]; rcases r1 with rfl | rfl | rfl <;> rcases r2 with rfl | rfl | rfl <;> rfl, trivial⟩
  have k0 : refK 0 a1 a2 b1 b2 c1 c2 p1 p2 = 0 := by simp [refK]
  have I0 : ∀ w1, IsBig w1 (.agg #[.bool false, .slice none 0 0]) (refK 0 a1 a2 b1 b2 c1 c2 p1 p2) := fun w1 => by rw [k0]; exact IsBig.zero w1
  generalize liftQ a1 a2 = l0 at F0 M0 AD0
  generalize turnI b1 b2 c1 c2 p1 p2 = q0 at N0 M0 AD0
  generalize liftQ b1 b2 = l1 at F1 M1 AD1 MI1
  generalize turnI a1 a2 c1 c2 p1 p2 = q1 at N1 M1 AD1 MI1
  generalize liftQ c1 c2 = l2 at F2 M2 AD2
  generalize turnI a1 a2 b1 b2 p1 p2 = q2 at N2 M2 AD2
  generalize liftQ p1 p2 = l3 at F3 M3 AD3 MI3
  generalize turnI a1 a2 b1 b2 c1 c2 = q3 at N3 M3 AD3 MI3
  generalize refK 0 a1 a2 b1 b2 c1 c2 p1 p2 = K0' at AD0 I0
  generalize refK 1 a1 a2 b1 b2 c1 c2 p1 p2 = K1' at AD0 AD1
  generalize refK 2 a1 a2 b1 b2 c1 c2 p1 p2 = K2' at AD1 AD2
  generalize refK 3 a1 a2 b1 b2 c1 c2 p1 p2 = K3' at AD2 AD3
  generalize refK 4 a1 a2 b1 b2 c1 c2 p1 p2 = K4' at AD3 CS
  obtain ⟨RK, hRK0, hRK1, hRK2, hRK3, hRK4⟩ : ∃ RK : Nat → Int, RK 0 = K0' ∧ RK 1 = K1' ∧ RK 2 = K2' ∧ RK 3 = K3' ∧ RK 4 = K4' := ⟨fun n => if n = 0 then K0' else if n = 1 then K1' else if n = 2 then K2' else if n = 3 then K3' else K4', rfl, rfl, rfl, rfl, rfl⟩
  subst hRK0 hRK1 hRK2 hRK3 hRK4
  clear b0' b1' b2' b3' l0' l1' l2' l3' t0' t1' t2' t3' bK ha hb hc hp h4 hK1 hK2 r1 r2 v2 hT k0
  go_enter Try.func28, Try.ntmps28
  go_wp2_with fail
  refine (CR _).mono ?_
  rintro e w1 ⟨rfl, os1, m1, rfl⟩
  go_wp2_with fail
  refine (CW _).mono ?_
  rintro e w1 ⟨rfl, os2, m2, rfl⟩
  go_upto_region 4 with fail
  go_cut [9, 10] (fun t9 t10 wr => ∃ (g h : Nat), t9 = .pointer (some ⟨g, 0, none⟩) ∧ t10 = .pointer (some ⟨h, 0, none⟩) ∧ w.heap.size + 1 + 1 + 1 < g ∧ g < h ∧ h < wr.heap.size ∧ (wr.cell? ⟨g, 0, none⟩ = some (.int .i64 a1) ∧ wr.cell? ⟨g, 1, none⟩ = some (.int .i64 a2) ∧ wr.cell? ⟨g, 2, none⟩ = some (.int .i64 b1) ∧ wr.cell? ⟨g, 3, none⟩ = some (.int .i64 b2) ∧ wr.cell? ⟨g, 4, none⟩ = some (.int .i64 c1) ∧ wr.cell? ⟨g, 5, none⟩ = some (.int .i64 c2) ∧ wr.cell? ⟨g, 6, none⟩ = some (.int .i64 p1) ∧ wr.cell? ⟨g, 7, none⟩ = some (.int .i64 p2)) ∧ (wr.cell? ⟨h, 0, none⟩ = some (.bool false) ∧ wr.cell? ⟨h, 1, none⟩ = some (.slice none 0 0)) ∧ (wr.frozen? ⟨h, 0, none⟩ = false ∧ wr.frozen? ⟨h, 1, none⟩ = false) ∧ (wr.cell? ⟨w.heap.size, 0, none⟩ = some (.int .i64 a1) ∧ wr.cell? ⟨w.heap.size, 1, none⟩ = some (.int .i64 a2)) ∧ (wr.cell? ⟨w.heap.size + 1, 0, none⟩ = some (.int .i64 b1) ∧ wr.cell? ⟨w.heap.size + 1, 1, none⟩ = some (.int .i64 b2)) ∧ (wr.cell? ⟨w.heap.size + 1 + 1, 0, none⟩ = some (.int .i64 c1) ∧ wr.cell? ⟨w.heap.size + 1 + 1, 1, none⟩ = some (.int .i64 c2)) ∧ Below w.heap.size w wr)
  case first =>
    clear I0
    go_wp2
    go_meet
    case rel =>
      refine ⟨_, _, rfl, rfl, ?_, ?_, ?_, ?_, ?_, ?_, ?_, ?_, ?_, IsGr.below (w := w) (by with_reducible repeat (first | exact IsGr.refl _ | refine IsGr.gr ?_ _ _ | refine IsGr.alloc ?_ _ | refine IsGr.drew ?_ | refine IsGr.drewN ?_ _))⟩
      · first | omega | (simp [Gr.size]; done) | (simp [Gr.size]; omega)
      · first | omega | (simp [Gr.size]; done) | (simp [Gr.size]; omega)
      · first | omega | (simp [Gr.size]; done) | (simp [Gr.size]; omega)
      all_goals simp [go_sem]
  case rest =>
    obtain ⟨g, h, rfl, rfl, kg0, kgh, kh, ⟨g0, g1, g2, g3, g4, g5, g6, g7⟩, ⟨z0, z1⟩, ⟨f0, f1⟩, ⟨a1', a2'⟩, ⟨b1', b2'⟩, ⟨c1', c2'⟩, hbe⟩ := hcut
    obtain ⟨W1, hW1⟩ : ∃ W1, W1 = wc := ⟨_, rfl⟩
    subst hW1
    have HBe : Hid (Below w.heap.size w W1) := hbe
    have N4 : Hid (w.heap.size + 1 + 1 + 1 < g ∧ g < h ∧ h < W1.heap.size) := ⟨kg0, kgh, kh⟩
    have J0 := I0 W1
    clear hbe kg0 kgh kh CR I0
    go_wp2
    go_loopw [11] (fun t11 wr => ∃ (k : Nat) (ss : Bool) (sa : Option Addr) (sn sc : Nat), k ≤ 4 ∧ t11 = .int .i64 k ∧ IsBig wr (.agg #[.bool ss, .slice sa sn sc]) (RK k) ∧ (wr.cell? ⟨h, 0, none⟩ = some (.bool ss) ∧ wr.cell? ⟨h, 1, none⟩ = some (.slice sa sn sc)) ∧ (wr.frozen? ⟨h, 0, none⟩ = false ∧ wr.frozen? ⟨h, 1, none⟩ = false) ∧ (wr.cell? ⟨g, 0, none⟩ = some (.int .i64 a1) ∧ wr.cell? ⟨g, 1, none⟩ = some (.int .i64 a2) ∧ wr.cell? ⟨g, 2, none⟩ = some (.int .i64 b1) ∧ wr.cell? ⟨g, 3, none⟩ = some (.int .i64 b2) ∧ wr.cell? ⟨g, 4, none⟩ = some (.int .i64 c1) ∧ wr.cell? ⟨g, 5, none⟩ = some (.int .i64 c2) ∧ wr.cell? ⟨g, 6, none⟩ = some (.int .i64 p1) ∧ wr.cell? ⟨g, 7, none⟩ = some (.int .i64 p2)) ∧ (wr.cell? ⟨w.heap.size, 0, none⟩ = some (.int .i64 a1) ∧ wr.cell? ⟨w.heap.size, 1, none⟩ = some (.int .i64 a2)) ∧ (wr.cell? ⟨w.heap.size + 1, 0, none⟩ = some (.int .i64 b1) ∧ wr.cell? ⟨w.heap.size + 1, 1, none⟩ = some (.int .i64 b2)) ∧ (wr.cell? ⟨w.heap.size + 1 + 1, 0, none⟩ = some (.int .i64 c1) ∧ wr.cell? ⟨w.heap.size + 1 + 1, 1, none⟩ = some (.int .i64 c2)) ∧ Hid (h < wr.heap.size ∧ Below w.heap.size w wr)) (fun t11 _ => (4 - intOf t11).toNat)
    case atStart => exact ⟨0, false, none, 0, 0, by omega, rfl, J0, ⟨z0, z1⟩, ⟨f0, f1⟩, ⟨g0, g1, g2, g3, g4, g5, g6, g7⟩, ⟨a1', a2'⟩, ⟨b1', b2'⟩, ⟨c1', c2'⟩, ⟨N4.out.2.2, HBe.out⟩⟩
    case round =>
      clear z0 z1 f0 f1 g0 g1 g2 g3 g4 g5 g6 g7 a1' a2' b1' b2' c1' c2' J0
      obtain ⟨k, ss, sa, sn, sc, hk3, rfl, hs, ⟨z0, z1⟩, ⟨f0, f1⟩, ⟨g0, g1, g2, g3, g4, g5, g6, g7⟩, ⟨a1', a2'⟩, ⟨b1', b2'⟩, ⟨c1', c2'⟩, HW⟩ := hrel
      obtain ⟨W2, hW2⟩ : ∃ W2, W2 = wr := ⟨_, rfl⟩
      subst hW2
      have kh : h < W2.heap.size := HW.out.1
      have kg : g < W2.heap.size := by have := N4.out; omega
      have kc : w.heap.size + 1 + 1 < W2.heap.size := by have := N4.out; omega
      have kb : w.heap.size + 1 < W2.heap.size := by omega
      have ka : w.heap.size < W2.heap.size := by omega
      have n1 : ¬ h = w.heap.size := by have := N4.out; omega
      have n2 : ¬ h = w.heap.size + 1 := by have := N4.out; omega
      have n3 : ¬ h = w.heap.size + 1 + 1 := by have := N4.out; omega
      have n5 : ¬ h = g := by have := N4.out; omega
      obtain rfl | rfl | rfl | rfl | rfl : k = 0 ∨ k = 1 ∨ k = 2 ∨ k = 3 ∨ k = 4 := by omega
      · go_wp2
        refine wp_loop_rounds 5 ?_
        rw [rounds_succ]; go_wp2
        rw [rounds_succ]; go_wp2
        rw [rounds_succ]; go_wp2
        rw [rounds_succ]; go_wp2
        rw [rounds_succ]; go_upto_region 16 with fail
        go_cut [15] from 32 to 69 (fun t15 wx => ∃ (f : Nat) (ps : Bool) (pa : Option Addr) (pn pc : Nat), t15 = .pointer (some ⟨f, 0, none⟩) ∧ W2.heap.size ≤ f ∧ f < wx.heap.size ∧ (wx.cell? ⟨f, 0, none⟩ = some (.bool ps) ∧ wx.cell? ⟨f, 1, none⟩ = some (.slice pa pn pc)) ∧ (wx.frozen? ⟨f, 0, none⟩ = false ∧ wx.frozen? ⟨f, 1, none⟩ = false) ∧ IsBig wx (.agg #[.bool ps, .slice pa pn pc]) (l0 * q0) ∧ IsGr W2 wx)
        case first =>
          refine wp_region_held_drew (S := (fun w' => (w'.cell? ⟨g, 0, none⟩ = some (.int .i64 a1) ∧ w'.cell? ⟨g, 1, none⟩ = some (.int .i64 a2)) ∧ (w'.cell? ⟨W2.heap.size, 0, none⟩ = some (.int .i64 b1) ∧ w'.cell? ⟨W2.heap.size, 1, none⟩ = some (.int .i64 b2) ∧ w'.cell? ⟨W2.heap.size, 2, none⟩ = some (.int .i64 c1) ∧ w'.cell? ⟨W2.heap.size, 3, none⟩ = some (.int .i64 c2) ∧ w'.cell? ⟨W2.heap.size, 4, none⟩ = some (.int .i64 p1) ∧ w'.cell? ⟨W2.heap.size, 5, none⟩ = some (.int .i64 p2)))) (by kernel_rfl) (by (try dsimp only); simp [go_sem, g0, g1, kg]) (fun hHeld => ?_)
          refine wpAnyH_take (i := 0) (oi := { dst := some 50, op := Op.move (Operand.tmp 11), type := 3, pos := "ref.go:69", after := #[], guard := none }) (v := ?_) rfl (by kernel_rfl) (by kernel_rfl) (by kernel_rfl) (fun _ _ _ h => h) (Or.inl ⟨by rfl, ?_⟩) (by assumption) ?_
          rotate_left
          · (intro w hSw; (try dsimp only at hSw); go_simp <;> with_reducible rfl)
          (try simp only [Act.put, List.setIfInBounds_toArray, List.set_cons_zero, List.set_cons_succ])
          refine wpAnyH_take (i := 1) (oi := { dst := some 51, op := Op.indexAddr 94 (Operand.tmp 9) (Operand.tmp 50), type := 0, pos := "ref.go:69", after := #[{ on := 0, ground := Ground.data }], guard := none }) (v := ?_) rfl (by kernel_rfl) (by kernel_rfl) (by kernel_rfl) (fun _ _ _ h => h) (Or.inl ⟨by rfl, ?_⟩) (by assumption) ?_
          rotate_left
          · (intro w hSw; (try dsimp only at hSw); go_simp <;> with_reducible rfl)
          (try simp only [Act.put, List.setIfInBounds_toArray, List.set_cons_zero, List.set_cons_succ])
          refine wpAnyH_take (i := 2) (oi := { dst := some 52, op := Op.load 55 (Operand.tmp 51), type := 55, pos := "ref.go:69", after := #[{ on := 1, ground := Ground.data }], guard := none }) (v := ?_) rfl (by kernel_rfl) (by kernel_rfl) (by kernel_rfl) (fun _ _ _ h => h) (Or.inl ⟨by rfl, ?_⟩) (by assumption) ?_
          rotate_left
          · (intro w hSw; (try dsimp only at hSw); go_simp <;> with_reducible rfl)
          (try simp only [Act.put, List.setIfInBounds_toArray, List.set_cons_zero, List.set_cons_succ])
          refine wpAnyH_take (i := 4) (oi := { dst := some 54, op := Op.indexAddr 95 (Operand.tmp 12) (Operand.const (Value.int IntKind.i64 0)), type := 0, pos := "ref.go:69", after := #[], guard := none }) (v := ?_) rfl (by kernel_rfl) (by kernel_rfl) (by kernel_rfl) (fun _ _ _ h => h) (Or.inl ⟨by rfl, ?_⟩) (by assumption) ?_
          rotate_left
          · (intro w hSw; (try dsimp only at hSw); go_simp <;> with_reducible rfl)
          (try simp only [Act.put, List.setIfInBounds_toArray, List.set_cons_zero, List.set_cons_succ])
          refine wpAnyH_take (i := 5) (oi := { dst := some 55, op := Op.load 55 (Operand.tmp 54), type := 55, pos := "ref.go:69", after := #[{ on := 4, ground := Ground.data }], guard := none }) (v := ?_) rfl (by kernel_rfl) (by kernel_rfl) (by kernel_rfl) (fun _ _ _ h => h) (Or.inl ⟨by rfl, ?_⟩) (by assumption) ?_
          rotate_left
          · (intro w hSw; (try dsimp only at hSw); go_simp <;> with_reducible rfl)
          (try simp only [Act.put, List.setIfInBounds_toArray, List.set_cons_zero, List.set_cons_succ])
          refine wpAnyH_take (i := 6) (oi := { dst := some 56, op := Op.indexAddr 95 (Operand.tmp 12) (Operand.const (Value.int IntKind.i64 1)), type := 0, pos := "ref.go:69", after := #[], guard := none }) (v := ?_) rfl (by kernel_rfl) (by kernel_rfl) (by kernel_rfl) (fun _ _ _ h => h) (Or.inl ⟨by rfl, ?_⟩) (by assumption) ?_
          rotate_left
          · (intro w hSw; (try dsimp only at hSw); go_simp <;> with_reducible rfl)
          (try simp only [Act.put, List.setIfInBounds_toArray, List.set_cons_zero, List.set_cons_succ])
          refine wpAnyH_take (i := 7) (oi := { dst := some 57, op := Op.load 55 (Operand.tmp 56), type := 55, pos := "ref.go:69", after := #[{ on := 6, ground := Ground.data }], guard := none }) (v := ?_) rfl (by kernel_rfl) (by kernel_rfl) (by kernel_rfl) (fun _ _ _ h => h) (Or.inl ⟨by rfl, ?_⟩) (by assumption) ?_
          rotate_left
          · (intro w hSw; (try dsimp only at hSw); go_simp <;> with_reducible rfl)
          (try simp only [Act.put, List.setIfInBounds_toArray, List.set_cons_zero, List.set_cons_succ])
          refine wpAnyH_take (i := 8) (oi := { dst := some 58, op := Op.indexAddr 95 (Operand.tmp 12) (Operand.const (Value.int IntKind.i64 2)), type := 0, pos := "ref.go:69", after := #[], guard := none }) (v := ?_) rfl (by kernel_rfl) (by kernel_rfl) (by kernel_rfl) (fun _ _ _ h => h) (Or.inl ⟨by rfl, ?_⟩) (by assumption) ?_
          rotate_left
          · (intro w hSw; (try dsimp only at hSw); go_simp <;> with_reducible rfl)
          (try simp only [Act.put, List.setIfInBounds_toArray, List.set_cons_zero, List.set_cons_succ])
          refine wpAnyH_take (i := 9) (oi := { dst := some 59, op := Op.load 55 (Operand.tmp 58), type := 55, pos := "ref.go:69", after := #[{ on := 8, ground := Ground.data }], guard := none }) (v := ?_) rfl (by kernel_rfl) (by kernel_rfl) (by kernel_rfl) (fun _ _ _ h => h) (Or.inl ⟨by rfl, ?_⟩) (by assumption) ?_
          rotate_left
          · (intro w hSw; (try dsimp only at hSw); go_simp <;> with_reducible rfl)
          (try simp only [Act.put, List.setIfInBounds_toArray, List.set_cons_zero, List.set_cons_succ])
          refine wpAnyH_ready (rs := [3, 12]) (by kernel_rfl) (by simp) ?_
          refine AllReadyH.cons (o := { dst := some 53, op := Op.call { callee := Callee.value (Operand.func 67), args := #[Operand.tmp 52], argTypes := #[55] }, type := 31, pos := "ref.go:69", after := #[{ on := 2, ground := Ground.data }], guard := none }) rfl (fun K hK => ?_) ?_
          · go_simp
            refine (F0 _).mono ?_
            rintro e' w1 ⟨x, rfl, hx, os1, m1, rfl⟩
            (try simp only [Gr.of_drew] at hx); (try simp only [Gr.gr] at hx); (try simp only [Array.append_assoc] at hx)
            obtain ⟨xs, xa, xn, xc, rfl⟩ := hx.shape
            (try go_wp2_with fail)
            refine hK.out _ _ (by (try dsimp only); simp [go_sem, g0, g1, kg]) (fun hHeld2 => ?_)
            clear hK K hHeld
            have hHeld := hHeld2
            clear hHeld2
            (try simp only [Act.put, List.setIfInBounds_toArray, List.set_cons_zero, List.set_cons_succ])
            refine wpAnyH_ready (rs := [10, 12]) (by kernel_rfl) (by simp) ?_
            refine AllReadyH.cons (o := { dst := some 60, op := Op.call { callee := Callee.value (Operand.func 36), args := #[Operand.tmp 55, Operand.tmp 57, Operand.tmp 59], argTypes := #[55, 55, 55] }, type := 31, pos := "ref.go:69", after := #[{ on := 5, ground := Ground.data }, { on := 7, ground := Ground.data }, { on := 9, ground := Ground.data }, { on := 3, ground := Ground.chain }], guard := none }) rfl (fun K hK => ?_) ?_
            · go_simp
              refine (N0 _).mono ?_
              rintro e' w1 ⟨y, rfl, hy, os2, m2, rfl⟩
              (try simp only [Gr.of_drew] at hy); (try simp only [Gr.gr] at hy); (try simp only [Array.append_assoc] at hy)
              obtain ⟨ys, ya, yn, yc, rfl⟩ := hy.shape
              (try go_wp2_with fail)
              refine hK.out _ _ (by (try dsimp only); simp [go_sem, g0, g1, kg]) (fun hHeld2 => ?_)
              clear hK K hHeld
              have hHeld := hHeld2
              clear hHeld2
              (try simp only [Act.put, List.setIfInBounds_toArray, List.set_cons_zero, List.set_cons_succ])
              refine wpAnyH_ready (rs := [11, 12]) (by kernel_rfl) (by simp) ?_
              refine AllReadyH.cons (o := { dst := some 61, op := Op.call { callee := Callee.value (Operand.func 23), args := #[Operand.tmp 53, Operand.tmp 60], argTypes := #[31, 31] }, type := 31, pos := "ref.go:69", after := #[{ on := 3, ground := Ground.data }, { on := 10, ground := Ground.data }, { on := 10, ground := Ground.chain }], guard := none }) rfl (fun K hK => ?_) ?_
              · go_simp
                refine (M0 _ _ _ (hx.kb ?_) (hy.kb ?_)).mono ?_
                · with_reducible repeat (first | exact Kb.refl _ | refine Kb.box ?_ (by first | (simp; done) | (simp [Gr.size]; done)) _ _ _ _ _ _ _ _ _ | refine Kb.gr ?_ (by first | (simp; done) | (simp [Gr.size]; done)) _ _ _ | refine Kb.gr_app ?_ (by first | (simp; done) | (simp [Gr.size]; done)) _ _ _ _ | refine Kb.drew_l ?_ | refine Kb.drew_r ?_ | refine Kb.grow ?_ _ _ | refine Kb.lay ?_ _)
                · with_reducible repeat (first | exact Kb.refl _ | refine Kb.box ?_ (by first | (simp; done) | (simp [Gr.size]; done)) _ _ _ _ _ _ _ _ _ | refine Kb.gr ?_ (by first | (simp; done) | (simp [Gr.size]; done)) _ _ _ | refine Kb.gr_app ?_ (by first | (simp; done) | (simp [Gr.size]; done)) _ _ _ _ | refine Kb.drew_l ?_ | refine Kb.drew_r ?_ | refine Kb.grow ?_ _ _ | refine Kb.lay ?_ _)
                rintro e' w1 ⟨t, rfl, ht, os3, m3, rfl⟩
                (try simp only [Gr.of_drew] at ht); (try simp only [Gr.gr] at ht); (try simp only [Array.append_assoc] at ht)
                obtain ⟨ps, pa, pn, pc, rfl⟩ := ht.shape
                (try go_wp2_with fail)
                refine hK.out _ _ (by (try dsimp only); simp [go_sem, g0, g1, kg]) (fun hHeld2 => ?_)
                clear hK K hHeld
                have hHeld := hHeld2
                clear hHeld2
                (try simp only [Act.put, List.setIfInBounds_toArray, List.set_cons_zero, List.set_cons_succ])
                refine wpAnyH_ready (rs := [12]) (by kernel_rfl) (by simp) ?_
                refine AllReadyH.cons (o := { dst := some 15, op := Op.alloc 31, type := 0, pos := "ref.go:69", after := #[], guard := none }) rfl (fun K hK => ?_) ?_
                · go_simp
                  refine hK.out _ _ (by (try dsimp only); simp [go_sem, g0, g1, kg]) (fun hHeld2 => ?_)
                  clear hK K hHeld
                  have hHeld := hHeld2
                  clear hHeld2
                  (try simp only [Act.put, List.setIfInBounds_toArray, List.set_cons_zero, List.set_cons_succ])
                  refine wpAnyH_ready (rs := [13]) (by kernel_rfl) (by simp) ?_
                  refine AllReadyH.cons (o := { dst := none, op := Op.store 31 (Operand.tmp 15) (Operand.tmp 61), type := 0, pos := "ref.go:69", after := #[{ on := 12, ground := Ground.data }, { on := 11, ground := Ground.data }, { on := 11, ground := Ground.chain }, { on := 0, ground := Ground.phase }, { on := 1, ground := Ground.phase }, { on := 2, ground := Ground.phase }, { on := 3, ground := Ground.phase }, { on := 4, ground := Ground.phase }, { on := 5, ground := Ground.phase }, { on := 6, ground := Ground.phase }, { on := 7, ground := Ground.phase }, { on := 8, ground := Ground.phase }, { on := 9, ground := Ground.phase }, { on := 10, ground := Ground.phase }, { on := 11, ground := Ground.phase }, { on := 12, ground := Ground.phase }], guard := none }) rfl (fun K hK => ?_) ?_
                  · go_simp
                    refine hK.out _ _ (by (try dsimp only); simp [go_sem, g0, g1, kg]) (fun hHeld2 => ?_)
                    clear hK K hHeld
                    have hHeld := hHeld2
                    clear hHeld2
                    (try simp only [Act.put, List.setIfInBounds_toArray, List.set_cons_zero, List.set_cons_succ])
                    refine wpAnyH_done (by kernel_rfl) ?_ _
                    go_wp2
                    go_meet
                    case rel =>
                      refine ⟨_, ps, pa, pn, pc, rfl, ?_, ?_, ?_, ?_, ht.kb ?_, (by with_reducible repeat (first | exact IsGr.refl _ | refine IsGr.gr ?_ _ _ | refine IsGr.alloc ?_ _ | refine IsGr.drew ?_ | refine IsGr.drewN ?_ _))⟩
                      · first | omega | (simp [Gr.size]; done) | (simp [Gr.size]; omega)
                      · first | omega | (simp [Gr.size]; done) | (simp [Gr.size]; omega)
                      · simp [go_sem]
                      · simp [go_sem]
                      · with_reducible repeat (first | exact Kb.refl _ | refine Kb.box ?_ (by first | (simp; done) | (simp [Gr.size]; done)) _ _ _ _ _ _ _ _ _ | refine Kb.gr ?_ (by first | (simp; done) | (simp [Gr.size]; done)) _ _ _ | refine Kb.gr_app ?_ (by first | (simp; done) | (simp [Gr.size]; done)) _ _ _ _ | refine Kb.drew_l ?_ | refine Kb.drew_r ?_ | refine Kb.grow ?_ _ _ | refine Kb.lay ?_ _)
                  exact AllReadyH.nil
                exact AllReadyH.nil
              refine AllReadyH.cons (o := { dst := some 15, op := Op.alloc 31, type := 0, pos := "ref.go:69", after := #[], guard := none }) rfl (fun K hK => ?_) ?_
              · go_simp
                refine hK.out _ _ (by (try dsimp only); simp [go_sem, g0, g1, kg]) (fun hHeld2 => ?_)
                clear hK K hHeld
                have hHeld := hHeld2
                clear hHeld2
                (try simp only [Act.put, List.setIfInBounds_toArray, List.set_cons_zero, List.set_cons_succ])
                refine wpAnyH_ready (rs := [11]) (by kernel_rfl) (by simp) ?_
                refine AllReadyH.cons (o := { dst := some 61, op := Op.call { callee := Callee.value (Operand.func 23), args := #[Operand.tmp 53, Operand.tmp 60], argTypes := #[31, 31] }, type := 31, pos := "ref.go:69", after := #[{ on := 3, ground := Ground.data }, { on := 10, ground := Ground.data }, { on := 10, ground := Ground.chain }], guard := none }) rfl (fun K hK => ?_) ?_
                · go_simp
                  refine (M0 _ _ _ (hx.kb ?_) (hy.kb ?_)).mono ?_
                  · with_reducible repeat (first | exact Kb.refl _ | refine Kb.box ?_ (by first | (simp; done) | (simp [Gr.size]; done)) _ _ _ _ _ _ _ _ _ | refine Kb.gr ?_ (by first | (simp; done) | (simp [Gr.size]; done)) _ _ _ | refine Kb.gr_app ?_ (by first | (simp; done) | (simp [Gr.size]; done)) _ _ _ _ | refine Kb.drew_l ?_ | refine Kb.drew_r ?_ | refine Kb.grow ?_ _ _ | refine Kb.lay ?_ _)
                  · with_reducible repeat (first | exact Kb.refl _ | refine Kb.box ?_ (by first | (simp; done) | (simp [Gr.size]; done)) _ _ _ _ _ _ _ _ _ | refine Kb.gr ?_ (by first | (simp; done) | (simp [Gr.size]; done)) _ _ _ | refine Kb.gr_app ?_ (by first | (simp; done) | (simp [Gr.size]; done)) _ _ _ _ | refine Kb.drew_l ?_ | refine Kb.drew_r ?_ | refine Kb.grow ?_ _ _ | refine Kb.lay ?_ _)
                  rintro e' w1 ⟨t, rfl, ht, os3, m3, rfl⟩
                  (try simp only [Gr.of_drew] at ht); (try simp only [Gr.gr] at ht); (try simp only [Array.append_assoc] at ht)
                  obtain ⟨ps, pa, pn, pc, rfl⟩ := ht.shape
                  (try go_wp2_with fail)
                  refine hK.out _ _ (by (try dsimp only); simp [go_sem, g0, g1, kg]) (fun hHeld2 => ?_)
                  clear hK K hHeld
                  have hHeld := hHeld2
                  clear hHeld2
                  (try simp only [Act.put, List.setIfInBounds_toArray, List.set_cons_zero, List.set_cons_succ])
                  refine wpAnyH_ready (rs := [13]) (by kernel_rfl) (by simp) ?_
                  refine AllReadyH.cons (o := { dst := none, op := Op.store 31 (Operand.tmp 15) (Operand.tmp 61), type := 0, pos := "ref.go:69", after := #[{ on := 12, ground := Ground.data }, { on := 11, ground := Ground.data }, { on := 11, ground := Ground.chain }, { on := 0, ground := Ground.phase }, { on := 1, ground := Ground.phase }, { on := 2, ground := Ground.phase }, { on := 3, ground := Ground.phase }, { on := 4, ground := Ground.phase }, { on := 5, ground := Ground.phase }, { on := 6, ground := Ground.phase }, { on := 7, ground := Ground.phase }, { on := 8, ground := Ground.phase }, { on := 9, ground := Ground.phase }, { on := 10, ground := Ground.phase }, { on := 11, ground := Ground.phase }, { on := 12, ground := Ground.phase }], guard := none }) rfl (fun K hK => ?_) ?_
                  · go_simp
                    refine hK.out _ _ (by (try dsimp only); simp [go_sem, g0, g1, kg]) (fun hHeld2 => ?_)
                    clear hK K hHeld
                    have hHeld := hHeld2
                    clear hHeld2
                    (try simp only [Act.put, List.setIfInBounds_toArray, List.set_cons_zero, List.set_cons_succ])
                    refine wpAnyH_done (by kernel_rfl) ?_ _
                    go_wp2
                    go_meet
                    case rel =>
                      refine ⟨_, ps, pa, pn, pc, rfl, ?_, ?_, ?_, ?_, ht.kb ?_, (by with_reducible repeat (first | exact IsGr.refl _ | refine IsGr.gr ?_ _ _ | refine IsGr.alloc ?_ _ | refine IsGr.drew ?_ | refine IsGr.drewN ?_ _))⟩
                      · first | omega | (simp [Gr.size]; done) | (simp [Gr.size]; omega)
                      · first | omega | (simp [Gr.size]; done) | (simp [Gr.size]; omega)
                      · simp [go_sem]
                      · simp [go_sem]
                      · with_reducible repeat (first | exact Kb.refl _ | refine Kb.box ?_ (by first | (simp; done) | (simp [Gr.size]; done)) _ _ _ _ _ _ _ _ _ | refine Kb.gr ?_ (by first | (simp; done) | (simp [Gr.size]; done)) _ _ _ | refine Kb.gr_app ?_ (by first | (simp; done) | (simp [Gr.size]; done)) _ _ _ _ | refine Kb.drew_l ?_ | refine Kb.drew_r ?_ | refine Kb.grow ?_ _ _ | refine Kb.lay ?_ _)
                  exact AllReadyH.nil
                exact AllReadyH.nil
              exact AllReadyH.nil
            refine AllReadyH.cons (o := { dst := some 15, op := Op.alloc 31, type := 0, pos := "ref.go:69", after := #[], guard := none }) rfl (fun K hK => ?_) ?_
            · go_simp
              refine hK.out _ _ (by (try dsimp only); simp [go_sem, g0, g1, kg]) (fun hHeld2 => ?_)
              clear hK K hHeld
              have hHeld := hHeld2
              clear hHeld2
              (try simp only [Act.put, List.setIfInBounds_toArray, List.set_cons_zero, List.set_cons_succ])
              refine wpAnyH_ready (rs := [10]) (by kernel_rfl) (by simp) ?_
              refine AllReadyH.cons (o := { dst := some 60, op := Op.call { callee := Callee.value (Operand.func 36), args := #[Operand.tmp 55, Operand.tmp 57, Operand.tmp 59], argTypes := #[55, 55, 55] }, type := 31, pos := "ref.go:69", after := #[{ on := 5, ground := Ground.data }, { on := 7, ground := Ground.data }, { on := 9, ground := Ground.data }, { on := 3, ground := Ground.chain }], guard := none }) rfl (fun K hK => ?_) ?_
              · go_simp
                refine (N0 _).mono ?_
                rintro e' w1 ⟨y, rfl, hy, os2, m2, rfl⟩
                (try simp only [Gr.of_drew] at hy); (try simp only [Gr.gr] at hy); (try simp only [Array.append_assoc] at hy)
                obtain ⟨ys, ya, yn, yc, rfl⟩ := hy.shape
                (try go_wp2_with fail)
                refine hK.out _ _ (by (try dsimp only); simp [go_sem, g0, g1, kg]) (fun hHeld2 => ?_)
                clear hK K hHeld
                have hHeld := hHeld2
                clear hHeld2
                (try simp only [Act.put, List.setIfInBounds_toArray, List.set_cons_zero, List.set_cons_succ])
                refine wpAnyH_ready (rs := [11]) (by kernel_rfl) (by simp) ?_
                refine AllReadyH.cons (o := { dst := some 61, op := Op.call { callee := Callee.value (Operand.func 23), args := #[Operand.tmp 53, Operand.tmp 60], argTypes := #[31, 31] }, type := 31, pos := "ref.go:69", after := #[{ on := 3, ground := Ground.data }, { on := 10, ground := Ground.data }, { on := 10, ground := Ground.chain }], guard := none }) rfl (fun K hK => ?_) ?_
                · go_simp
                  refine (M0 _ _ _ (hx.kb ?_) (hy.kb ?_)).mono ?_
                  · with_reducible repeat (first | exact Kb.refl _ | refine Kb.box ?_ (by first | (simp; done) | (simp [Gr.size]; done)) _ _ _ _ _ _ _ _ _ | refine Kb.gr ?_ (by first | (simp; done) | (simp [Gr.size]; done)) _ _ _ | refine Kb.gr_app ?_ (by first | (simp; done) | (simp [Gr.size]; done)) _ _ _ _ | refine Kb.drew_l ?_ | refine Kb.drew_r ?_ | refine Kb.grow ?_ _ _ | refine Kb.lay ?_ _)
                  · with_reducible repeat (first | exact Kb.refl _ | refine Kb.box ?_ (by first | (simp; done) | (simp [Gr.size]; done)) _ _ _ _ _ _ _ _ _ | refine Kb.gr ?_ (by first | (simp; done) | (simp [Gr.size]; done)) _ _ _ | refine Kb.gr_app ?_ (by first | (simp; done) | (simp [Gr.size]; done)) _ _ _ _ | refine Kb.drew_l ?_ | refine Kb.drew_r ?_ | refine Kb.grow ?_ _ _ | refine Kb.lay ?_ _)
                  rintro e' w1 ⟨t, rfl, ht, os3, m3, rfl⟩
                  (try simp only [Gr.of_drew] at ht); (try simp only [Gr.gr] at ht); (try simp only [Array.append_assoc] at ht)
                  obtain ⟨ps, pa, pn, pc, rfl⟩ := ht.shape
                  (try go_wp2_with fail)
                  refine hK.out _ _ (by (try dsimp only); simp [go_sem, g0, g1, kg]) (fun hHeld2 => ?_)
                  clear hK K hHeld
                  have hHeld := hHeld2
                  clear hHeld2
                  (try simp only [Act.put, List.setIfInBounds_toArray, List.set_cons_zero, List.set_cons_succ])
                  refine wpAnyH_ready (rs := [13]) (by kernel_rfl) (by simp) ?_
                  refine AllReadyH.cons (o := { dst := none, op := Op.store 31 (Operand.tmp 15) (Operand.tmp 61), type := 0, pos := "ref.go:69", after := #[{ on := 12, ground := Ground.data }, { on := 11, ground := Ground.data }, { on := 11, ground := Ground.chain }, { on := 0, ground := Ground.phase }, { on := 1, ground := Ground.phase }, { on := 2, ground := Ground.phase }, { on := 3, ground := Ground.phase }, { on := 4, ground := Ground.phase }, { on := 5, ground := Ground.phase }, { on := 6, ground := Ground.phase }, { on := 7, ground := Ground.phase }, { on := 8, ground := Ground.phase }, { on := 9, ground := Ground.phase }, { on := 10, ground := Ground.phase }, { on := 11, ground := Ground.phase }, { on := 12, ground := Ground.phase }], guard := none }) rfl (fun K hK => ?_) ?_
                  · go_simp
                    refine hK.out _ _ (by (try dsimp only); simp [go_sem, g0, g1, kg]) (fun hHeld2 => ?_)
                    clear hK K hHeld
                    have hHeld := hHeld2
                    clear hHeld2
                    (try simp only [Act.put, List.setIfInBounds_toArray, List.set_cons_zero, List.set_cons_succ])
                    refine wpAnyH_done (by kernel_rfl) ?_ _
                    go_wp2
                    go_meet
                    case rel =>
                      refine ⟨_, ps, pa, pn, pc, rfl, ?_, ?_, ?_, ?_, ht.kb ?_, (by with_reducible repeat (first | exact IsGr.refl _ | refine IsGr.gr ?_ _ _ | refine IsGr.alloc ?_ _ | refine IsGr.drew ?_ | refine IsGr.drewN ?_ _))⟩
                      · first | omega | (simp [Gr.size]; done) | (simp [Gr.size]; omega)
                      · first | omega | (simp [Gr.size]; done) | (simp [Gr.size]; omega)
                      · simp [go_sem]
                      · simp [go_sem]
                      · with_reducible repeat (first | exact Kb.refl _ | refine Kb.box ?_ (by first | (simp; done) | (simp [Gr.size]; done)) _ _ _ _ _ _ _ _ _ | refine Kb.gr ?_ (by first | (simp; done) | (simp [Gr.size]; done)) _ _ _ | refine Kb.gr_app ?_ (by first | (simp; done) | (simp [Gr.size]; done)) _ _ _ _ | refine Kb.drew_l ?_ | refine Kb.drew_r ?_ | refine Kb.grow ?_ _ _ | refine Kb.lay ?_ _)
                  exact AllReadyH.nil
                exact AllReadyH.nil
              exact AllReadyH.nil
            exact AllReadyH.nil
          refine AllReadyH.cons (o := { dst := some 15, op := Op.alloc 31, type := 0, pos := "ref.go:69", after := #[], guard := none }) rfl (fun K hK => ?_) ?_
          · go_simp
            refine hK.out _ _ (by (try dsimp only); simp [go_sem, g0, g1, kg]) (fun hHeld2 => ?_)
            clear hK K hHeld
            have hHeld := hHeld2
            clear hHeld2
            (try simp only [Act.put, List.setIfInBounds_toArray, List.set_cons_zero, List.set_cons_succ])
            refine wpAnyH_ready (rs := [3]) (by kernel_rfl) (by simp) ?_
            refine AllReadyH.cons (o := { dst := some 53, op := Op.call { callee := Callee.value (Operand.func 67), args := #[Operand.tmp 52], argTypes := #[55] }, type := 31, pos := "ref.go:69", after := #[{ on := 2, ground := Ground.data }], guard := none }) rfl (fun K hK => ?_) ?_
            · go_simp
              refine (F0 _).mono ?_
              rintro e' w1 ⟨x, rfl, hx, os1, m1, rfl⟩
              (try simp only [Gr.of_drew] at hx); (try simp only [Gr.gr] at hx); (try simp only [Array.append_assoc] at hx)
              obtain ⟨xs, xa, xn, xc, rfl⟩ := hx.shape
              (try go_wp2_with fail)
              refine hK.out _ _ (by (try dsimp only); simp [go_sem, g0, g1, kg]) (fun hHeld2 => ?_)
              clear hK K hHeld
              have hHeld := hHeld2
              clear hHeld2
              (try simp only [Act.put, List.setIfInBounds_toArray, List.set_cons_zero, List.set_cons_succ])
              refine wpAnyH_ready (rs := [10]) (by kernel_rfl) (by simp) ?_
              refine AllReadyH.cons (o := { dst := some 60, op := Op.call { callee := Callee.value (Operand.func 36), args := #[Operand.tmp 55, Operand.tmp 57, Operand.tmp 59], argTypes := #[55, 55, 55] }, type := 31, pos := "ref.go:69", after := #[{ on := 5, ground := Ground.data }, { on := 7, ground := Ground.data }, { on := 9, ground := Ground.data }, { on := 3, ground := Ground.chain }], guard := none }) rfl (fun K hK => ?_) ?_
              · go_simp
                refine (N0 _).mono ?_
                rintro e' w1 ⟨y, rfl, hy, os2, m2, rfl⟩
                (try simp only [Gr.of_drew] at hy); (try simp only [Gr.gr] at hy); (try simp only [Array.append_assoc] at hy)
                obtain ⟨ys, ya, yn, yc, rfl⟩ := hy.shape
                (try go_wp2_with fail)
                refine hK.out _ _ (by (try dsimp only); simp [go_sem, g0, g1, kg]) (fun hHeld2 => ?_)
                clear hK K hHeld
                have hHeld := hHeld2
                clear hHeld2
                (try simp only [Act.put, List.setIfInBounds_toArray, List.set_cons_zero, List.set_cons_succ])
                refine wpAnyH_ready (rs := [11]) (by kernel_rfl) (by simp) ?_
                refine AllReadyH.cons (o := { dst := some 61, op := Op.call { callee := Callee.value (Operand.func 23), args := #[Operand.tmp 53, Operand.tmp 60], argTypes := #[31, 31] }, type := 31, pos := "ref.go:69", after := #[{ on := 3, ground := Ground.data }, { on := 10, ground := Ground.data }, { on := 10, ground := Ground.chain }], guard := none }) rfl (fun K hK => ?_) ?_
                · go_simp
                  refine (M0 _ _ _ (hx.kb ?_) (hy.kb ?_)).mono ?_
                  · with_reducible repeat (first | exact Kb.refl _ | refine Kb.box ?_ (by first | (simp; done) | (simp [Gr.size]; done)) _ _ _ _ _ _ _ _ _ | refine Kb.gr ?_ (by first | (simp; done) | (simp [Gr.size]; done)) _ _ _ | refine Kb.gr_app ?_ (by first | (simp; done) | (simp [Gr.size]; done)) _ _ _ _ | refine Kb.drew_l ?_ | refine Kb.drew_r ?_ | refine Kb.grow ?_ _ _ | refine Kb.lay ?_ _)
                  · with_reducible repeat (first | exact Kb.refl _ | refine Kb.box ?_ (by first | (simp; done) | (simp [Gr.size]; done)) _ _ _ _ _ _ _ _ _ | refine Kb.gr ?_ (by first | (simp; done) | (simp [Gr.size]; done)) _ _ _ | refine Kb.gr_app ?_ (by first | (simp; done) | (simp [Gr.size]; done)) _ _ _ _ | refine Kb.drew_l ?_ | refine Kb.drew_r ?_ | refine Kb.grow ?_ _ _ | refine Kb.lay ?_ _)
                  rintro e' w1 ⟨t, rfl, ht, os3, m3, rfl⟩
                  (try simp only [Gr.of_drew] at ht); (try simp only [Gr.gr] at ht); (try simp only [Array.append_assoc] at ht)
                  obtain ⟨ps, pa, pn, pc, rfl⟩ := ht.shape
                  (try go_wp2_with fail)
                  refine hK.out _ _ (by (try dsimp only); simp [go_sem, g0, g1, kg]) (fun hHeld2 => ?_)
                  clear hK K hHeld
                  have hHeld := hHeld2
                  clear hHeld2
                  (try simp only [Act.put, List.setIfInBounds_toArray, List.set_cons_zero, List.set_cons_succ])
                  refine wpAnyH_ready (rs := [13]) (by kernel_rfl) (by simp) ?_
                  refine AllReadyH.cons (o := { dst := none, op := Op.store 31 (Operand.tmp 15) (Operand.tmp 61), type := 0, pos := "ref.go:69", after := #[{ on := 12, ground := Ground.data }, { on := 11, ground := Ground.data }, { on := 11, ground := Ground.chain }, { on := 0, ground := Ground.phase }, { on := 1, ground := Ground.phase }, { on := 2, ground := Ground.phase }, { on := 3, ground := Ground.phase }, { on := 4, ground := Ground.phase }, { on := 5, ground := Ground.phase }, { on := 6, ground := Ground.phase }, { on := 7, ground := Ground.phase }, { on := 8, ground := Ground.phase }, { on := 9, ground := Ground.phase }, { on := 10, ground := Ground.phase }, { on := 11, ground := Ground.phase }, { on := 12, ground := Ground.phase }], guard := none }) rfl (fun K hK => ?_) ?_
                  · go_simp
                    refine hK.out _ _ (by (try dsimp only); simp [go_sem, g0, g1, kg]) (fun hHeld2 => ?_)
                    clear hK K hHeld
                    have hHeld := hHeld2
                    clear hHeld2
                    (try simp only [Act.put, List.setIfInBounds_toArray, List.set_cons_zero, List.set_cons_succ])
                    refine wpAnyH_done (by kernel_rfl) ?_ _
                    go_wp2
                    go_meet
                    case rel =>
                      refine ⟨_, ps, pa, pn, pc, rfl, ?_, ?_, ?_, ?_, ht.kb ?_, (by with_reducible repeat (first | exact IsGr.refl _ | refine IsGr.gr ?_ _ _ | refine IsGr.alloc ?_ _ | refine IsGr.drew ?_ | refine IsGr.drewN ?_ _))⟩
                      · first | omega | (simp [Gr.size]; done) | (simp [Gr.size]; omega)
                      · first | omega | (simp [Gr.size]; done) | (simp [Gr.size]; omega)
                      · simp [go_sem]
                      · simp [go_sem]
                      · with_reducible repeat (first | exact Kb.refl _ | refine Kb.box ?_ (by first | (simp; done) | (simp [Gr.size]; done)) _ _ _ _ _ _ _ _ _ | refine Kb.gr ?_ (by first | (simp; done) | (simp [Gr.size]; done)) _ _ _ | refine Kb.gr_app ?_ (by first | (simp; done) | (simp [Gr.size]; done)) _ _ _ _ | refine Kb.drew_l ?_ | refine Kb.drew_r ?_ | refine Kb.grow ?_ _ _ | refine Kb.lay ?_ _)
                  exact AllReadyH.nil
                exact AllReadyH.nil
              exact AllReadyH.nil
            exact AllReadyH.nil
          exact AllReadyH.nil
        case rest =>
          obtain ⟨f, ps, pa, pn, pc, rfl, kf0, kf, ⟨e0, e1⟩, ⟨d0, d1⟩, hp, hgr⟩ := hcut
          obtain ⟨W3, hW3⟩ : ∃ W3, W3 = wc := ⟨_, rfl⟩
          subst hW3
          replace z0 := hgr.cell_at kh z0
          replace z1 := hgr.cell_at kh z1
          replace g0 := hgr.cell_at kg g0
          replace g1 := hgr.cell_at kg g1
          replace g2 := hgr.cell_at kg g2
          replace g3 := hgr.cell_at kg g3
          replace g4 := hgr.cell_at kg g4
          replace g5 := hgr.cell_at kg g5
          replace g6 := hgr.cell_at kg g6
          replace g7 := hgr.cell_at kg g7
          replace a1' := hgr.cell_at ka a1'
          replace a2' := hgr.cell_at ka a2'
          replace b1' := hgr.cell_at kb b1'
          replace b2' := hgr.cell_at kb b2'
          replace c1' := hgr.cell_at kc c1'
          replace c2' := hgr.cell_at kc c2'
          replace f0 := hgr.frozen_at kh f0
          replace f1 := hgr.frozen_at kh f1
          replace hs := hs.gr hgr
          have HB3 : Hid (Below w.heap.size w W3) := HW.out.2.trans (hgr.below.mono HW.out.2.size)
          have s1 : ¬ f = h := by omega
          have s2 : ¬ h = f := by omega
          have s3 : ¬ f = g := by omega
          have s4 : ¬ f = w.heap.size := by omega
          have s5 : ¬ f = w.heap.size + 1 := by omega
          have s6 : ¬ f = w.heap.size + 1 + 1 := by omega
          have s7 : w.heap.size ≤ f := by omega
          have hsz := hgr.size
          replace kh : h < W3.heap.size := by omega
          replace kg : g < W3.heap.size := by omega
          replace kc : w.heap.size + 1 + 1 < W3.heap.size := by omega
          replace kb : w.heap.size + 1 < W3.heap.size := by omega
          replace ka : w.heap.size < W3.heap.size := by omega
          clear hgr HW hsz kf0
          go_wp2_with fail
          refine (AD0 _ _ _ (hs.gr ?_) (hp.gr ?_)).mono ?_
          · exact (by with_reducible repeat (first | exact IsGr.refl _ | refine IsGr.gr ?_ _ _ | refine IsGr.alloc ?_ _ | refine IsGr.drew ?_ | refine IsGr.drewN ?_ _))
          · exact (by with_reducible repeat (first | exact IsGr.refl _ | refine IsGr.gr ?_ _ _ | refine IsGr.alloc ?_ _ | refine IsGr.drew ?_ | refine IsGr.drewN ?_ _))
          rintro e' w1 ⟨r, rfl, hr, os5, m5, rfl⟩
          (try simp only [Gr.of_drew] at hr); (try simp only [Gr.gr] at hr); (try simp only [Array.append_assoc] at hr)
          obtain ⟨rs, ra, rn, rc, rfl⟩ := hr.shape
          go_wp2
          have hbe := HB3.out
          have hN5 := N4.out
          go_roundw
          case rel =>
            refine ⟨1, rs, ra, rn, rc, by omega, by go_num, hr.kb ?_, ?_, ?_, ?_, ?_, ?_, ?_, ⟨?_, (by repeat (first | exact Below.refl _ _ | exact (by assumption) | refine Below.drew ?_ | refine Below.gro ?_ (by first | omega | (simp; done) | (simp; omega) | (simp [Gr.size]; omega)) _ _ | refine Below.alloc ?_ (by first | omega | (simp; done) | (simp; omega) | (simp [Gr.size]; omega)) _ | refine Below.setCell ?_ (by first | omega | (simp; done) | (simp; omega) | (simp [Gr.size]; omega)) _))⟩⟩
            · exact Kb.gr (Kb.set (Kb.set (Kb.refl _) _ _ z0 (fun n h => by cases h)) _ _ z1 (fun n h => by cases h)) (by simp) _ _ _
            · simp [go_sem, kh, z0, z1]
            · simp [go_sem, f0, f1, kh]
            · simp [go_sem, g0, g1, g2, g3, g4, g5, g6, g7, kg]
            · simp [go_sem, a1', a2', ka]
            · simp [go_sem, b1', b2', kb]
            · simp [go_sem, c1', c2', kc]
            · simp [Gr.size]; omega
          case measure => simp [intOf]
      · go_wp2
        refine wp_loop_rounds 5 ?_
        rw [rounds_succ]; go_wp2
        rw [rounds_succ]; go_wp2
        rw [rounds_succ]; go_wp2
        rw [rounds_succ]; go_wp2
        rw [rounds_succ]; go_upto_region 16 with fail
        go_cut [15] from 32 to 69 (fun t15 wx => ∃ (f : Nat) (ps : Bool) (pa : Option Addr) (pn pc : Nat), t15 = .pointer (some ⟨f, 0, none⟩) ∧ W2.heap.size ≤ f ∧ f < wx.heap.size ∧ (wx.cell? ⟨f, 0, none⟩ = some (.bool ps) ∧ wx.cell? ⟨f, 1, none⟩ = some (.slice pa pn pc)) ∧ (wx.frozen? ⟨f, 0, none⟩ = false ∧ wx.frozen? ⟨f, 1, none⟩ = false) ∧ IsBig wx (.agg #[.bool ps, .slice pa pn pc]) (l1 * q1) ∧ IsGr W2 wx)
        case first =>
          refine wp_region_held_drew (S := (fun w' => (w'.cell? ⟨g, 2, none⟩ = some (.int .i64 b1) ∧ w'.cell? ⟨g, 3, none⟩ = some (.int .i64 b2)) ∧ (w'.cell? ⟨W2.heap.size, 0, none⟩ = some (.int .i64 a1) ∧ w'.cell? ⟨W2.heap.size, 1, none⟩ = some (.int .i64 a2) ∧ w'.cell? ⟨W2.heap.size, 2, none⟩ = some (.int .i64 c1) ∧ w'.cell? ⟨W2.heap.size, 3, none⟩ = some (.int .i64 c2) ∧ w'.cell? ⟨W2.heap.size, 4, none⟩ = some (.int .i64 p1) ∧ w'.cell? ⟨W2.heap.size, 5, none⟩ = some (.int .i64 p2)))) (by kernel_rfl) (by (try dsimp only); simp [go_sem, g2, g3, kg]) (fun hHeld => ?_)
          refine wpAnyH_take (i := 0) (oi := { dst := some 50, op := Op.move (Operand.tmp 11), type := 3, pos := "ref.go:69", after := #[], guard := none }) (v := ?_) rfl (by kernel_rfl) (by kernel_rfl) (by kernel_rfl) (fun _ _ _ h => h) (Or.inl ⟨by rfl, ?_⟩) (by assumption) ?_
          rotate_left
          · (intro w hSw; (try dsimp only at hSw); go_simp <;> with_reducible rfl)
          (try simp only [Act.put, List.setIfInBounds_toArray, List.set_cons_zero, List.set_cons_succ])
          refine wpAnyH_take (i := 1) (oi := { dst := some 51, op := Op.indexAddr 94 (Operand.tmp 9) (Operand.tmp 50), type := 0, pos := "ref.go:69", after := #[{ on := 0, ground := Ground.data }], guard := none }) (v := ?_) rfl (by kernel_rfl) (by kernel_rfl) (by kernel_rfl) (fun _ _ _ h => h) (Or.inl ⟨by rfl, ?_⟩) (by assumption) ?_
          rotate_left
          · (intro w hSw; (try dsimp only at hSw); go_simp <;> with_reducible rfl)
          (try simp only [Act.put, List.setIfInBounds_toArray, List.set_cons_zero, List.set_cons_succ])
          refine wpAnyH_take (i := 2) (oi := { dst := some 52, op := Op.load 55 (Operand.tmp 51), type := 55, pos := "ref.go:69", after := #[{ on := 1, ground := Ground.data }], guard := none }) (v := ?_) rfl (by kernel_rfl) (by kernel_rfl) (by kernel_rfl) (fun _ _ _ h => h) (Or.inl ⟨by rfl, ?_⟩) (by assumption) ?_
          rotate_left
          · (intro w hSw; (try dsimp only at hSw); go_simp <;> with_reducible rfl)
          (try simp only [Act.put, List.setIfInBounds_toArray, List.set_cons_zero, List.set_cons_succ])
          refine wpAnyH_take (i := 4) (oi := { dst := some 54, op := Op.indexAddr 95 (Operand.tmp 12) (Operand.const (Value.int IntKind.i64 0)), type := 0, pos := "ref.go:69", after := #[], guard := none }) (v := ?_) rfl (by kernel_rfl) (by kernel_rfl) (by kernel_rfl) (fun _ _ _ h => h) (Or.inl ⟨by rfl, ?_⟩) (by assumption) ?_
          rotate_left
          · (intro w hSw; (try dsimp only at hSw); go_simp <;> with_reducible rfl)
          (try simp only [Act.put, List.setIfInBounds_toArray, List.set_cons_zero, List.set_cons_succ])
          refine wpAnyH_take (i := 5) (oi := { dst := some 55, op := Op.load 55 (Operand.tmp 54), type := 55, pos := "ref.go:69", after := #[{ on := 4, ground := Ground.data }], guard := none }) (v := ?_) rfl (by kernel_rfl) (by kernel_rfl) (by kernel_rfl) (fun _ _ _ h => h) (Or.inl ⟨by rfl, ?_⟩) (by assumption) ?_
          rotate_left
          · (intro w hSw; (try dsimp only at hSw); go_simp <;> with_reducible rfl)
          (try simp only [Act.put, List.setIfInBounds_toArray, List.set_cons_zero, List.set_cons_succ])
          refine wpAnyH_take (i := 6) (oi := { dst := some 56, op := Op.indexAddr 95 (Operand.tmp 12) (Operand.const (Value.int IntKind.i64 1)), type := 0, pos := "ref.go:69", after := #[], guard := none }) (v := ?_) rfl (by kernel_rfl) (by kernel_rfl) (by kernel_rfl) (fun _ _ _ h => h) (Or.inl ⟨by rfl, ?_⟩) (by assumption) ?_
          rotate_left
          · (intro w hSw; (try dsimp only at hSw); go_simp <;> with_reducible rfl)
          (try simp only [Act.put, List.setIfInBounds_toArray, List.set_cons_zero, List.set_cons_succ])
          refine wpAnyH_take (i := 7) (oi := { dst := some 57, op := Op.load 55 (Operand.tmp 56), type := 55, pos := "ref.go:69", after := #[{ on := 6, ground := Ground.data }], guard := none }) (v := ?_) rfl (by kernel_rfl) (by kernel_rfl) (by kernel_rfl) (fun _ _ _ h => h) (Or.inl ⟨by rfl, ?_⟩) (by assumption) ?_
          rotate_left
          · (intro w hSw; (try dsimp only at hSw); go_simp <;> with_reducible rfl)
          (try simp only [Act.put, List.setIfInBounds_toArray, List.set_cons_zero, List.set_cons_succ])
          refine wpAnyH_take (i := 8) (oi := { dst := some 58, op := Op.indexAddr 95 (Operand.tmp 12) (Operand.const (Value.int IntKind.i64 2)), type := 0, pos := "ref.go:69", after := #[], guard := none }) (v := ?_) rfl (by kernel_rfl) (by kernel_rfl) (by kernel_rfl) (fun _ _ _ h => h) (Or.inl ⟨by rfl, ?_⟩) (by assumption) ?_
          rotate_left
          · (intro w hSw; (try dsimp only at hSw); go_simp <;> with_reducible rfl)
          (try simp only [Act.put, List.setIfInBounds_toArray, List.set_cons_zero, List.set_cons_succ])
          refine wpAnyH_take (i := 9) (oi := { dst := some 59, op := Op.load 55 (Operand.tmp 58), type := 55, pos := "ref.go:69", after := #[{ on := 8, ground := Ground.data }], guard := none }) (v := ?_) rfl (by kernel_rfl) (by kernel_rfl) (by kernel_rfl) (fun _ _ _ h => h) (Or.inl ⟨by rfl, ?_⟩) (by assumption) ?_
          rotate_left
          · (intro w hSw; (try dsimp only at hSw); go_simp <;> with_reducible rfl)
          (try simp only [Act.put, List.setIfInBounds_toArray, List.set_cons_zero, List.set_cons_succ])
          refine wpAnyH_ready (rs := [3, 12]) (by kernel_rfl) (by simp) ?_
          refine AllReadyH.cons (o := { dst := some 53, op := Op.call { callee := Callee.value (Operand.func 67), args := #[Operand.tmp 52], argTypes := #[55] }, type := 31, pos := "ref.go:69", after := #[{ on := 2, ground := Ground.data }], guard := none }) rfl (fun K hK => ?_) ?_
          · go_simp
            refine (F1 _).mono ?_
            rintro e' w1 ⟨x, rfl, hx, os1, m1, rfl⟩
            (try simp only [Gr.of_drew] at hx); (try simp only [Gr.gr] at hx); (try simp only [Array.append_assoc] at hx)
            obtain ⟨xs, xa, xn, xc, rfl⟩ := hx.shape
            (try go_wp2_with fail)
            refine hK.out _ _ (by (try dsimp only); simp [go_sem, g2, g3, kg]) (fun hHeld2 => ?_)
            clear hK K hHeld
            have hHeld := hHeld2
            clear hHeld2
            (try simp only [Act.put, List.setIfInBounds_toArray, List.set_cons_zero, List.set_cons_succ])
            refine wpAnyH_ready (rs := [10, 12]) (by kernel_rfl) (by simp) ?_
            refine AllReadyH.cons (o := { dst := some 60, op := Op.call { callee := Callee.value (Operand.func 36), args := #[Operand.tmp 55, Operand.tmp 57, Operand.tmp 59], argTypes := #[55, 55, 55] }, type := 31, pos := "ref.go:69", after := #[{ on := 5, ground := Ground.data }, { on := 7, ground := Ground.data }, { on := 9, ground := Ground.data }, { on := 3, ground := Ground.chain }], guard := none }) rfl (fun K hK => ?_) ?_
            · go_simp
              refine (N1 _).mono ?_
              rintro e' w1 ⟨y, rfl, hy, os2, m2, rfl⟩
              (try simp only [Gr.of_drew] at hy); (try simp only [Gr.gr] at hy); (try simp only [Array.append_assoc] at hy)
              obtain ⟨ys, ya, yn, yc, rfl⟩ := hy.shape
              (try go_wp2_with fail)
              refine hK.out _ _ (by (try dsimp only); simp [go_sem, g2, g3, kg]) (fun hHeld2 => ?_)
              clear hK K hHeld
              have hHeld := hHeld2
              clear hHeld2
              (try simp only [Act.put, List.setIfInBounds_toArray, List.set_cons_zero, List.set_cons_succ])
              refine wpAnyH_ready (rs := [11, 12]) (by kernel_rfl) (by simp) ?_
              refine AllReadyH.cons (o := { dst := some 61, op := Op.call { callee := Callee.value (Operand.func 23), args := #[Operand.tmp 53, Operand.tmp 60], argTypes := #[31, 31] }, type := 31, pos := "ref.go:69", after := #[{ on := 3, ground := Ground.data }, { on := 10, ground := Ground.data }, { on := 10, ground := Ground.chain }], guard := none }) rfl (fun K hK => ?_) ?_
              · go_simp
                refine (M1 _ _ _ (hx.kb ?_) (hy.kb ?_)).mono ?_
                · with_reducible repeat (first | exact Kb.refl _ | refine Kb.box ?_ (by first | (simp; done) | (simp [Gr.size]; done)) _ _ _ _ _ _ _ _ _ | refine Kb.gr ?_ (by first | (simp; done) | (simp [Gr.size]; done)) _ _ _ | refine Kb.gr_app ?_ (by first | (simp; done) | (simp [Gr.size]; done)) _ _ _ _ | refine Kb.drew_l ?_ | refine Kb.drew_r ?_ | refine Kb.grow ?_ _ _ | refine Kb.lay ?_ _)
                · with_reducible repeat (first | exact Kb.refl _ | refine Kb.box ?_ (by first | (simp; done) | (simp [Gr.size]; done)) _ _ _ _ _ _ _ _ _ | refine Kb.gr ?_ (by first | (simp; done) | (simp [Gr.size]; done)) _ _ _ | refine Kb.gr_app ?_ (by first | (simp; done) | (simp [Gr.size]; done)) _ _ _ _ | refine Kb.drew_l ?_ | refine Kb.drew_r ?_ | refine Kb.grow ?_ _ _ | refine Kb.lay ?_ _)
                rintro e' w1 ⟨t, rfl, ht, os3, m3, rfl⟩
                (try simp only [Gr.of_drew] at ht); (try simp only [Gr.gr] at ht); (try simp only [Array.append_assoc] at ht)
                obtain ⟨ps, pa, pn, pc, rfl⟩ := ht.shape
                (try go_wp2_with fail)
                refine hK.out _ _ (by (try dsimp only); simp [go_sem, g2, g3, kg]) (fun hHeld2 => ?_)
                clear hK K hHeld
                have hHeld := hHeld2
                clear hHeld2
                (try simp only [Act.put, List.setIfInBounds_toArray, List.set_cons_zero, List.set_cons_succ])
                refine wpAnyH_ready (rs := [12]) (by kernel_rfl) (by simp) ?_
                refine AllReadyH.cons (o := { dst := some 15, op := Op.alloc 31, type := 0, pos := "ref.go:69", after := #[], guard := none }) rfl (fun K hK => ?_) ?_
                · go_simp
                  refine hK.out _ _ (by (try dsimp only); simp [go_sem, g2, g3, kg]) (fun hHeld2 => ?_)
                  clear hK K hHeld
                  have hHeld := hHeld2
                  clear hHeld2
                  (try simp only [Act.put, List.setIfInBounds_toArray, List.set_cons_zero, List.set_cons_succ])
                  refine wpAnyH_ready (rs := [13]) (by kernel_rfl) (by simp) ?_
                  refine AllReadyH.cons (o := { dst := none, op := Op.store 31 (Operand.tmp 15) (Operand.tmp 61), type := 0, pos := "ref.go:69", after := #[{ on := 12, ground := Ground.data }, { on := 11, ground := Ground.data }, { on := 11, ground := Ground.chain }, { on := 0, ground := Ground.phase }, { on := 1, ground := Ground.phase }, { on := 2, ground := Ground.phase }, { on := 3, ground := Ground.phase }, { on := 4, ground := Ground.phase }, { on := 5, ground := Ground.phase }, { on := 6, ground := Ground.phase }, { on := 7, ground := Ground.phase }, { on := 8, ground := Ground.phase }, { on := 9, ground := Ground.phase }, { on := 10, ground := Ground.phase }, { on := 11, ground := Ground.phase }, { on := 12, ground := Ground.phase }], guard := none }) rfl (fun K hK => ?_) ?_
                  · go_simp
                    refine hK.out _ _ (by (try dsimp only); simp [go_sem, g2, g3, kg]) (fun hHeld2 => ?_)
                    clear hK K hHeld
                    have hHeld := hHeld2
                    clear hHeld2
                    (try simp only [Act.put, List.setIfInBounds_toArray, List.set_cons_zero, List.set_cons_succ])
                    refine wpAnyH_done (by kernel_rfl) ?_ _
                    go_wp2
                    go_meet
                    case rel =>
                      refine ⟨_, ps, pa, pn, pc, rfl, ?_, ?_, ?_, ?_, ht.kb ?_, (by with_reducible repeat (first | exact IsGr.refl _ | refine IsGr.gr ?_ _ _ | refine IsGr.alloc ?_ _ | refine IsGr.drew ?_ | refine IsGr.drewN ?_ _))⟩
                      · first | omega | (simp [Gr.size]; done) | (simp [Gr.size]; omega)
                      · first | omega | (simp [Gr.size]; done) | (simp [Gr.size]; omega)
                      · simp [go_sem]
                      · simp [go_sem]
                      · with_reducible repeat (first | exact Kb.refl _ | refine Kb.box ?_ (by first | (simp; done) | (simp [Gr.size]; done)) _ _ _ _ _ _ _ _ _ | refine Kb.gr ?_ (by first | (simp; done) | (simp [Gr.size]; done)) _ _ _ | refine Kb.gr_app ?_ (by first | (simp; done) | (simp [Gr.size]; done)) _ _ _ _ | refine Kb.drew_l ?_ | refine Kb.drew_r ?_ | refine Kb.grow ?_ _ _ | refine Kb.lay ?_ _)
                  exact AllReadyH.nil
                exact AllReadyH.nil
              refine AllReadyH.cons (o := { dst := some 15, op := Op.alloc 31, type := 0, pos := "ref.go:69", after := #[], guard := none }) rfl (fun K hK => ?_) ?_
              · go_simp
                refine hK.out _ _ (by (try dsimp only); simp [go_sem, g2, g3, kg]) (fun hHeld2 => ?_)
                clear hK K hHeld
                have hHeld := hHeld2
                clear hHeld2
                (try simp only [Act.put, List.setIfInBounds_toArray, List.set_cons_zero, List.set_cons_succ])
                refine wpAnyH_ready (rs := [11]) (by kernel_rfl) (by simp) ?_
                refine AllReadyH.cons (o := { dst := some 61, op := Op.call { callee := Callee.value (Operand.func 23), args := #[Operand.tmp 53, Operand.tmp 60], argTypes := #[31, 31] }, type := 31, pos := "ref.go:69", after := #[{ on := 3, ground := Ground.data }, { on := 10, ground := Ground.data }, { on := 10, ground := Ground.chain }], guard := none }) rfl (fun K hK => ?_) ?_
                · go_simp
                  refine (M1 _ _ _ (hx.kb ?_) (hy.kb ?_)).mono ?_
                  · with_reducible repeat (first | exact Kb.refl _ | refine Kb.box ?_ (by first | (simp; done) | (simp [Gr.size]; done)) _ _ _ _ _ _ _ _ _ | refine Kb.gr ?_ (by first | (simp; done) | (simp [Gr.size]; done)) _ _ _ | refine Kb.gr_app ?_ (by first | (simp; done) | (simp [Gr.size]; done)) _ _ _ _ | refine Kb.drew_l ?_ | refine Kb.drew_r ?_ | refine Kb.grow ?_ _ _ | refine Kb.lay ?_ _)
                  · with_reducible repeat (first | exact Kb.refl _ | refine Kb.box ?_ (by first | (simp; done) | (simp [Gr.size]; done)) _ _ _ _ _ _ _ _ _ | refine Kb.gr ?_ (by first | (simp; done) | (simp [Gr.size]; done)) _ _ _ | refine Kb.gr_app ?_ (by first | (simp; done) | (simp [Gr.size]; done)) _ _ _ _ | refine Kb.drew_l ?_ | refine Kb.drew_r ?_ | refine Kb.grow ?_ _ _ | refine Kb.lay ?_ _)
                  rintro e' w1 ⟨t, rfl, ht, os3, m3, rfl⟩
                  (try simp only [Gr.of_drew] at ht); (try simp only [Gr.gr] at ht); (try simp only [Array.append_assoc] at ht)
                  obtain ⟨ps, pa, pn, pc, rfl⟩ := ht.shape
                  (try go_wp2_with fail)
                  refine hK.out _ _ (by (try dsimp only); simp [go_sem, g2, g3, kg]) (fun hHeld2 => ?_)
                  clear hK K hHeld
                  have hHeld := hHeld2
                  clear hHeld2
                  (try simp only [Act.put, List.setIfInBounds_toArray, List.set_cons_zero, List.set_cons_succ])
                  refine wpAnyH_ready (rs := [13]) (by kernel_rfl) (by simp) ?_
                  refine AllReadyH.cons (o := { dst := none, op := Op.store 31 (Operand.tmp 15) (Operand.tmp 61), type := 0, pos := "ref.go:69", after := #[{ on := 12, ground := Ground.data }, { on := 11, ground := Ground.data }, { on := 11, ground := Ground.chain }, { on := 0, ground := Ground.phase }, { on := 1, ground := Ground.phase }, { on := 2, ground := Ground.phase }, { on := 3, ground := Ground.phase }, { on := 4, ground := Ground.phase }, { on := 5, ground := Ground.phase }, { on := 6, ground := Ground.phase }, { on := 7, ground := Ground.phase }, { on := 8, ground := Ground.phase }, { on := 9, ground := Ground.phase }, { on := 10, ground := Ground.phase }, { on := 11, ground := Ground.phase }, { on := 12, ground := Ground.phase }], guard := none }) rfl (fun K hK => ?_) ?_
                  · go_simp
                    refine hK.out _ _ (by (try dsimp only); simp [go_sem, g2, g3, kg]) (fun hHeld2 => ?_)
                    clear hK K hHeld
                    have hHeld := hHeld2
                    clear hHeld2
                    (try simp only [Act.put, List.setIfInBounds_toArray, List.set_cons_zero, List.set_cons_succ])
                    refine wpAnyH_done (by kernel_rfl) ?_ _
                    go_wp2
                    go_meet
                    case rel =>
                      refine ⟨_, ps, pa, pn, pc, rfl, ?_, ?_, ?_, ?_, ht.kb ?_, (by with_reducible repeat (first | exact IsGr.refl _ | refine IsGr.gr ?_ _ _ | refine IsGr.alloc ?_ _ | refine IsGr.drew ?_ | refine IsGr.drewN ?_ _))⟩
                      · first | omega | (simp [Gr.size]; done) | (simp [Gr.size]; omega)
                      · first | omega | (simp [Gr.size]; done) | (simp [Gr.size]; omega)
                      · simp [go_sem]
                      · simp [go_sem]
                      · with_reducible repeat (first | exact Kb.refl _ | refine Kb.box ?_ (by first | (simp; done) | (simp [Gr.size]; done)) _ _ _ _ _ _ _ _ _ | refine Kb.gr ?_ (by first | (simp; done) | (simp [Gr.size]; done)) _ _ _ | refine Kb.gr_app ?_ (by first | (simp; done) | (simp [Gr.size]; done)) _ _ _ _ | refine Kb.drew_l ?_ | refine Kb.drew_r ?_ | refine Kb.grow ?_ _ _ | refine Kb.lay ?_ _)
                  exact AllReadyH.nil
                exact AllReadyH.nil
              exact AllReadyH.nil
            refine AllReadyH.cons (o := { dst := some 15, op := Op.alloc 31, type := 0, pos := "ref.go:69", after := #[], guard := none }) rfl (fun K hK => ?_) ?_
            · go_simp
              refine hK.out _ _ (by (try dsimp only); simp [go_sem, g2, g3, kg]) (fun hHeld2 => ?_)
              clear hK K hHeld
              have hHeld := hHeld2
              clear hHeld2
              (try simp only [Act.put, List.setIfInBounds_toArray, List.set_cons_zero, List.set_cons_succ])
              refine wpAnyH_ready (rs := [10]) (by kernel_rfl) (by simp) ?_
              refine AllReadyH.cons (o := { dst := some 60, op := Op.call { callee := Callee.value (Operand.func 36), args := #[Operand.tmp 55, Operand.tmp 57, Operand.tmp 59], argTypes := #[55, 55, 55] }, type := 31, pos := "ref.go:69", after := #[{ on := 5, ground := Ground.data }, { on := 7, ground := Ground.data }, { on := 9, ground := Ground.data }, { on := 3, ground := Ground.chain }], guard := none }) rfl (fun K hK => ?_) ?_
              · go_simp
                refine (N1 _).mono ?_
                rintro e' w1 ⟨y, rfl, hy, os2, m2, rfl⟩
                (try simp only [Gr.of_drew] at hy); (try simp only [Gr.gr] at hy); (try simp only [Array.append_assoc] at hy)
                obtain ⟨ys, ya, yn, yc, rfl⟩ := hy.shape
                (try go_wp2_with fail)
                refine hK.out _ _ (by (try dsimp only); simp [go_sem, g2, g3, kg]) (fun hHeld2 => ?_)
                clear hK K hHeld
                have hHeld := hHeld2
                clear hHeld2
                (try simp only [Act.put, List.setIfInBounds_toArray, List.set_cons_zero, List.set_cons_succ])
                refine wpAnyH_ready (rs := [11]) (by kernel_rfl) (by simp) ?_
                refine AllReadyH.cons (o := { dst := some 61, op := Op.call { callee := Callee.value (Operand.func 23), args := #[Operand.tmp 53, Operand.tmp 60], argTypes := #[31, 31] }, type := 31, pos := "ref.go:69", after := #[{ on := 3, ground := Ground.data }, { on := 10, ground := Ground.data }, { on := 10, ground := Ground.chain }], guard := none }) rfl (fun K hK => ?_) ?_
                · go_simp
                  refine (M1 _ _ _ (hx.kb ?_) (hy.kb ?_)).mono ?_
                  · with_reducible repeat (first | exact Kb.refl _ | refine Kb.box ?_ (by first | (simp; done) | (simp [Gr.size]; done)) _ _ _ _ _ _ _ _ _ | refine Kb.gr ?_ (by first | (simp; done) | (simp [Gr.size]; done)) _ _ _ | refine Kb.gr_app ?_ (by first | (simp; done) | (simp [Gr.size]; done)) _ _ _ _ | refine Kb.drew_l ?_ | refine Kb.drew_r ?_ | refine Kb.grow ?_ _ _ | refine Kb.lay ?_ _)
                  · with_reducible repeat (first | exact Kb.refl _ | refine Kb.box ?_ (by first | (simp; done) | (simp [Gr.size]; done)) _ _ _ _ _ _ _ _ _ | refine Kb.gr ?_ (by first | (simp; done) | (simp [Gr.size]; done)) _ _ _ | refine Kb.gr_app ?_ (by first | (simp; done) | (simp [Gr.size]; done)) _ _ _ _ | refine Kb.drew_l ?_ | refine Kb.drew_r ?_ | refine Kb.grow ?_ _ _ | refine Kb.lay ?_ _)
                  rintro e' w1 ⟨t, rfl, ht, os3, m3, rfl⟩
                  (try simp only [Gr.of_drew] at ht); (try simp only [Gr.gr] at ht); (try simp only [Array.append_assoc] at ht)
                  obtain ⟨ps, pa, pn, pc, rfl⟩ := ht.shape
                  (try go_wp2_with fail)
                  refine hK.out _ _ (by (try dsimp only); simp [go_sem, g2, g3, kg]) (fun hHeld2 => ?_)
                  clear hK K hHeld
                  have hHeld := hHeld2
                  clear hHeld2
                  (try simp only [Act.put, List.setIfInBounds_toArray, List.set_cons_zero, List.set_cons_succ])
                  refine wpAnyH_ready (rs := [13]) (by kernel_rfl) (by simp) ?_
                  refine AllReadyH.cons (o := { dst := none, op := Op.store 31 (Operand.tmp 15) (Operand.tmp 61), type := 0, pos := "ref.go:69", after := #[{ on := 12, ground := Ground.data }, { on := 11, ground := Ground.data }, { on := 11, ground := Ground.chain }, { on := 0, ground := Ground.phase }, { on := 1, ground := Ground.phase }, { on := 2, ground := Ground.phase }, { on := 3, ground := Ground.phase }, { on := 4, ground := Ground.phase }, { on := 5, ground := Ground.phase }, { on := 6, ground := Ground.phase }, { on := 7, ground := Ground.phase }, { on := 8, ground := Ground.phase }, { on := 9, ground := Ground.phase }, { on := 10, ground := Ground.phase }, { on := 11, ground := Ground.phase }, { on := 12, ground := Ground.phase }], guard := none }) rfl (fun K hK => ?_) ?_
                  · go_simp
                    refine hK.out _ _ (by (try dsimp only); simp [go_sem, g2, g3, kg]) (fun hHeld2 => ?_)
                    clear hK K hHeld
                    have hHeld := hHeld2
                    clear hHeld2
                    (try simp only [Act.put, List.setIfInBounds_toArray, List.set_cons_zero, List.set_cons_succ])
                    refine wpAnyH_done (by kernel_rfl) ?_ _
                    go_wp2
                    go_meet
                    case rel =>
                      refine ⟨_, ps, pa, pn, pc, rfl, ?_, ?_, ?_, ?_, ht.kb ?_, (by with_reducible repeat (first | exact IsGr.refl _ | refine IsGr.gr ?_ _ _ | refine IsGr.alloc ?_ _ | refine IsGr.drew ?_ | refine IsGr.drewN ?_ _))⟩
                      · first | omega | (simp [Gr.size]; done) | (simp [Gr.size]; omega)
                      · first | omega | (simp [Gr.size]; done) | (simp [Gr.size]; omega)
                      · simp [go_sem]
                      · simp [go_sem]
                      · with_reducible repeat (first | exact Kb.refl _ | refine Kb.box ?_ (by first | (simp; done) | (simp [Gr.size]; done)) _ _ _ _ _ _ _ _ _ | refine Kb.gr ?_ (by first | (simp; done) | (simp [Gr.size]; done)) _ _ _ | refine Kb.gr_app ?_ (by first | (simp; done) | (simp [Gr.size]; done)) _ _ _ _ | refine Kb.drew_l ?_ | refine Kb.drew_r ?_ | refine Kb.grow ?_ _ _ | refine Kb.lay ?_ _)
                  exact AllReadyH.nil
                exact AllReadyH.nil
              exact AllReadyH.nil
            exact AllReadyH.nil
          refine AllReadyH.cons (o := { dst := some 15, op := Op.alloc 31, type := 0, pos := "ref.go:69", after := #[], guard := none }) rfl (fun K hK => ?_) ?_
          · go_simp
            refine hK.out _ _ (by (try dsimp only); simp [go_sem, g2, g3, kg]) (fun hHeld2 => ?_)
            clear hK K hHeld
            have hHeld := hHeld2
            clear hHeld2
            (try simp only [Act.put, List.setIfInBounds_toArray, List.set_cons_zero, List.set_cons_succ])
            refine wpAnyH_ready (rs := [3]) (by kernel_rfl) (by simp) ?_
            refine AllReadyH.cons (o := { dst := some 53, op := Op.call { callee := Callee.value (Operand.func 67), args := #[Operand.tmp 52], argTypes := #[55] }, type := 31, pos := "ref.go:69", after := #[{ on := 2, ground := Ground.data }], guard := none }) rfl (fun K hK => ?_) ?_
            · go_simp
              refine (F1 _).mono ?_
              rintro e' w1 ⟨x, rfl, hx, os1, m1, rfl⟩
              (try simp only [Gr.of_drew] at hx); (try simp only [Gr.gr] at hx); (try simp only [Array.append_assoc] at hx)
              obtain ⟨xs, xa, xn, xc, rfl⟩ := hx.shape
              (try go_wp2_with fail)
              refine hK.out _ _ (by (try dsimp only); simp [go_sem, g2, g3, kg]) (fun hHeld2 => ?_)
              clear hK K hHeld
              have hHeld := hHeld2
              clear hHeld2
              (try simp only [Act.put, List.setIfInBounds_toArray, List.set_cons_zero, List.set_cons_succ])
              refine wpAnyH_ready (rs := [10]) (by kernel_rfl) (by simp) ?_
              refine AllReadyH.cons (o := { dst := some 60, op := Op.call { callee := Callee.value (Operand.func 36), args := #[Operand.tmp 55, Operand.tmp 57, Operand.tmp 59], argTypes := #[55, 55, 55] }, type := 31, pos := "ref.go:69", after := #[{ on := 5, ground := Ground.data }, { on := 7, ground := Ground.data }, { on := 9, ground := Ground.data }, { on := 3, ground := Ground.chain }], guard := none }) rfl (fun K hK => ?_) ?_
              · go_simp
                refine (N1 _).mono ?_
                rintro e' w1 ⟨y, rfl, hy, os2, m2, rfl⟩
                (try simp only [Gr.of_drew] at hy); (try simp only [Gr.gr] at hy); (try simp only [Array.append_assoc] at hy)
                obtain ⟨ys, ya, yn, yc, rfl⟩ := hy.shape
                (try go_wp2_with fail)
                refine hK.out _ _ (by (try dsimp only); simp [go_sem, g2, g3, kg]) (fun hHeld2 => ?_)
                clear hK K hHeld
                have hHeld := hHeld2
                clear hHeld2
                (try simp only [Act.put, List.setIfInBounds_toArray, List.set_cons_zero, List.set_cons_succ])
                refine wpAnyH_ready (rs := [11]) (by kernel_rfl) (by simp) ?_
                refine AllReadyH.cons (o := { dst := some 61, op := Op.call { callee := Callee.value (Operand.func 23), args := #[Operand.tmp 53, Operand.tmp 60], argTypes := #[31, 31] }, type := 31, pos := "ref.go:69", after := #[{ on := 3, ground := Ground.data }, { on := 10, ground := Ground.data }, { on := 10, ground := Ground.chain }], guard := none }) rfl (fun K hK => ?_) ?_
                · go_simp
                  refine (M1 _ _ _ (hx.kb ?_) (hy.kb ?_)).mono ?_
                  · with_reducible repeat (first | exact Kb.refl _ | refine Kb.box ?_ (by first | (simp; done) | (simp [Gr.size]; done)) _ _ _ _ _ _ _ _ _ | refine Kb.gr ?_ (by first | (simp; done) | (simp [Gr.size]; done)) _ _ _ | refine Kb.gr_app ?_ (by first | (simp; done) | (simp [Gr.size]; done)) _ _ _ _ | refine Kb.drew_l ?_ | refine Kb.drew_r ?_ | refine Kb.grow ?_ _ _ | refine Kb.lay ?_ _)
                  · with_reducible repeat (first | exact Kb.refl _ | refine Kb.box ?_ (by first | (simp; done) | (simp [Gr.size]; done)) _ _ _ _ _ _ _ _ _ | refine Kb.gr ?_ (by first | (simp; done) | (simp [Gr.size]; done)) _ _ _ | refine Kb.gr_app ?_ (by first | (simp; done) | (simp [Gr.size]; done)) _ _ _ _ | refine Kb.drew_l ?_ | refine Kb.drew_r ?_ | refine Kb.grow ?_ _ _ | refine Kb.lay ?_ _)
                  rintro e' w1 ⟨t, rfl, ht, os3, m3, rfl⟩
                  (try simp only [Gr.of_drew] at ht); (try simp only [Gr.gr] at ht); (try simp only [Array.append_assoc] at ht)
                  obtain ⟨ps, pa, pn, pc, rfl⟩ := ht.shape
                  (try go_wp2_with fail)
                  refine hK.out _ _ (by (try dsimp only); simp [go_sem, g2, g3, kg]) (fun hHeld2 => ?_)
                  clear hK K hHeld
                  have hHeld := hHeld2
                  clear hHeld2
                  (try simp only [Act.put, List.setIfInBounds_toArray, List.set_cons_zero, List.set_cons_succ])
                  refine wpAnyH_ready (rs := [13]) (by kernel_rfl) (by simp) ?_
                  refine AllReadyH.cons (o := { dst := none, op := Op.store 31 (Operand.tmp 15) (Operand.tmp 61), type := 0, pos := "ref.go:69", after := #[{ on := 12, ground := Ground.data }, { on := 11, ground := Ground.data }, { on := 11, ground := Ground.chain }, { on := 0, ground := Ground.phase }, { on := 1, ground := Ground.phase }, { on := 2, ground := Ground.phase }, { on := 3, ground := Ground.phase }, { on := 4, ground := Ground.phase }, { on := 5, ground := Ground.phase }, { on := 6, ground := Ground.phase }, { on := 7, ground := Ground.phase }, { on := 8, ground := Ground.phase }, { on := 9, ground := Ground.phase }, { on := 10, ground := Ground.phase }, { on := 11, ground := Ground.phase }, { on := 12, ground := Ground.phase }], guard := none }) rfl (fun K hK => ?_) ?_
                  · go_simp
                    refine hK.out _ _ (by (try dsimp only); simp [go_sem, g2, g3, kg]) (fun hHeld2 => ?_)
                    clear hK K hHeld
                    have hHeld := hHeld2
                    clear hHeld2
                    (try simp only [Act.put, List.setIfInBounds_toArray, List.set_cons_zero, List.set_cons_succ])
                    refine wpAnyH_done (by kernel_rfl) ?_ _
                    go_wp2
                    go_meet
                    case rel =>
                      refine ⟨_, ps, pa, pn, pc, rfl, ?_, ?_, ?_, ?_, ht.kb ?_, (by with_reducible repeat (first | exact IsGr.refl _ | refine IsGr.gr ?_ _ _ | refine IsGr.alloc ?_ _ | refine IsGr.drew ?_ | refine IsGr.drewN ?_ _))⟩
                      · first | omega | (simp [Gr.size]; done) | (simp [Gr.size]; omega)
                      · first | omega | (simp [Gr.size]; done) | (simp [Gr.size]; omega)
                      · simp [go_sem]
                      · simp [go_sem]
                      · with_reducible repeat (first | exact Kb.refl _ | refine Kb.box ?_ (by first | (simp; done) | (simp [Gr.size]; done)) _ _ _ _ _ _ _ _ _ | refine Kb.gr ?_ (by first | (simp; done) | (simp [Gr.size]; done)) _ _ _ | refine Kb.gr_app ?_ (by first | (simp; done) | (simp [Gr.size]; done)) _ _ _ _ | refine Kb.drew_l ?_ | refine Kb.drew_r ?_ | refine Kb.grow ?_ _ _ | refine Kb.lay ?_ _)
                  exact AllReadyH.nil
                exact AllReadyH.nil
              exact AllReadyH.nil
            exact AllReadyH.nil
          exact AllReadyH.nil
        case rest =>
          obtain ⟨f, ps, pa, pn, pc, rfl, kf0, kf, ⟨e0, e1⟩, ⟨d0, d1⟩, hp, hgr⟩ := hcut
          obtain ⟨W3, hW3⟩ : ∃ W3, W3 = wc := ⟨_, rfl⟩
          subst hW3
          replace z0 := hgr.cell_at kh z0
          replace z1 := hgr.cell_at kh z1
          replace g0 := hgr.cell_at kg g0
          replace g1 := hgr.cell_at kg g1
          replace g2 := hgr.cell_at kg g2
          replace g3 := hgr.cell_at kg g3
          replace g4 := hgr.cell_at kg g4
          replace g5 := hgr.cell_at kg g5
          replace g6 := hgr.cell_at kg g6
          replace g7 := hgr.cell_at kg g7
          replace a1' := hgr.cell_at ka a1'
          replace a2' := hgr.cell_at ka a2'
          replace b1' := hgr.cell_at kb b1'
          replace b2' := hgr.cell_at kb b2'
          replace c1' := hgr.cell_at kc c1'
          replace c2' := hgr.cell_at kc c2'
          replace f0 := hgr.frozen_at kh f0
          replace f1 := hgr.frozen_at kh f1
          replace hs := hs.gr hgr
          have HB3 : Hid (Below w.heap.size w W3) := HW.out.2.trans (hgr.below.mono HW.out.2.size)
          have s1 : ¬ f = h := by omega
          have s2 : ¬ h = f := by omega
          have s3 : ¬ f = g := by omega
          have s4 : ¬ f = w.heap.size := by omega
          have s5 : ¬ f = w.heap.size + 1 := by omega
          have s6 : ¬ f = w.heap.size + 1 + 1 := by omega
          have s7 : w.heap.size ≤ f := by omega
          have hsz := hgr.size
          replace kh : h < W3.heap.size := by omega
          replace kg : g < W3.heap.size := by omega
          replace kc : w.heap.size + 1 + 1 < W3.heap.size := by omega
          replace kb : w.heap.size + 1 < W3.heap.size := by omega
          replace ka : w.heap.size < W3.heap.size := by omega
          clear hgr HW hsz kf0
          have KE : ∀ v0 v1 : Value, Kb W3 ((W3.setCell ⟨f, 0, none⟩ v0).setCell ⟨f, 1, none⟩ v1) := fun v0 v1 => Kb.set (Kb.set (Kb.refl _) _ _ e0 (fun n h => by cases h)) _ _ e1 (fun n h => by cases h)
          go_wp2_with fail
          refine (MI1 _ _ (hp.gr ?_)).mono ?_
          · exact (by with_reducible repeat (first | exact IsGr.refl _ | refine IsGr.gr ?_ _ _ | refine IsGr.alloc ?_ _ | refine IsGr.drew ?_ | refine IsGr.drewN ?_ _))
          rintro e' w1 ⟨q, rfl, hq, os4, m4, rfl⟩
          (try simp only [Gr.of_drew] at hq); (try simp only [Gr.gr] at hq); (try simp only [Array.append_assoc] at hq)
          obtain ⟨qs, qa, qn, qc, rfl⟩ := hq.shape
          go_wp2_with fail
          refine (AD1 _ _ _ (hs.kb ?_) (hq.kb ?_)).mono ?_
          · exact Kb.grow (KE _ _) _ _
          · exact Kb.gr (KE _ _) (by simp) _ _ _
          rintro e' w1 ⟨r, rfl, hr, os5, m5, rfl⟩
          (try simp only [Gr.of_drew] at hr); (try simp only [Gr.gr] at hr); (try simp only [Array.append_assoc] at hr)
          obtain ⟨rs, ra, rn, rc, rfl⟩ := hr.shape
          go_wp2
          have hbe := HB3.out
          have hN5 := N4.out
          go_roundw
          case rel =>
            refine ⟨2, rs, ra, rn, rc, by omega, by go_num, hr.kb ?_, ?_, ?_, ?_, ?_, ?_, ?_, ⟨?_, (by repeat (first | exact Below.refl _ _ | exact (by assumption) | refine Below.drew ?_ | refine Below.gro ?_ (by first | omega | (simp; done) | (simp; omega) | (simp [Gr.size]; omega)) _ _ | refine Below.alloc ?_ (by first | omega | (simp; done) | (simp; omega) | (simp [Gr.size]; omega)) _ | refine Below.setCell ?_ (by first | omega | (simp; done) | (simp; omega) | (simp [Gr.size]; omega)) _))⟩⟩
            · exact Kb.gr (Kb.set (Kb.set (Kb.refl _) _ _ (show _ = some (Value.bool ss) by simp [go_sem, z0]) (fun n h => by cases h)) _ _ (show _ = some (Value.slice sa sn sc) by simp [go_sem, z1]) (fun n h => by cases h)) (by simp) _ _ _
            · simp [go_sem, kh, z0, z1]
            · simp [go_sem, f0, f1, kh]
            · simp [go_sem, g0, g1, g2, g3, g4, g5, g6, g7, kg]
            · simp [go_sem, a1', a2', ka]
            · simp [go_sem, b1', b2', kb]
            · simp [go_sem, c1', c2', kc]
            · simp [Gr.size]; omega
          case measure => simp [intOf]
      · go_wp2
        refine wp_loop_rounds 5 ?_
        rw [rounds_succ]; go_wp2
        rw [rounds_succ]; go_wp2
        rw [rounds_succ]; go_wp2
        rw [rounds_succ]; go_wp2
        rw [rounds_succ]; go_upto_region 16 with fail
        go_cut [15] from 32 to 69 (fun t15 wx => ∃ (f : Nat) (ps : Bool) (pa : Option Addr) (pn pc : Nat), t15 = .pointer (some ⟨f, 0, none⟩) ∧ W2.heap.size ≤ f ∧ f < wx.heap.size ∧ (wx.cell? ⟨f, 0, none⟩ = some (.bool ps) ∧ wx.cell? ⟨f, 1, none⟩ = some (.slice pa pn pc)) ∧ (wx.frozen? ⟨f, 0, none⟩ = false ∧ wx.frozen? ⟨f, 1, none⟩ = false) ∧ IsBig wx (.agg #[.bool ps, .slice pa pn pc]) (l2 * q2) ∧ IsGr W2 wx)
        case first =>
          refine wp_region_held_drew (S := (fun w' => (w'.cell? ⟨g, 4, none⟩ = some (.int .i64 c1) ∧ w'.cell? ⟨g, 5, none⟩ = some (.int .i64 c2)) ∧ (w'.cell? ⟨W2.heap.size, 0, none⟩ = some (.int .i64 a1) ∧ w'.cell? ⟨W2.heap.size, 1, none⟩ = some (.int .i64 a2) ∧ w'.cell? ⟨W2.heap.size, 2, none⟩ = some (.int .i64 b1) ∧ w'.cell? ⟨W2.heap.size, 3, none⟩ = some (.int .i64 b2) ∧ w'.cell? ⟨W2.heap.size, 4, none⟩ = some (.int .i64 p1) ∧ w'.cell? ⟨W2.heap.size, 5, none⟩ = some (.int .i64 p2)))) (by kernel_rfl) (by (try dsimp only); simp [go_sem, g4, g5, kg]) (fun hHeld => ?_)
          refine wpAnyH_take (i := 0) (oi := { dst := some 50, op := Op.move (Operand.tmp 11), type := 3, pos := "ref.go:69", after := #[], guard := none }) (v := ?_) rfl (by kernel_rfl) (by kernel_rfl) (by kernel_rfl) (fun _ _ _ h => h) (Or.inl ⟨by rfl, ?_⟩) (by assumption) ?_
          rotate_left
          · (intro w hSw; (try dsimp only at hSw); go_simp <;> with_reducible rfl)
          (try simp only [Act.put, List.setIfInBounds_toArray, List.set_cons_zero, List.set_cons_succ])
          refine wpAnyH_take (i := 1) (oi := { dst := some 51, op := Op.indexAddr 94 (Operand.tmp 9) (Operand.tmp 50), type := 0, pos := "ref.go:69", after := #[{ on := 0, ground := Ground.data }], guard := none }) (v := ?_) rfl (by kernel_rfl) (by kernel_rfl) (by kernel_rfl) (fun _ _ _ h => h) (Or.inl ⟨by rfl, ?_⟩) (by assumption) ?_
          rotate_left
          · (intro w hSw; (try dsimp only at hSw); go_simp <;> with_reducible rfl)
          (try simp only [Act.put, List.setIfInBounds_toArray, List.set_cons_zero, List.set_cons_succ])
          refine wpAnyH_take (i := 2) (oi := { dst := some 52, op := Op.load 55 (Operand.tmp 51), type := 55, pos := "ref.go:69", after := #[{ on := 1, ground := Ground.data }], guard := none }) (v := ?_) rfl (by kernel_rfl) (by kernel_rfl) (by kernel_rfl) (fun _ _ _ h => h) (Or.inl ⟨by rfl, ?_⟩) (by assumption) ?_
          rotate_left
          · (intro w hSw; (try dsimp only at hSw); go_simp <;> with_reducible rfl)
          (try simp only [Act.put, List.setIfInBounds_toArray, List.set_cons_zero, List.set_cons_succ])
          refine wpAnyH_take (i := 4) (oi := { dst := some 54, op := Op.indexAddr 95 (Operand.tmp 12) (Operand.const (Value.int IntKind.i64 0)), type := 0, pos := "ref.go:69", after := #[], guard := none }) (v := ?_) rfl (by kernel_rfl) (by kernel_rfl) (by kernel_rfl) (fun _ _ _ h => h) (Or.inl ⟨by rfl, ?_⟩) (by assumption) ?_
          rotate_left
          · (intro w hSw; (try dsimp only at hSw); go_simp <;> with_reducible rfl)
          (try simp only [Act.put, List.setIfInBounds_toArray, List.set_cons_zero, List.set_cons_succ])
          refine wpAnyH_take (i := 5) (oi := { dst := some 55, op := Op.load 55 (Operand.tmp 54), type := 55, pos := "ref.go:69", after := #[{ on := 4, ground := Ground.data }], guard := none }) (v := ?_) rfl (by kernel_rfl) (by kernel_rfl) (by kernel_rfl) (fun _ _ _ h => h) (Or.inl ⟨by rfl, ?_⟩) (by assumption) ?_
          rotate_left
          · (intro w hSw; (try dsimp only at hSw); go_simp <;> with_reducible rfl)
          (try simp only [Act.put, List.setIfInBounds_toArray, List.set_cons_zero, List.set_cons_succ])
          refine wpAnyH_take (i := 6) (oi := { dst := some 56, op := Op.indexAddr 95 (Operand.tmp 12) (Operand.const (Value.int IntKind.i64 1)), type := 0, pos := "ref.go:69", after := #[], guard := none }) (v := ?_) rfl (by kernel_rfl) (by kernel_rfl) (by kernel_rfl) (fun _ _ _ h => h) (Or.inl ⟨by rfl, ?_⟩) (by assumption) ?_
          rotate_left
          · (intro w hSw; (try dsimp only at hSw); go_simp <;> with_reducible rfl)
          (try simp only [Act.put, List.setIfInBounds_toArray, List.set_cons_zero, List.set_cons_succ])
          refine wpAnyH_take (i := 7) (oi := { dst := some 57, op := Op.load 55 (Operand.tmp 56), type := 55, pos := "ref.go:69", after := #[{ on := 6, ground := Ground.data }], guard := none }) (v := ?_) rfl (by kernel_rfl) (by kernel_rfl) (by kernel_rfl) (fun _ _ _ h => h) (Or.inl ⟨by rfl, ?_⟩) (by assumption) ?_
          rotate_left
          · (intro w hSw; (try dsimp only at hSw); go_simp <;> with_reducible rfl)
          (try simp only [Act.put, List.setIfInBounds_toArray, List.set_cons_zero, List.set_cons_succ])
          refine wpAnyH_take (i := 8) (oi := { dst := some 58, op := Op.indexAddr 95 (Operand.tmp 12) (Operand.const (Value.int IntKind.i64 2)), type := 0, pos := "ref.go:69", after := #[], guard := none }) (v := ?_) rfl (by kernel_rfl) (by kernel_rfl) (by kernel_rfl) (fun _ _ _ h => h) (Or.inl ⟨by rfl, ?_⟩) (by assumption) ?_
          rotate_left
          · (intro w hSw; (try dsimp only at hSw); go_simp <;> with_reducible rfl)
          (try simp only [Act.put, List.setIfInBounds_toArray, List.set_cons_zero, List.set_cons_succ])
          refine wpAnyH_take (i := 9) (oi := { dst := some 59, op := Op.load 55 (Operand.tmp 58), type := 55, pos := "ref.go:69", after := #[{ on := 8, ground := Ground.data }], guard := none }) (v := ?_) rfl (by kernel_rfl) (by kernel_rfl) (by kernel_rfl) (fun _ _ _ h => h) (Or.inl ⟨by rfl, ?_⟩) (by assumption) ?_
          rotate_left
          · (intro w hSw; (try dsimp only at hSw); go_simp <;> with_reducible rfl)
          (try simp only [Act.put, List.setIfInBounds_toArray, List.set_cons_zero, List.set_cons_succ])
          refine wpAnyH_ready (rs := [3, 12]) (by kernel_rfl) (by simp) ?_
          refine AllReadyH.cons (o := { dst := some 53, op := Op.call { callee := Callee.value (Operand.func 67), args := #[Operand.tmp 52], argTypes := #[55] }, type := 31, pos := "ref.go:69", after := #[{ on := 2, ground := Ground.data }], guard := none }) rfl (fun K hK => ?_) ?_
          · go_simp
            refine (F2 _).mono ?_
            rintro e' w1 ⟨x, rfl, hx, os1, m1, rfl⟩
            (try simp only [Gr.of_drew] at hx); (try simp only [Gr.gr] at hx); (try simp only [Array.append_assoc] at hx)
            obtain ⟨xs, xa, xn, xc, rfl⟩ := hx.shape
            (try go_wp2_with fail)
            refine hK.out _ _ (by (try dsimp only); simp [go_sem, g4, g5, kg]) (fun hHeld2 => ?_)
            clear hK K hHeld
            have hHeld := hHeld2
            clear hHeld2
            (try simp only [Act.put, List.setIfInBounds_toArray, List.set_cons_zero, List.set_cons_succ])
            refine wpAnyH_ready (rs := [10, 12]) (by kernel_rfl) (by simp) ?_
            refine AllReadyH.cons (o := { dst := some 60, op := Op.call { callee := Callee.value (Operand.func 36), args := #[Operand.tmp 55, Operand.tmp 57, Operand.tmp 59], argTypes := #[55, 55, 55] }, type := 31, pos := "ref.go:69", after := #[{ on := 5, ground := Ground.data }, { on := 7, ground := Ground.data }, { on := 9, ground := Ground.data }, { on := 3, ground := Ground.chain }], guard := none }) rfl (fun K hK => ?_) ?_
            · go_simp
              refine (N2 _).mono ?_
              rintro e' w1 ⟨y, rfl, hy, os2, m2, rfl⟩
              (try simp only [Gr.of_drew] at hy); (try simp only [Gr.gr] at hy); (try simp only [Array.append_assoc] at hy)
              obtain ⟨ys, ya, yn, yc, rfl⟩ := hy.shape
              (try go_wp2_with fail)
              refine hK.out _ _ (by (try dsimp only); simp [go_sem, g4, g5, kg]) (fun hHeld2 => ?_)
              clear hK K hHeld
              have hHeld := hHeld2
              clear hHeld2
              (try simp only [Act.put, List.setIfInBounds_toArray, List.set_cons_zero, List.set_cons_succ])
              refine wpAnyH_ready (rs := [11, 12]) (by kernel_rfl) (by simp) ?_
              refine AllReadyH.cons (o := { dst := some 61, op := Op.call { callee := Callee.value (Operand.func 23), args := #[Operand.tmp 53, Operand.tmp 60], argTypes := #[31, 31] }, type := 31, pos := "ref.go:69", after := #[{ on := 3, ground := Ground.data }, { on := 10, ground := Ground.data }, { on := 10, ground := Ground.chain }], guard := none }) rfl (fun K hK => ?_) ?_
              · go_simp
                refine (M2 _ _ _ (hx.kb ?_) (hy.kb ?_)).mono ?_
                · with_reducible repeat (first | exact Kb.refl _ | refine Kb.box ?_ (by first | (simp; done) | (simp [Gr.size]; done)) _ _ _ _ _ _ _ _ _ | refine Kb.gr ?_ (by first | (simp; done) | (simp [Gr.size]; done)) _ _ _ | refine Kb.gr_app ?_ (by first | (simp; done) | (simp [Gr.size]; done)) _ _ _ _ | refine Kb.drew_l ?_ | refine Kb.drew_r ?_ | refine Kb.grow ?_ _ _ | refine Kb.lay ?_ _)
                · with_reducible repeat (first | exact Kb.refl _ | refine Kb.box ?_ (by first | (simp; done) | (simp [Gr.size]; done)) _ _ _ _ _ _ _ _ _ | refine Kb.gr ?_ (by first | (simp; done) | (simp [Gr.size]; done)) _ _ _ | refine Kb.gr_app ?_ (by first | (simp; done) | (simp [Gr.size]; done)) _ _ _ _ | refine Kb.drew_l ?_ | refine Kb.drew_r ?_ | refine Kb.grow ?_ _ _ | refine Kb.lay ?_ _)
                rintro e' w1 ⟨t, rfl, ht, os3, m3, rfl⟩
                (try simp only [Gr.of_drew] at ht); (try simp only [Gr.gr] at ht); (try simp only [Array.append_assoc] at ht)
                obtain ⟨ps, pa, pn, pc, rfl⟩ := ht.shape
                (try go_wp2_with fail)
                refine hK.out _ _ (by (try dsimp only); simp [go_sem, g4, g5, kg]) (fun hHeld2 => ?_)
                clear hK K hHeld
                have hHeld := hHeld2
                clear hHeld2
                (try simp only [Act.put, List.setIfInBounds_toArray, List.set_cons_zero, List.set_cons_succ])
                refine wpAnyH_ready (rs := [12]) (by kernel_rfl) (by simp) ?_
                refine AllReadyH.cons (o := { dst := some 15, op := Op.alloc 31, type := 0, pos := "ref.go:69", after := #[], guard := none }) rfl (fun K hK => ?_) ?_
                · go_simp
                  refine hK.out _ _ (by (try dsimp only); simp [go_sem, g4, g5, kg]) (fun hHeld2 => ?_)
                  clear hK K hHeld
                  have hHeld := hHeld2
                  clear hHeld2
                  (try simp only [Act.put, List.setIfInBounds_toArray, List.set_cons_zero, List.set_cons_succ])
                  refine wpAnyH_ready (rs := [13]) (by kernel_rfl) (by simp) ?_
                  refine AllReadyH.cons (o := { dst := none, op := Op.store 31 (Operand.tmp 15) (Operand.tmp 61), type := 0, pos := "ref.go:69", after := #[{ on := 12, ground := Ground.data }, { on := 11, ground := Ground.data }, { on := 11, ground := Ground.chain }, { on := 0, ground := Ground.phase }, { on := 1, ground := Ground.phase }, { on := 2, ground := Ground.phase }, { on := 3, ground := Ground.phase }, { on := 4, ground := Ground.phase }, { on := 5, ground := Ground.phase }, { on := 6, ground := Ground.phase }, { on := 7, ground := Ground.phase }, { on := 8, ground := Ground.phase }, { on := 9, ground := Ground.phase }, { on := 10, ground := Ground.phase }, { on := 11, ground := Ground.phase }, { on := 12, ground := Ground.phase }], guard := none }) rfl (fun K hK => ?_) ?_
                  · go_simp
                    refine hK.out _ _ (by (try dsimp only); simp [go_sem, g4, g5, kg]) (fun hHeld2 => ?_)
                    clear hK K hHeld
                    have hHeld := hHeld2
                    clear hHeld2
                    (try simp only [Act.put, List.setIfInBounds_toArray, List.set_cons_zero, List.set_cons_succ])
                    refine wpAnyH_done (by kernel_rfl) ?_ _
                    go_wp2
                    go_meet
                    case rel =>
                      refine ⟨_, ps, pa, pn, pc, rfl, ?_, ?_, ?_, ?_, ht.kb ?_, (by with_reducible repeat (first | exact IsGr.refl _ | refine IsGr.gr ?_ _ _ | refine IsGr.alloc ?_ _ | refine IsGr.drew ?_ | refine IsGr.drewN ?_ _))⟩
                      · first | omega | (simp [Gr.size]; done) | (simp [Gr.size]; omega)
                      · first | omega | (simp [Gr.size]; done) | (simp [Gr.size]; omega)
                      · simp [go_sem]
                      · simp [go_sem]
                      · with_reducible repeat (first | exact Kb.refl _ | refine Kb.box ?_ (by first | (simp; done) | (simp [Gr.size]; done)) _ _ _ _ _ _ _ _ _ | refine Kb.gr ?_ (by first | (simp; done) | (simp [Gr.size]; done)) _ _ _ | refine Kb.gr_app ?_ (by first | (simp; done) | (simp [Gr.size]; done)) _ _ _ _ | refine Kb.drew_l ?_ | refine Kb.drew_r ?_ | refine Kb.grow ?_ _ _ | refine Kb.lay ?_ _)
                  exact AllReadyH.nil
                exact AllReadyH.nil
              refine AllReadyH.cons (o := { dst := some 15, op := Op.alloc 31, type := 0, pos := "ref.go:69", after := #[], guard := none }) rfl (fun K hK => ?_) ?_
              · go_simp
                refine hK.out _ _ (by (try dsimp only); simp [go_sem, g4, g5, kg]) (fun hHeld2 => ?_)
                clear hK K hHeld
                have hHeld := hHeld2
                clear hHeld2
                (try simp only [Act.put, List.setIfInBounds_toArray, List.set_cons_zero, List.set_cons_succ])
                refine wpAnyH_ready (rs := [11]) (by kernel_rfl) (by simp) ?_
                refine AllReadyH.cons (o := { dst := some 61, op := Op.call { callee := Callee.value (Operand.func 23), args := #[Operand.tmp 53, Operand.tmp 60], argTypes := #[31, 31] }, type := 31, pos := "ref.go:69", after := #[{ on := 3, ground := Ground.data }, { on := 10, ground := Ground.data }, { on := 10, ground := Ground.chain }], guard := none }) rfl (fun K hK => ?_) ?_
                · go_simp
                  refine (M2 _ _ _ (hx.kb ?_) (hy.kb ?_)).mono ?_
                  · with_reducible repeat (first | exact Kb.refl _ | refine Kb.box ?_ (by first | (simp; done) | (simp [Gr.size]; done)) _ _ _ _ _ _ _ _ _ | refine Kb.gr ?_ (by first | (simp; done) | (simp [Gr.size]; done)) _ _ _ | refine Kb.gr_app ?_ (by first | (simp; done) | (simp [Gr.size]; done)) _ _ _ _ | refine Kb.drew_l ?_ | refine Kb.drew_r ?_ | refine Kb.grow ?_ _ _ | refine Kb.lay ?_ _)
                  · with_reducible repeat (first | exact Kb.refl _ | refine Kb.box ?_ (by first | (simp; done) | (simp [Gr.size]; done)) _ _ _ _ _ _ _ _ _ | refine Kb.gr ?_ (by first | (simp; done) | (simp [Gr.size]; done)) _ _ _ | refine Kb.gr_app ?_ (by first | (simp; done) | (simp [Gr.size]; done)) _ _ _ _ | refine Kb.drew_l ?_ | refine Kb.drew_r ?_ | refine Kb.grow ?_ _ _ | refine Kb.lay ?_ _)
                  rintro e' w1 ⟨t, rfl, ht, os3, m3, rfl⟩
                  (try simp only [Gr.of_drew] at ht); (try simp only [Gr.gr] at ht); (try simp only [Array.append_assoc] at ht)
                  obtain ⟨ps, pa, pn, pc, rfl⟩ := ht.shape
                  (try go_wp2_with fail)
                  refine hK.out _ _ (by (try dsimp only); simp [go_sem, g4, g5, kg]) (fun hHeld2 => ?_)
                  clear hK K hHeld
                  have hHeld := hHeld2
                  clear hHeld2
                  (try simp only [Act.put, List.setIfInBounds_toArray, List.set_cons_zero, List.set_cons_succ])
                  refine wpAnyH_ready (rs := [13]) (by kernel_rfl) (by simp) ?_
                  refine AllReadyH.cons (o := { dst := none, op := Op.store 31 (Operand.tmp 15) (Operand.tmp 61), type := 0, pos := "ref.go:69", after := #[{ on := 12, ground := Ground.data }, { on := 11, ground := Ground.data }, { on := 11, ground := Ground.chain }, { on := 0, ground := Ground.phase }, { on := 1, ground := Ground.phase }, { on := 2, ground := Ground.phase }, { on := 3, ground := Ground.phase }, { on := 4, ground := Ground.phase }, { on := 5, ground := Ground.phase }, { on := 6, ground := Ground.phase }, { on := 7, ground := Ground.phase }, { on := 8, ground := Ground.phase }, { on := 9, ground := Ground.phase }, { on := 10, ground := Ground.phase }, { on := 11, ground := Ground.phase }, { on := 12, ground := Ground.phase }], guard := none }) rfl (fun K hK => ?_) ?_
                  · go_simp
                    refine hK.out _ _ (by (try dsimp only); simp [go_sem, g4, g5, kg]) (fun hHeld2 => ?_)
                    clear hK K hHeld
                    have hHeld := hHeld2
                    clear hHeld2
                    (try simp only [Act.put, List.setIfInBounds_toArray, List.set_cons_zero, List.set_cons_succ])
                    refine wpAnyH_done (by kernel_rfl) ?_ _
                    go_wp2
                    go_meet
                    case rel =>
                      refine ⟨_, ps, pa, pn, pc, rfl, ?_, ?_, ?_, ?_, ht.kb ?_, (by with_reducible repeat (first | exact IsGr.refl _ | refine IsGr.gr ?_ _ _ | refine IsGr.alloc ?_ _ | refine IsGr.drew ?_ | refine IsGr.drewN ?_ _))⟩
                      · first | omega | (simp [Gr.size]; done) | (simp [Gr.size]; omega)
                      · first | omega | (simp [Gr.size]; done) | (simp [Gr.size]; omega)
                      · simp [go_sem]
                      · simp [go_sem]
                      · with_reducible repeat (first | exact Kb.refl _ | refine Kb.box ?_ (by first | (simp; done) | (simp [Gr.size]; done)) _ _ _ _ _ _ _ _ _ | refine Kb.gr ?_ (by first | (simp; done) | (simp [Gr.size]; done)) _ _ _ | refine Kb.gr_app ?_ (by first | (simp; done) | (simp [Gr.size]; done)) _ _ _ _ | refine Kb.drew_l ?_ | refine Kb.drew_r ?_ | refine Kb.grow ?_ _ _ | refine Kb.lay ?_ _)
                  exact AllReadyH.nil
                exact AllReadyH.nil
              exact AllReadyH.nil
            refine AllReadyH.cons (o := { dst := some 15, op := Op.alloc 31, type := 0, pos := "ref.go:69", after := #[], guard := none }) rfl (fun K hK => ?_) ?_
            · go_simp
              refine hK.out _ _ (by (try dsimp only); simp [go_sem, g4, g5, kg]) (fun hHeld2 => ?_)
              clear hK K hHeld
              have hHeld := hHeld2
              clear hHeld2
              (try simp only [Act.put, List.setIfInBounds_toArray, List.set_cons_zero, List.set_cons_succ])
              refine wpAnyH_ready (rs := [10]) (by kernel_rfl) (by simp) ?_
              refine AllReadyH.cons (o := { dst := some 60, op := Op.call { callee := Callee.value (Operand.func 36), args := #[Operand.tmp 55, Operand.tmp 57, Operand.tmp 59], argTypes := #[55, 55, 55] }, type := 31, pos := "ref.go:69", after := #[{ on := 5, ground := Ground.data }, { on := 7, ground := Ground.data }, { on := 9, ground := Ground.data }, { on := 3, ground := Ground.chain }], guard := none }) rfl (fun K hK => ?_) ?_
              · go_simp
                refine (N2 _).mono ?_
                rintro e' w1 ⟨y, rfl, hy, os2, m2, rfl⟩
                (try simp only [Gr.of_drew] at hy); (try simp only [Gr.gr] at hy); (try simp only [Array.append_assoc] at hy)
                obtain ⟨ys, ya, yn, yc, rfl⟩ := hy.shape
                (try go_wp2_with fail)
                refine hK.out _ _ (by (try dsimp only); simp [go_sem, g4, g5, kg]) (fun hHeld2 => ?_)
                clear hK K hHeld
                have hHeld := hHeld2
                clear hHeld2
                (try simp only [Act.put, List.setIfInBounds_toArray, List.set_cons_zero, List.set_cons_succ])
                refine wpAnyH_ready (rs := [11]) (by kernel_rfl) (by simp) ?_
                refine AllReadyH.cons (o := { dst := some 61, op := Op.call { callee := Callee.value (Operand.func 23), args := #[Operand.tmp 53, Operand.tmp 60], argTypes := #[31, 31] }, type := 31, pos := "ref.go:69", after := #[{ on := 3, ground := Ground.data }, { on := 10, ground := Ground.data }, { on := 10, ground := Ground.chain }], guard := none }) rfl (fun K hK => ?_) ?_
                · go_simp
                  refine (M2 _ _ _ (hx.kb ?_) (hy.kb ?_)).mono ?_
                  · with_reducible repeat (first | exact Kb.refl _ | refine Kb.box ?_ (by first | (simp; done) | (simp [Gr.size]; done)) _ _ _ _ _ _ _ _ _ | refine Kb.gr ?_ (by first | (simp; done) | (simp [Gr.size]; done)) _ _ _ | refine Kb.gr_app ?_ (by first | (simp; done) | (simp [Gr.size]; done)) _ _ _ _ | refine Kb.drew_l ?_ | refine Kb.drew_r ?_ | refine Kb.grow ?_ _ _ | refine Kb.lay ?_ _)
                  · with_reducible repeat (first | exact Kb.refl _ | refine Kb.box ?_ (by first | (simp; done) | (simp [Gr.size]; done)) _ _ _ _ _ _ _ _ _ | refine Kb.gr ?_ (by first | (simp; done) | (simp [Gr.size]; done)) _ _ _ | refine Kb.gr_app ?_ (by first | (simp; done) | (simp [Gr.size]; done)) _ _ _ _ | refine Kb.drew_l ?_ | refine Kb.drew_r ?_ | refine Kb.grow ?_ _ _ | refine Kb.lay ?_ _)
                  rintro e' w1 ⟨t, rfl, ht, os3, m3, rfl⟩
                  (try simp only [Gr.of_drew] at ht); (try simp only [Gr.gr] at ht); (try simp only [Array.append_assoc] at ht)
                  obtain ⟨ps, pa, pn, pc, rfl⟩ := ht.shape
                  (try go_wp2_with fail)
                  refine hK.out _ _ (by (try dsimp only); simp [go_sem, g4, g5, kg]) (fun hHeld2 => ?_)
                  clear hK K hHeld
                  have hHeld := hHeld2
                  clear hHeld2
                  (try simp only [Act.put, List.setIfInBounds_toArray, List.set_cons_zero, List.set_cons_succ])
                  refine wpAnyH_ready (rs := [13]) (by kernel_rfl) (by simp) ?_
                  refine AllReadyH.cons (o := { dst := none, op := Op.store 31 (Operand.tmp 15) (Operand.tmp 61), type := 0, pos := "ref.go:69", after := #[{ on := 12, ground := Ground.data }, { on := 11, ground := Ground.data }, { on := 11, ground := Ground.chain }, { on := 0, ground := Ground.phase }, { on := 1, ground := Ground.phase }, { on := 2, ground := Ground.phase }, { on := 3, ground := Ground.phase }, { on := 4, ground := Ground.phase }, { on := 5, ground := Ground.phase }, { on := 6, ground := Ground.phase }, { on := 7, ground := Ground.phase }, { on := 8, ground := Ground.phase }, { on := 9, ground := Ground.phase }, { on := 10, ground := Ground.phase }, { on := 11, ground := Ground.phase }, { on := 12, ground := Ground.phase }], guard := none }) rfl (fun K hK => ?_) ?_
                  · go_simp
                    refine hK.out _ _ (by (try dsimp only); simp [go_sem, g4, g5, kg]) (fun hHeld2 => ?_)
                    clear hK K hHeld
                    have hHeld := hHeld2
                    clear hHeld2
                    (try simp only [Act.put, List.setIfInBounds_toArray, List.set_cons_zero, List.set_cons_succ])
                    refine wpAnyH_done (by kernel_rfl) ?_ _
                    go_wp2
                    go_meet
                    case rel =>
                      refine ⟨_, ps, pa, pn, pc, rfl, ?_, ?_, ?_, ?_, ht.kb ?_, (by with_reducible repeat (first | exact IsGr.refl _ | refine IsGr.gr ?_ _ _ | refine IsGr.alloc ?_ _ | refine IsGr.drew ?_ | refine IsGr.drewN ?_ _))⟩
                      · first | omega | (simp [Gr.size]; done) | (simp [Gr.size]; omega)
                      · first | omega | (simp [Gr.size]; done) | (simp [Gr.size]; omega)
                      · simp [go_sem]
                      · simp [go_sem]
                      · with_reducible repeat (first | exact Kb.refl _ | refine Kb.box ?_ (by first | (simp; done) | (simp [Gr.size]; done)) _ _ _ _ _ _ _ _ _ | refine Kb.gr ?_ (by first | (simp; done) | (simp [Gr.size]; done)) _ _ _ | refine Kb.gr_app ?_ (by first | (simp; done) | (simp [Gr.size]; done)) _ _ _ _ | refine Kb.drew_l ?_ | refine Kb.drew_r ?_ | refine Kb.grow ?_ _ _ | refine Kb.lay ?_ _)
                  exact AllReadyH.nil
                exact AllReadyH.nil
              exact AllReadyH.nil
            exact AllReadyH.nil
          refine AllReadyH.cons (o := { dst := some 15, op := Op.alloc 31, type := 0, pos := "ref.go:69", after := #[], guard := none }) rfl (fun K hK => ?_) ?_
          · go_simp
            refine hK.out _ _ (by (try dsimp only); simp [go_sem, g4, g5, kg]) (fun hHeld2 => ?_)
            clear hK K hHeld
            have hHeld := hHeld2
            clear hHeld2
            (try simp only [Act.put, List.setIfInBounds_toArray, List.set_cons_zero, List.set_cons_succ])
            refine wpAnyH_ready (rs := [3]) (by kernel_rfl) (by simp) ?_
            refine AllReadyH.cons (o := { dst := some 53, op := Op.call { callee := Callee.value (Operand.func 67), args := #[Operand.tmp 52], argTypes := #[55] }, type := 31, pos := "ref.go:69", after := #[{ on := 2, ground := Ground.data }], guard := none }) rfl (fun K hK => ?_) ?_
            · go_simp
              refine (F2 _).mono ?_
              rintro e' w1 ⟨x, rfl, hx, os1, m1, rfl⟩
              (try simp only [Gr.of_drew] at hx); (try simp only [Gr.gr] at hx); (try simp only [Array.append_assoc] at hx)
              obtain ⟨xs, xa, xn, xc, rfl⟩ := hx.shape
              (try go_wp2_with fail)
              refine hK.out _ _ (by (try dsimp only); simp [go_sem, g4, g5, kg]) (fun hHeld2 => ?_)
              clear hK K hHeld
              have hHeld := hHeld2
              clear hHeld2
              (try simp only [Act.put, List.setIfInBounds_toArray, List.set_cons_zero, List.set_cons_succ])
              refine wpAnyH_ready (rs := [10]) (by kernel_rfl) (by simp) ?_
              refine AllReadyH.cons (o := { dst := some 60, op := Op.call { callee := Callee.value (Operand.func 36), args := #[Operand.tmp 55, Operand.tmp 57, Operand.tmp 59], argTypes := #[55, 55, 55] }, type := 31, pos := "ref.go:69", after := #[{ on := 5, ground := Ground.data }, { on := 7, ground := Ground.data }, { on := 9, ground := Ground.data }, { on := 3, ground := Ground.chain }], guard := none }) rfl (fun K hK => ?_) ?_
              · go_simp
                refine (N2 _).mono ?_
                rintro e' w1 ⟨y, rfl, hy, os2, m2, rfl⟩
                (try simp only [Gr.of_drew] at hy); (try simp only [Gr.gr] at hy); (try simp only [Array.append_assoc] at hy)
                obtain ⟨ys, ya, yn, yc, rfl⟩ := hy.shape
                (try go_wp2_with fail)
                refine hK.out _ _ (by (try dsimp only); simp [go_sem, g4, g5, kg]) (fun hHeld2 => ?_)
                clear hK K hHeld
                have hHeld := hHeld2
                clear hHeld2
                (try simp only [Act.put, List.setIfInBounds_toArray, List.set_cons_zero, List.set_cons_succ])
                refine wpAnyH_ready (rs := [11]) (by kernel_rfl) (by simp) ?_
                refine AllReadyH.cons (o := { dst := some 61, op := Op.call { callee := Callee.value (Operand.func 23), args := #[Operand.tmp 53, Operand.tmp 60], argTypes := #[31, 31] }, type := 31, pos := "ref.go:69", after := #[{ on := 3, ground := Ground.data }, { on := 10, ground := Ground.data }, { on := 10, ground := Ground.chain }], guard := none }) rfl (fun K hK => ?_) ?_
                · go_simp
                  refine (M2 _ _ _ (hx.kb ?_) (hy.kb ?_)).mono ?_
                  · with_reducible repeat (first | exact Kb.refl _ | refine Kb.box ?_ (by first | (simp; done) | (simp [Gr.size]; done)) _ _ _ _ _ _ _ _ _ | refine Kb.gr ?_ (by first | (simp; done) | (simp [Gr.size]; done)) _ _ _ | refine Kb.gr_app ?_ (by first | (simp; done) | (simp [Gr.size]; done)) _ _ _ _ | refine Kb.drew_l ?_ | refine Kb.drew_r ?_ | refine Kb.grow ?_ _ _ | refine Kb.lay ?_ _)
                  · with_reducible repeat (first | exact Kb.refl _ | refine Kb.box ?_ (by first | (simp; done) | (simp [Gr.size]; done)) _ _ _ _ _ _ _ _ _ | refine Kb.gr ?_ (by first | (simp; done) | (simp [Gr.size]; done)) _ _ _ | refine Kb.gr_app ?_ (by first | (simp; done) | (simp [Gr.size]; done)) _ _ _ _ | refine Kb.drew_l ?_ | refine Kb.drew_r ?_ | refine Kb.grow ?_ _ _ | refine Kb.lay ?_ _)
                  rintro e' w1 ⟨t, rfl, ht, os3, m3, rfl⟩
                  (try simp only [Gr.of_drew] at ht); (try simp only [Gr.gr] at ht); (try simp only [Array.append_assoc] at ht)
                  obtain ⟨ps, pa, pn, pc, rfl⟩ := ht.shape
                  (try go_wp2_with fail)
                  refine hK.out _ _ (by (try dsimp only); simp [go_sem, g4, g5, kg]) (fun hHeld2 => ?_)
                  clear hK K hHeld
                  have hHeld := hHeld2
                  clear hHeld2
                  (try simp only [Act.put, List.setIfInBounds_toArray, List.set_cons_zero, List.set_cons_succ])
                  refine wpAnyH_ready (rs := [13]) (by kernel_rfl) (by simp) ?_
                  refine AllReadyH.cons (o := { dst := none, op := Op.store 31 (Operand.tmp 15) (Operand.tmp 61), type := 0, pos := "ref.go:69", after := #[{ on := 12, ground := Ground.data }, { on := 11, ground := Ground.data }, { on := 11, ground := Ground.chain }, { on := 0, ground := Ground.phase }, { on := 1, ground := Ground.phase }, { on := 2, ground := Ground.phase }, { on := 3, ground := Ground.phase }, { on := 4, ground := Ground.phase }, { on := 5, ground := Ground.phase }, { on := 6, ground := Ground.phase }, { on := 7, ground := Ground.phase }, { on := 8, ground := Ground.phase }, { on := 9, ground := Ground.phase }, { on := 10, ground := Ground.phase }, { on := 11, ground := Ground.phase }, { on := 12, ground := Ground.phase }], guard := none }) rfl (fun K hK => ?_) ?_
                  · go_simp
                    refine hK.out _ _ (by (try dsimp only); simp [go_sem, g4, g5, kg]) (fun hHeld2 => ?_)
                    clear hK K hHeld
                    have hHeld := hHeld2
                    clear hHeld2
                    (try simp only [Act.put, List.setIfInBounds_toArray, List.set_cons_zero, List.set_cons_succ])
                    refine wpAnyH_done (by kernel_rfl) ?_ _
                    go_wp2
                    go_meet
                    case rel =>
                      refine ⟨_, ps, pa, pn, pc, rfl, ?_, ?_, ?_, ?_, ht.kb ?_, (by with_reducible repeat (first | exact IsGr.refl _ | refine IsGr.gr ?_ _ _ | refine IsGr.alloc ?_ _ | refine IsGr.drew ?_ | refine IsGr.drewN ?_ _))⟩
                      · first | omega | (simp [Gr.size]; done) | (simp [Gr.size]; omega)
                      · first | omega | (simp [Gr.size]; done) | (simp [Gr.size]; omega)
                      · simp [go_sem]
                      · simp [go_sem]
                      · with_reducible repeat (first | exact Kb.refl _ | refine Kb.box ?_ (by first | (simp; done) | (simp [Gr.size]; done)) _ _ _ _ _ _ _ _ _ | refine Kb.gr ?_ (by first | (simp; done) | (simp [Gr.size]; done)) _ _ _ | refine Kb.gr_app ?_ (by first | (simp; done) | (simp [Gr.size]; done)) _ _ _ _ | refine Kb.drew_l ?_ | refine Kb.drew_r ?_ | refine Kb.grow ?_ _ _ | refine Kb.lay ?_ _)
                  exact AllReadyH.nil
                exact AllReadyH.nil
              exact AllReadyH.nil
            exact AllReadyH.nil
          exact AllReadyH.nil
        case rest =>
          obtain ⟨f, ps, pa, pn, pc, rfl, kf0, kf, ⟨e0, e1⟩, ⟨d0, d1⟩, hp, hgr⟩ := hcut
          obtain ⟨W3, hW3⟩ : ∃ W3, W3 = wc := ⟨_, rfl⟩
          subst hW3
          replace z0 := hgr.cell_at kh z0
          replace z1 := hgr.cell_at kh z1
          replace g0 := hgr.cell_at kg g0
          replace g1 := hgr.cell_at kg g1
          replace g2 := hgr.cell_at kg g2
          replace g3 := hgr.cell_at kg g3
          replace g4 := hgr.cell_at kg g4
          replace g5 := hgr.cell_at kg g5
          replace g6 := hgr.cell_at kg g6
          replace g7 := hgr.cell_at kg g7
          replace a1' := hgr.cell_at ka a1'
          replace a2' := hgr.cell_at ka a2'
          replace b1' := hgr.cell_at kb b1'
          replace b2' := hgr.cell_at kb b2'
          replace c1' := hgr.cell_at kc c1'
          replace c2' := hgr.cell_at kc c2'
          replace f0 := hgr.frozen_at kh f0
          replace f1 := hgr.frozen_at kh f1
          replace hs := hs.gr hgr
          have HB3 : Hid (Below w.heap.size w W3) := HW.out.2.trans (hgr.below.mono HW.out.2.size)
          have s1 : ¬ f = h := by omega
          have s2 : ¬ h = f := by omega
          have s3 : ¬ f = g := by omega
          have s4 : ¬ f = w.heap.size := by omega
          have s5 : ¬ f = w.heap.size + 1 := by omega
          have s6 : ¬ f = w.heap.size + 1 + 1 := by omega
          have s7 : w.heap.size ≤ f := by omega
          have hsz := hgr.size
          replace kh : h < W3.heap.size := by omega
          replace kg : g < W3.heap.size := by omega
          replace kc : w.heap.size + 1 + 1 < W3.heap.size := by omega
          replace kb : w.heap.size + 1 < W3.heap.size := by omega
          replace ka : w.heap.size < W3.heap.size := by omega
          clear hgr HW hsz kf0
          go_wp2_with fail
          refine (AD2 _ _ _ (hs.gr ?_) (hp.gr ?_)).mono ?_
          · exact (by with_reducible repeat (first | exact IsGr.refl _ | refine IsGr.gr ?_ _ _ | refine IsGr.alloc ?_ _ | refine IsGr.drew ?_ | refine IsGr.drewN ?_ _))
          · exact (by with_reducible repeat (first | exact IsGr.refl _ | refine IsGr.gr ?_ _ _ | refine IsGr.alloc ?_ _ | refine IsGr.drew ?_ | refine IsGr.drewN ?_ _))
          rintro e' w1 ⟨r, rfl, hr, os5, m5, rfl⟩
          (try simp only [Gr.of_drew] at hr); (try simp only [Gr.gr] at hr); (try simp only [Array.append_assoc] at hr)
          obtain ⟨rs, ra, rn, rc, rfl⟩ := hr.shape
          go_wp2
          have hbe := HB3.out
          have hN5 := N4.out
          go_roundw
          case rel =>
            refine ⟨3, rs, ra, rn, rc, by omega, by go_num, hr.kb ?_, ?_, ?_, ?_, ?_, ?_, ?_, ⟨?_, (by repeat (first | exact Below.refl _ _ | exact (by assumption) | refine Below.drew ?_ | refine Below.gro ?_ (by first | omega | (simp; done) | (simp; omega) | (simp [Gr.size]; omega)) _ _ | refine Below.alloc ?_ (by first | omega | (simp; done) | (simp; omega) | (simp [Gr.size]; omega)) _ | refine Below.setCell ?_ (by first | omega | (simp; done) | (simp; omega) | (simp [Gr.size]; omega)) _))⟩⟩
            · exact Kb.gr (Kb.set (Kb.set (Kb.refl _) _ _ z0 (fun n h => by cases h)) _ _ z1 (fun n h => by cases h)) (by simp) _ _ _
            · simp [go_sem, kh, z0, z1]
            · simp [go_sem, f0, f1, kh]
            · simp [go_sem, g0, g1, g2, g3, g4, g5, g6, g7, kg]
            · simp [go_sem, a1', a2', ka]
            · simp [go_sem, b1', b2', kb]
            · simp [go_sem, c1', c2', kc]
            · simp [Gr.size]; omega
          case measure => simp [intOf]
      · go_wp2
        refine wp_loop_rounds 5 ?_
        rw [rounds_succ]; go_wp2
        rw [rounds_succ]; go_wp2
        rw [rounds_succ]; go_wp2
        rw [rounds_succ]; go_wp2
        rw [rounds_succ]; go_upto_region 16 with fail
        go_cut [15] from 32 to 69 (fun t15 wx => ∃ (f : Nat) (ps : Bool) (pa : Option Addr) (pn pc : Nat), t15 = .pointer (some ⟨f, 0, none⟩) ∧ W2.heap.size ≤ f ∧ f < wx.heap.size ∧ (wx.cell? ⟨f, 0, none⟩ = some (.bool ps) ∧ wx.cell? ⟨f, 1, none⟩ = some (.slice pa pn pc)) ∧ (wx.frozen? ⟨f, 0, none⟩ = false ∧ wx.frozen? ⟨f, 1, none⟩ = false) ∧ IsBig wx (.agg #[.bool ps, .slice pa pn pc]) (l3 * q3) ∧ IsGr W2 wx)
        case first =>
          refine wp_region_held_drew (S := (fun w' => (w'.cell? ⟨g, 6, none⟩ = some (.int .i64 p1) ∧ w'.cell? ⟨g, 7, none⟩ = some (.int .i64 p2)) ∧ (w'.cell? ⟨W2.heap.size, 0, none⟩ = some (.int .i64 a1) ∧ w'.cell? ⟨W2.heap.size, 1, none⟩ = some (.int .i64 a2) ∧ w'.cell? ⟨W2.heap.size, 2, none⟩ = some (.int .i64 b1) ∧ w'.cell? ⟨W2.heap.size, 3, none⟩ = some (.int .i64 b2) ∧ w'.cell? ⟨W2.heap.size, 4, none⟩ = some (.int .i64 c1) ∧ w'.cell? ⟨W2.heap.size, 5, none⟩ = some (.int .i64 c2)))) (by kernel_rfl) (by (try dsimp only); simp [go_sem, g6, g7, kg]) (fun hHeld => ?_)
          refine wpAnyH_take (i := 0) (oi := { dst := some 50, op := Op.move (Operand.tmp 11), type := 3, pos := "ref.go:69", after := #[], guard := none }) (v := ?_) rfl (by kernel_rfl) (by kernel_rfl) (by kernel_rfl) (fun _ _ _ h => h) (Or.inl ⟨by rfl, ?_⟩) (by assumption) ?_
          rotate_left
          · (intro w hSw; (try dsimp only at hSw); go_simp <;> with_reducible rfl)
          (try simp only [Act.put, List.setIfInBounds_toArray, List.set_cons_zero, List.set_cons_succ])
          refine wpAnyH_take (i := 1) (oi := { dst := some 51, op := Op.indexAddr 94 (Operand.tmp 9) (Operand.tmp 50), type := 0, pos := "ref.go:69", after := #[{ on := 0, ground := Ground.data }], guard := none }) (v := ?_) rfl (by kernel_rfl) (by kernel_rfl) (by kernel_rfl) (fun _ _ _ h => h) (Or.inl ⟨by rfl, ?_⟩) (by assumption) ?_
          rotate_left
          · (intro w hSw; (try dsimp only at hSw); go_simp <;> with_reducible rfl)
          (try simp only [Act.put, List.setIfInBounds_toArray, List.set_cons_zero, List.set_cons_succ])
          refine wpAnyH_take (i := 2) (oi := { dst := some 52, op := Op.load 55 (Operand.tmp 51), type := 55, pos := "ref.go:69", after := #[{ on := 1, ground := Ground.data }], guard := none }) (v := ?_) rfl (by kernel_rfl) (by kernel_rfl) (by kernel_rfl) (fun _ _ _ h => h) (Or.inl ⟨by rfl, ?_⟩) (by assumption) ?_
          rotate_left
          · (intro w hSw; (try dsimp only at hSw); go_simp <;> with_reducible rfl)
          (try simp only [Act.put, List.setIfInBounds_toArray, List.set_cons_zero, List.set_cons_succ])
          refine wpAnyH_take (i := 4) (oi := { dst := some 54, op := Op.indexAddr 95 (Operand.tmp 12) (Operand.const (Value.int IntKind.i64 0)), type := 0, pos := "ref.go:69", after := #[], guard := none }) (v := ?_) rfl (by kernel_rfl) (by kernel_rfl) (by kernel_rfl) (fun _ _ _ h => h) (Or.inl ⟨by rfl, ?_⟩) (by assumption) ?_
          rotate_left
          · (intro w hSw; (try dsimp only at hSw); go_simp <;> with_reducible rfl)
          (try simp only [Act.put, List.setIfInBounds_toArray, List.set_cons_zero, List.set_cons_succ])
          refine wpAnyH_take (i := 5) (oi := { dst := some 55, op := Op.load 55 (Operand.tmp 54), type := 55, pos := "ref.go:69", after := #[{ on := 4, ground := Ground.data }], guard := none }) (v := ?_) rfl (by kernel_rfl) (by kernel_rfl) (by kernel_rfl) (fun _ _ _ h => h) (Or.inl ⟨by rfl, ?_⟩) (by assumption) ?_
          rotate_left
          · (intro w hSw; (try dsimp only at hSw); go_simp <;> with_reducible rfl)
          (try simp only [Act.put, List.setIfInBounds_toArray, List.set_cons_zero, List.set_cons_succ])
          refine wpAnyH_take (i := 6) (oi := { dst := some 56, op := Op.indexAddr 95 (Operand.tmp 12) (Operand.const (Value.int IntKind.i64 1)), type := 0, pos := "ref.go:69", after := #[], guard := none }) (v := ?_) rfl (by kernel_rfl) (by kernel_rfl) (by kernel_rfl) (fun _ _ _ h => h) (Or.inl ⟨by rfl, ?_⟩) (by assumption) ?_
          rotate_left
          · (intro w hSw; (try dsimp only at hSw); go_simp <;> with_reducible rfl)
          (try simp only [Act.put, List.setIfInBounds_toArray, List.set_cons_zero, List.set_cons_succ])
          refine wpAnyH_take (i := 7) (oi := { dst := some 57, op := Op.load 55 (Operand.tmp 56), type := 55, pos := "ref.go:69", after := #[{ on := 6, ground := Ground.data }], guard := none }) (v := ?_) rfl (by kernel_rfl) (by kernel_rfl) (by kernel_rfl) (fun _ _ _ h => h) (Or.inl ⟨by rfl, ?_⟩) (by assumption) ?_
          rotate_left
          · (intro w hSw; (try dsimp only at hSw); go_simp <;> with_reducible rfl)
          (try simp only [Act.put, List.setIfInBounds_toArray, List.set_cons_zero, List.set_cons_succ])
          refine wpAnyH_take (i := 8) (oi := { dst := some 58, op := Op.indexAddr 95 (Operand.tmp 12) (Operand.const (Value.int IntKind.i64 2)), type := 0, pos := "ref.go:69", after := #[], guard := none }) (v := ?_) rfl (by kernel_rfl) (by kernel_rfl) (by kernel_rfl) (fun _ _ _ h => h) (Or.inl ⟨by rfl, ?_⟩) (by assumption) ?_
          rotate_left
          · (intro w hSw; (try dsimp only at hSw); go_simp <;> with_reducible rfl)
          (try simp only [Act.put, List.setIfInBounds_toArray, List.set_cons_zero, List.set_cons_succ])
          refine wpAnyH_take (i := 9) (oi := { dst := some 59, op := Op.load 55 (Operand.tmp 58), type := 55, pos := "ref.go:69", after := #[{ on := 8, ground := Ground.data }], guard := none }) (v := ?_) rfl (by kernel_rfl) (by kernel_rfl) (by kernel_rfl) (fun _ _ _ h => h) (Or.inl ⟨by rfl, ?_⟩) (by assumption) ?_
          rotate_left
          · (intro w hSw; (try dsimp only at hSw); go_simp <;> with_reducible rfl)
          (try simp only [Act.put, List.setIfInBounds_toArray, List.set_cons_zero, List.set_cons_succ])
          refine wpAnyH_ready (rs := [3, 12]) (by kernel_rfl) (by simp) ?_
          refine AllReadyH.cons (o := { dst := some 53, op := Op.call { callee := Callee.value (Operand.func 67), args := #[Operand.tmp 52], argTypes := #[55] }, type := 31, pos := "ref.go:69", after := #[{ on := 2, ground := Ground.data }], guard := none }) rfl (fun K hK => ?_) ?_
          · go_simp
            refine (F3 _).mono ?_
            rintro e' w1 ⟨x, rfl, hx, os1, m1, rfl⟩
            (try simp only [Gr.of_drew] at hx); (try simp only [Gr.gr] at hx); (try simp only [Array.append_assoc] at hx)
            obtain ⟨xs, xa, xn, xc, rfl⟩ := hx.shape
            (try go_wp2_with fail)
            refine hK.out _ _ (by (try dsimp only); simp [go_sem, g6, g7, kg]) (fun hHeld2 => ?_)
            clear hK K hHeld
            have hHeld := hHeld2
            clear hHeld2
            (try simp only [Act.put, List.setIfInBounds_toArray, List.set_cons_zero, List.set_cons_succ])
            refine wpAnyH_ready (rs := [10, 12]) (by kernel_rfl) (by simp) ?_
            refine AllReadyH.cons (o := { dst := some 60, op := Op.call { callee := Callee.value (Operand.func 36), args := #[Operand.tmp 55, Operand.tmp 57, Operand.tmp 59], argTypes := #[55, 55, 55] }, type := 31, pos := "ref.go:69", after := #[{ on := 5, ground := Ground.data }, { on := 7, ground := Ground.data }, { on := 9, ground := Ground.data }, { on := 3, ground := Ground.chain }], guard := none }) rfl (fun K hK => ?_) ?_
            · go_simp
              refine (N3 _).mono ?_
              rintro e' w1 ⟨y, rfl, hy, os2, m2, rfl⟩
              (try simp only [Gr.of_drew] at hy); (try simp only [Gr.gr] at hy); (try simp only [Array.append_assoc] at hy)
              obtain ⟨ys, ya, yn, yc, rfl⟩ := hy.shape
              (try go_wp2_with fail)
              refine hK.out _ _ (by (try dsimp only); simp [go_sem, g6, g7, kg]) (fun hHeld2 => ?_)
              clear hK K hHeld
              have hHeld := hHeld2
              clear hHeld2
              (try simp only [Act.put, List.setIfInBounds_toArray, List.set_cons_zero, List.set_cons_succ])
              refine wpAnyH_ready (rs := [11, 12]) (by kernel_rfl) (by simp) ?_
              refine AllReadyH.cons (o := { dst := some 61, op := Op.call { callee := Callee.value (Operand.func 23), args := #[Operand.tmp 53, Operand.tmp 60], argTypes := #[31, 31] }, type := 31, pos := "ref.go:69", after := #[{ on := 3, ground := Ground.data }, { on := 10, ground := Ground.data }, { on := 10, ground := Ground.chain }], guard := none }) rfl (fun K hK => ?_) ?_
              · go_simp
                refine (M3 _ _ _ (hx.kb ?_) (hy.kb ?_)).mono ?_
                · with_reducible repeat (first | exact Kb.refl _ | refine Kb.box ?_ (by first | (simp; done) | (simp [Gr.size]; done)) _ _ _ _ _ _ _ _ _ | refine Kb.gr ?_ (by first | (simp; done) | (simp [Gr.size]; done)) _ _ _ | refine Kb.gr_app ?_ (by first | (simp; done) | (simp [Gr.size]; done)) _ _ _ _ | refine Kb.drew_l ?_ | refine Kb.drew_r ?_ | refine Kb.grow ?_ _ _ | refine Kb.lay ?_ _)
                · with_reducible repeat (first | exact Kb.refl _ | refine Kb.box ?_ (by first | (simp; done) | (simp [Gr.size]; done)) _ _ _ _ _ _ _ _ _ | refine Kb.gr ?_ (by first | (simp; done) | (simp [Gr.size]; done)) _ _ _ | refine Kb.gr_app ?_ (by first | (simp; done) | (simp [Gr.size]; done)) _ _ _ _ | refine Kb.drew_l ?_ | refine Kb.drew_r ?_ | refine Kb.grow ?_ _ _ | refine Kb.lay ?_ _)
                rintro e' w1 ⟨t, rfl, ht, os3, m3, rfl⟩
                (try simp only [Gr.of_drew] at ht); (try simp only [Gr.gr] at ht); (try simp only [Array.append_assoc] at ht)
                obtain ⟨ps, pa, pn, pc, rfl⟩ := ht.shape
                (try go_wp2_with fail)
                refine hK.out _ _ (by (try dsimp only); simp [go_sem, g6, g7, kg]) (fun hHeld2 => ?_)
                clear hK K hHeld
                have hHeld := hHeld2
                clear hHeld2
                (try simp only [Act.put, List.setIfInBounds_toArray, List.set_cons_zero, List.set_cons_succ])
                refine wpAnyH_ready (rs := [12]) (by kernel_rfl) (by simp) ?_
                refine AllReadyH.cons (o := { dst := some 15, op := Op.alloc 31, type := 0, pos := "ref.go:69", after := #[], guard := none }) rfl (fun K hK => ?_) ?_
                · go_simp
                  refine hK.out _ _ (by (try dsimp only); simp [go_sem, g6, g7, kg]) (fun hHeld2 => ?_)
                  clear hK K hHeld
                  have hHeld := hHeld2
                  clear hHeld2
                  (try simp only [Act.put, List.setIfInBounds_toArray, List.set_cons_zero, List.set_cons_succ])
                  refine wpAnyH_ready (rs := [13]) (by kernel_rfl) (by simp) ?_
                  refine AllReadyH.cons (o := { dst := none, op := Op.store 31 (Operand.tmp 15) (Operand.tmp 61), type := 0, pos := "ref.go:69", after := #[{ on := 12, ground := Ground.data }, { on := 11, ground := Ground.data }, { on := 11, ground := Ground.chain }, { on := 0, ground := Ground.phase }, { on := 1, ground := Ground.phase }, { on := 2, ground := Ground.phase }, { on := 3, ground := Ground.phase }, { on := 4, ground := Ground.phase }, { on := 5, ground := Ground.phase }, { on := 6, ground := Ground.phase }, { on := 7, ground := Ground.phase }, { on := 8, ground := Ground.phase }, { on := 9, ground := Ground.phase }, { on := 10, ground := Ground.phase }, { on := 11, ground := Ground.phase }, { on := 12, ground := Ground.phase }], guard := none }) rfl (fun K hK => ?_) ?_
                  · go_simp
                    refine hK.out _ _ (by (try dsimp only); simp [go_sem, g6, g7, kg]) (fun hHeld2 => ?_)
                    clear hK K hHeld
                    have hHeld := hHeld2
                    clear hHeld2
                    (try simp only [Act.put, List.setIfInBounds_toArray, List.set_cons_zero, List.set_cons_succ])
                    refine wpAnyH_done (by kernel_rfl) ?_ _
                    go_wp2
                    go_meet
                    case rel =>
                      refine ⟨_, ps, pa, pn, pc, rfl, ?_, ?_, ?_, ?_, ht.kb ?_, (by with_reducible repeat (first | exact IsGr.refl _ | refine IsGr.gr ?_ _ _ | refine IsGr.alloc ?_ _ | refine IsGr.drew ?_ | refine IsGr.drewN ?_ _))⟩
                      · first | omega | (simp [Gr.size]; done) | (simp [Gr.size]; omega)
                      · first | omega | (simp [Gr.size]; done) | (simp [Gr.size]; omega)
                      · simp [go_sem]
                      · simp [go_sem]
                      · with_reducible repeat (first | exact Kb.refl _ | refine Kb.box ?_ (by first | (simp; done) | (simp [Gr.size]; done)) _ _ _ _ _ _ _ _ _ | refine Kb.gr ?_ (by first | (simp; done) | (simp [Gr.size]; done)) _ _ _ | refine Kb.gr_app ?_ (by first | (simp; done) | (simp [Gr.size]; done)) _ _ _ _ | refine Kb.drew_l ?_ | refine Kb.drew_r ?_ | refine Kb.grow ?_ _ _ | refine Kb.lay ?_ _)
                  exact AllReadyH.nil
                exact AllReadyH.nil
              refine AllReadyH.cons (o := { dst := some 15, op := Op.alloc 31, type := 0, pos := "ref.go:69", after := #[], guard := none }) rfl (fun K hK => ?_) ?_
              · go_simp
                refine hK.out _ _ (by (try dsimp only); simp [go_sem, g6, g7, kg]) (fun hHeld2 => ?_)
                clear hK K hHeld
                have hHeld := hHeld2
                clear hHeld2
                (try simp only [Act.put, List.setIfInBounds_toArray, List.set_cons_zero, List.set_cons_succ])
                refine wpAnyH_ready (rs := [11]) (by kernel_rfl) (by simp) ?_
                refine AllReadyH.cons (o := { dst := some 61, op := Op.call { callee := Callee.value (Operand.func 23), args := #[Operand.tmp 53, Operand.tmp 60], argTypes := #[31, 31] }, type := 31, pos := "ref.go:69", after := #[{ on := 3, ground := Ground.data }, { on := 10, ground := Ground.data }, { on := 10, ground := Ground.chain }], guard := none }) rfl (fun K hK => ?_) ?_
                · go_simp
                  refine (M3 _ _ _ (hx.kb ?_) (hy.kb ?_)).mono ?_
                  · with_reducible repeat (first | exact Kb.refl _ | refine Kb.box ?_ (by first | (simp; done) | (simp [Gr.size]; done)) _ _ _ _ _ _ _ _ _ | refine Kb.gr ?_ (by first | (simp; done) | (simp [Gr.size]; done)) _ _ _ | refine Kb.gr_app ?_ (by first | (simp; done) | (simp [Gr.size]; done)) _ _ _ _ | refine Kb.drew_l ?_ | refine Kb.drew_r ?_ | refine Kb.grow ?_ _ _ | refine Kb.lay ?_ _)
                  · with_reducible repeat (first | exact Kb.refl _ | refine Kb.box ?_ (by first | (simp; done) | (simp [Gr.size]; done)) _ _ _ _ _ _ _ _ _ | refine Kb.gr ?_ (by first | (simp; done) | (simp [Gr.size]; done)) _ _ _ | refine Kb.gr_app ?_ (by first | (simp; done) | (simp [Gr.size]; done)) _ _ _ _ | refine Kb.drew_l ?_ | refine Kb.drew_r ?_ | refine Kb.grow ?_ _ _ | refine Kb.lay ?_ _)
                  rintro e' w1 ⟨t, rfl, ht, os3, m3, rfl⟩
                  (try simp only [Gr.of_drew] at ht); (try simp only [Gr.gr] at ht); (try simp only [Array.append_assoc] at ht)
                  obtain ⟨ps, pa, pn, pc, rfl⟩ := ht.shape
                  (try go_wp2_with fail)
                  refine hK.out _ _ (by (try dsimp only); simp [go_sem, g6, g7, kg]) (fun hHeld2 => ?_)
                  clear hK K hHeld
                  have hHeld := hHeld2
                  clear hHeld2
                  (try simp only [Act.put, List.setIfInBounds_toArray, List.set_cons_zero, List.set_cons_succ])
                  refine wpAnyH_ready (rs := [13]) (by kernel_rfl) (by simp) ?_
                  refine AllReadyH.cons (o := { dst := none, op := Op.store 31 (Operand.tmp 15) (Operand.tmp 61), type := 0, pos := "ref.go:69", after := #[{ on := 12, ground := Ground.data }, { on := 11, ground := Ground.data }, { on := 11, ground := Ground.chain }, { on := 0, ground := Ground.phase }, { on := 1, ground := Ground.phase }, { on := 2, ground := Ground.phase }, { on := 3, ground := Ground.phase }, { on := 4, ground := Ground.phase }, { on := 5, ground := Ground.phase }, { on := 6, ground := Ground.phase }, { on := 7, ground := Ground.phase }, { on := 8, ground := Ground.phase }, { on := 9, ground := Ground.phase }, { on := 10, ground := Ground.phase }, { on := 11, ground := Ground.phase }, { on := 12, ground := Ground.phase }], guard := none }) rfl (fun K hK => ?_) ?_
                  · go_simp
                    refine hK.out _ _ (by (try dsimp only); simp [go_sem, g6, g7, kg]) (fun hHeld2 => ?_)
                    clear hK K hHeld
                    have hHeld := hHeld2
                    clear hHeld2
                    (try simp only [Act.put, List.setIfInBounds_toArray, List.set_cons_zero, List.set_cons_succ])
                    refine wpAnyH_done (by kernel_rfl) ?_ _
                    go_wp2
                    go_meet
                    case rel =>
                      refine ⟨_, ps, pa, pn, pc, rfl, ?_, ?_, ?_, ?_, ht.kb ?_, (by with_reducible repeat (first | exact IsGr.refl _ | refine IsGr.gr ?_ _ _ | refine IsGr.alloc ?_ _ | refine IsGr.drew ?_ | refine IsGr.drewN ?_ _))⟩
                      · first | omega | (simp [Gr.size]; done) | (simp [Gr.size]; omega)
                      · first | omega | (simp [Gr.size]; done) | (simp [Gr.size]; omega)
                      · simp [go_sem]
                      · simp [go_sem]
                      · with_reducible repeat (first | exact Kb.refl _ | refine Kb.box ?_ (by first | (simp; done) | (simp [Gr.size]; done)) _ _ _ _ _ _ _ _ _ | refine Kb.gr ?_ (by first | (simp; done) | (simp [Gr.size]; done)) _ _ _ | refine Kb.gr_app ?_ (by first | (simp; done) | (simp [Gr.size]; done)) _ _ _ _ | refine Kb.drew_l ?_ | refine Kb.drew_r ?_ | refine Kb.grow ?_ _ _ | refine Kb.lay ?_ _)
                  exact AllReadyH.nil
                exact AllReadyH.nil
              exact AllReadyH.nil
            refine AllReadyH.cons (o := { dst := some 15, op := Op.alloc 31, type := 0, pos := "ref.go:69", after := #[], guard := none }) rfl (fun K hK => ?_) ?_
            · go_simp
              refine hK.out _ _ (by (try dsimp only); simp [go_sem, g6, g7, kg]) (fun hHeld2 => ?_)
              clear hK K hHeld
              have hHeld := hHeld2
              clear hHeld2
              (try simp only [Act.put, List.setIfInBounds_toArray, List.set_cons_zero, List.set_cons_succ])
              refine wpAnyH_ready (rs := [10]) (by kernel_rfl) (by simp) ?_
              refine AllReadyH.cons (o := { dst := some 60, op := Op.call { callee := Callee.value (Operand.func 36), args := #[Operand.tmp 55, Operand.tmp 57, Operand.tmp 59], argTypes := #[55, 55, 55] }, type := 31, pos := "ref.go:69", after := #[{ on := 5, ground := Ground.data }, { on := 7, ground := Ground.data }, { on := 9, ground := Ground.data }, { on := 3, ground := Ground.chain }], guard := none }) rfl (fun K hK => ?_) ?_
              · go_simp
                refine (N3 _).mono ?_
                rintro e' w1 ⟨y, rfl, hy, os2, m2, rfl⟩
                (try simp only [Gr.of_drew] at hy); (try simp only [Gr.gr] at hy); (try simp only [Array.append_assoc] at hy)
                obtain ⟨ys, ya, yn, yc, rfl⟩ := hy.shape
                (try go_wp2_with fail)
                refine hK.out _ _ (by (try dsimp only); simp [go_sem, g6, g7, kg]) (fun hHeld2 => ?_)
                clear hK K hHeld
                have hHeld := hHeld2
                clear hHeld2
                (try simp only [Act.put, List.setIfInBounds_toArray, List.set_cons_zero, List.set_cons_succ])
                refine wpAnyH_ready (rs := [11]) (by kernel_rfl) (by simp) ?_
                refine AllReadyH.cons (o := { dst := some 61, op := Op.call { callee := Callee.value (Operand.func 23), args := #[Operand.tmp 53, Operand.tmp 60], argTypes := #[31, 31] }, type := 31, pos := "ref.go:69", after := #[{ on := 3, ground := Ground.data }, { on := 10, ground := Ground.data }, { on := 10, ground := Ground.chain }], guard := none }) rfl (fun K hK => ?_) ?_
                · go_simp
                  refine (M3 _ _ _ (hx.kb ?_) (hy.kb ?_)).mono ?_
                  · with_reducible repeat (first | exact Kb.refl _ | refine Kb.box ?_ (by first | (simp; done) | (simp [Gr.size]; done)) _ _ _ _ _ _ _ _ _ | refine Kb.gr ?_ (by first | (simp; done) | (simp [Gr.size]; done)) _ _ _ | refine Kb.gr_app ?_ (by first | (simp; done) | (simp [Gr.size]; done)) _ _ _ _ | refine Kb.drew_l ?_ | refine Kb.drew_r ?_ | refine Kb.grow ?_ _ _ | refine Kb.lay ?_ _)
                  · with_reducible repeat (first | exact Kb.refl _ | refine Kb.box ?_ (by first | (simp; done) | (simp [Gr.size]; done)) _ _ _ _ _ _ _ _ _ | refine Kb.gr ?_ (by first | (simp; done) | (simp [Gr.size]; done)) _ _ _ | refine Kb.gr_app ?_ (by first | (simp; done) | (simp [Gr.size]; done)) _ _ _ _ | refine Kb.drew_l ?_ | refine Kb.drew_r ?_ | refine Kb.grow ?_ _ _ | refine Kb.lay ?_ _)
                  rintro e' w1 ⟨t, rfl, ht, os3, m3, rfl⟩
                  (try simp only [Gr.of_drew] at ht); (try simp only [Gr.gr] at ht); (try simp only [Array.append_assoc] at ht)
                  obtain ⟨ps, pa, pn, pc, rfl⟩ := ht.shape
                  (try go_wp2_with fail)
                  refine hK.out _ _ (by (try dsimp only); simp [go_sem, g6, g7, kg]) (fun hHeld2 => ?_)
                  clear hK K hHeld
                  have hHeld := hHeld2
                  clear hHeld2
                  (try simp only [Act.put, List.setIfInBounds_toArray, List.set_cons_zero, List.set_cons_succ])
                  refine wpAnyH_ready (rs := [13]) (by kernel_rfl) (by simp) ?_
                  refine AllReadyH.cons (o := { dst := none, op := Op.store 31 (Operand.tmp 15) (Operand.tmp 61), type := 0, pos := "ref.go:69", after := #[{ on := 12, ground := Ground.data }, { on := 11, ground := Ground.data }, { on := 11, ground := Ground.chain }, { on := 0, ground := Ground.phase }, { on := 1, ground := Ground.phase }, { on := 2, ground := Ground.phase }, { on := 3, ground := Ground.phase }, { on := 4, ground := Ground.phase }, { on := 5, ground := Ground.phase }, { on := 6, ground := Ground.phase }, { on := 7, ground := Ground.phase }, { on := 8, ground := Ground.phase }, { on := 9, ground := Ground.phase }, { on := 10, ground := Ground.phase }, { on := 11, ground := Ground.phase }, { on := 12, ground := Ground.phase }], guard := none }) rfl (fun K hK => ?_) ?_
                  · go_simp
                    refine hK.out _ _ (by (try dsimp only); simp [go_sem, g6, g7, kg]) (fun hHeld2 => ?_)
                    clear hK K hHeld
                    have hHeld := hHeld2
                    clear hHeld2
                    (try simp only [Act.put, List.setIfInBounds_toArray, List.set_cons_zero, List.set_cons_succ])
                    refine wpAnyH_done (by kernel_rfl) ?_ _
                    go_wp2
                    go_meet
                    case rel =>
                      refine ⟨_, ps, pa, pn, pc, rfl, ?_, ?_, ?_, ?_, ht.kb ?_, (by with_reducible repeat (first | exact IsGr.refl _ | refine IsGr.gr ?_ _ _ | refine IsGr.alloc ?_ _ | refine IsGr.drew ?_ | refine IsGr.drewN ?_ _))⟩
                      · first | omega | (simp [Gr.size]; done) | (simp [Gr.size]; omega)
                      · first | omega | (simp [Gr.size]; done) | (simp [Gr.size]; omega)
                      · simp [go_sem]
                      · simp [go_sem]
                      · with_reducible repeat (first | exact Kb.refl _ | refine Kb.box ?_ (by first | (simp; done) | (simp [Gr.size]; done)) _ _ _ _ _ _ _ _ _ | refine Kb.gr ?_ (by first | (simp; done) | (simp [Gr.size]; done)) _ _ _ | refine Kb.gr_app ?_ (by first | (simp; done) | (simp [Gr.size]; done)) _ _ _ _ | refine Kb.drew_l ?_ | refine Kb.drew_r ?_ | refine Kb.grow ?_ _ _ | refine Kb.lay ?_ _)
                  exact AllReadyH.nil
                exact AllReadyH.nil
              exact AllReadyH.nil
            exact AllReadyH.nil
          refine AllReadyH.cons (o := { dst := some 15, op := Op.alloc 31, type := 0, pos := "ref.go:69", after := #[], guard := none }) rfl (fun K hK => ?_) ?_
          · go_simp
            refine hK.out _ _ (by (try dsimp only); simp [go_sem, g6, g7, kg]) (fun hHeld2 => ?_)
            clear hK K hHeld
            have hHeld := hHeld2
            clear hHeld2
            (try simp only [Act.put, List.setIfInBounds_toArray, List.set_cons_zero, List.set_cons_succ])
            refine wpAnyH_ready (rs := [3]) (by kernel_rfl) (by simp) ?_
            refine AllReadyH.cons (o := { dst := some 53, op := Op.call { callee := Callee.value (Operand.func 67), args := #[Operand.tmp 52], argTypes := #[55] }, type := 31, pos := "ref.go:69", after := #[{ on := 2, ground := Ground.data }], guard := none }) rfl (fun K hK => ?_) ?_
            · go_simp
              refine (F3 _).mono ?_
              rintro e' w1 ⟨x, rfl, hx, os1, m1, rfl⟩
              (try simp only [Gr.of_drew] at hx); (try simp only [Gr.gr] at hx); (try simp only [Array.append_assoc] at hx)
              obtain ⟨xs, xa, xn, xc, rfl⟩ := hx.shape
              (try go_wp2_with fail)
              refine hK.out _ _ (by (try dsimp only); simp [go_sem, g6, g7, kg]) (fun hHeld2 => ?_)
              clear hK K hHeld
              have hHeld := hHeld2
              clear hHeld2
              (try simp only [Act.put, List.setIfInBounds_toArray, List.set_cons_zero, List.set_cons_succ])
              refine wpAnyH_ready (rs := [10]) (by kernel_rfl) (by simp) ?_
              refine AllReadyH.cons (o := { dst := some 60, op := Op.call { callee := Callee.value (Operand.func 36), args := #[Operand.tmp 55, Operand.tmp 57, Operand.tmp 59], argTypes := #[55, 55, 55] }, type := 31, pos := "ref.go:69", after := #[{ on := 5, ground := Ground.data }, { on := 7, ground := Ground.data }, { on := 9, ground := Ground.data }, { on := 3, ground := Ground.chain }], guard := none }) rfl (fun K hK => ?_) ?_
              · go_simp
                refine (N3 _).mono ?_
                rintro e' w1 ⟨y, rfl, hy, os2, m2, rfl⟩
                (try simp only [Gr.of_drew] at hy); (try simp only [Gr.gr] at hy); (try simp only [Array.append_assoc] at hy)
                obtain ⟨ys, ya, yn, yc, rfl⟩ := hy.shape
                (try go_wp2_with fail)
                refine hK.out _ _ (by (try dsimp only); simp [go_sem, g6, g7, kg]) (fun hHeld2 => ?_)
                clear hK K hHeld
                have hHeld := hHeld2
                clear hHeld2
                (try simp only [Act.put, List.setIfInBounds_toArray, List.set_cons_zero, List.set_cons_succ])
                refine wpAnyH_ready (rs := [11]) (by kernel_rfl) (by simp) ?_
                refine AllReadyH.cons (o := { dst := some 61, op := Op.call { callee := Callee.value (Operand.func 23), args := #[Operand.tmp 53, Operand.tmp 60], argTypes := #[31, 31] }, type := 31, pos := "ref.go:69", after := #[{ on := 3, ground := Ground.data }, { on := 10, ground := Ground.data }, { on := 10, ground := Ground.chain }], guard := none }) rfl (fun K hK => ?_) ?_
                · go_simp
                  refine (M3 _ _ _ (hx.kb ?_) (hy.kb ?_)).mono ?_
                  · with_reducible repeat (first | exact Kb.refl _ | refine Kb.box ?_ (by first | (simp; done) | (simp [Gr.size]; done)) _ _ _ _ _ _ _ _ _ | refine Kb.gr ?_ (by first | (simp; done) | (simp [Gr.size]; done)) _ _ _ | refine Kb.gr_app ?_ (by first | (simp; done) | (simp [Gr.size]; done)) _ _ _ _ | refine Kb.drew_l ?_ | refine Kb.drew_r ?_ | refine Kb.grow ?_ _ _ | refine Kb.lay ?_ _)
                  · with_reducible repeat (first | exact Kb.refl _ | refine Kb.box ?_ (by first | (simp; done) | (simp [Gr.size]; done)) _ _ _ _ _ _ _ _ _ | refine Kb.gr ?_ (by first | (simp; done) | (simp [Gr.size]; done)) _ _ _ | refine Kb.gr_app ?_ (by first | (simp; done) | (simp [Gr.size]; done)) _ _ _ _ | refine Kb.drew_l ?_ | refine Kb.drew_r ?_ | refine Kb.grow ?_ _ _ | refine Kb.lay ?_ _)
                  rintro e' w1 ⟨t, rfl, ht, os3, m3, rfl⟩
                  (try simp only [Gr.of_drew] at ht); (try simp only [Gr.gr] at ht); (try simp only [Array.append_assoc] at ht)
                  obtain ⟨ps, pa, pn, pc, rfl⟩ := ht.shape
                  (try go_wp2_with fail)
                  refine hK.out _ _ (by (try dsimp only); simp [go_sem, g6, g7, kg]) (fun hHeld2 => ?_)
                  clear hK K hHeld
                  have hHeld := hHeld2
                  clear hHeld2
                  (try simp only [Act.put, List.setIfInBounds_toArray, List.set_cons_zero, List.set_cons_succ])
                  refine wpAnyH_ready (rs := [13]) (by kernel_rfl) (by simp) ?_
                  refine AllReadyH.cons (o := { dst := none, op := Op.store 31 (Operand.tmp 15) (Operand.tmp 61), type := 0, pos := "ref.go:69", after := #[{ on := 12, ground := Ground.data }, { on := 11, ground := Ground.data }, { on := 11, ground := Ground.chain }, { on := 0, ground := Ground.phase }, { on := 1, ground := Ground.phase }, { on := 2, ground := Ground.phase }, { on := 3, ground := Ground.phase }, { on := 4, ground := Ground.phase }, { on := 5, ground := Ground.phase }, { on := 6, ground := Ground.phase }, { on := 7, ground := Ground.phase }, { on := 8, ground := Ground.phase }, { on := 9, ground := Ground.phase }, { on := 10, ground := Ground.phase }, { on := 11, ground := Ground.phase }, { on := 12, ground := Ground.phase }], guard := none }) rfl (fun K hK => ?_) ?_
                  · go_simp
                    refine hK.out _ _ (by (try dsimp only); simp [go_sem, g6, g7, kg]) (fun hHeld2 => ?_)
                    clear hK K hHeld
                    have hHeld := hHeld2
                    clear hHeld2
                    (try simp only [Act.put, List.setIfInBounds_toArray, List.set_cons_zero, List.set_cons_succ])
                    refine wpAnyH_done (by kernel_rfl) ?_ _
                    go_wp2
                    go_meet
                    case rel =>
                      refine ⟨_, ps, pa, pn, pc, rfl, ?_, ?_, ?_, ?_, ht.kb ?_, (by with_reducible repeat (first | exact IsGr.refl _ | refine IsGr.gr ?_ _ _ | refine IsGr.alloc ?_ _ | refine IsGr.drew ?_ | refine IsGr.drewN ?_ _))⟩
                      · first | omega | (simp [Gr.size]; done) | (simp [Gr.size]; omega)
                      · first | omega | (simp [Gr.size]; done) | (simp [Gr.size]; omega)
                      · simp [go_sem]
                      · simp [go_sem]
                      · with_reducible repeat (first | exact Kb.refl _ | refine Kb.box ?_ (by first | (simp; done) | (simp [Gr.size]; done)) _ _ _ _ _ _ _ _ _ | refine Kb.gr ?_ (by first | (simp; done) | (simp [Gr.size]; done)) _ _ _ | refine Kb.gr_app ?_ (by first | (simp; done) | (simp [Gr.size]; done)) _ _ _ _ | refine Kb.drew_l ?_ | refine Kb.drew_r ?_ | refine Kb.grow ?_ _ _ | refine Kb.lay ?_ _)
                  exact AllReadyH.nil
                exact AllReadyH.nil
              exact AllReadyH.nil
            exact AllReadyH.nil
          exact AllReadyH.nil
        case rest =>
          obtain ⟨f, ps, pa, pn, pc, rfl, kf0, kf, ⟨e0, e1⟩, ⟨d0, d1⟩, hp, hgr⟩ := hcut
          obtain ⟨W3, hW3⟩ : ∃ W3, W3 = wc := ⟨_, rfl⟩
          subst hW3
          replace z0 := hgr.cell_at kh z0
          replace z1 := hgr.cell_at kh z1
          replace g0 := hgr.cell_at kg g0
          replace g1 := hgr.cell_at kg g1
          replace g2 := hgr.cell_at kg g2
          replace g3 := hgr.cell_at kg g3
          replace g4 := hgr.cell_at kg g4
          replace g5 := hgr.cell_at kg g5
          replace g6 := hgr.cell_at kg g6
          replace g7 := hgr.cell_at kg g7
          replace a1' := hgr.cell_at ka a1'
          replace a2' := hgr.cell_at ka a2'
          replace b1' := hgr.cell_at kb b1'
          replace b2' := hgr.cell_at kb b2'
          replace c1' := hgr.cell_at kc c1'
          replace c2' := hgr.cell_at kc c2'
          replace f0 := hgr.frozen_at kh f0
          replace f1 := hgr.frozen_at kh f1
          replace hs := hs.gr hgr
          have HB3 : Hid (Below w.heap.size w W3) := HW.out.2.trans (hgr.below.mono HW.out.2.size)
          have s1 : ¬ f = h := by omega
          have s2 : ¬ h = f := by omega
          have s3 : ¬ f = g := by omega
          have s4 : ¬ f = w.heap.size := by omega
          have s5 : ¬ f = w.heap.size + 1 := by omega
          have s6 : ¬ f = w.heap.size + 1 + 1 := by omega
          have s7 : w.heap.size ≤ f := by omega
          have hsz := hgr.size
          replace kh : h < W3.heap.size := by omega
          replace kg : g < W3.heap.size := by omega
          replace kc : w.heap.size + 1 + 1 < W3.heap.size := by omega
          replace kb : w.heap.size + 1 < W3.heap.size := by omega
          replace ka : w.heap.size < W3.heap.size := by omega
          clear hgr HW hsz kf0
          have KE : ∀ v0 v1 : Value, Kb W3 ((W3.setCell ⟨f, 0, none⟩ v0).setCell ⟨f, 1, none⟩ v1) := fun v0 v1 => Kb.set (Kb.set (Kb.refl _) _ _ e0 (fun n h => by cases h)) _ _ e1 (fun n h => by cases h)
          go_wp2_with fail
          refine (MI3 _ _ (hp.gr ?_)).mono ?_
          · exact (by with_reducible repeat (first | exact IsGr.refl _ | refine IsGr.gr ?_ _ _ | refine IsGr.alloc ?_ _ | refine IsGr.drew ?_ | refine IsGr.drewN ?_ _))
          rintro e' w1 ⟨q, rfl, hq, os4, m4, rfl⟩
          (try simp only [Gr.of_drew] at hq); (try simp only [Gr.gr] at hq); (try simp only [Array.append_assoc] at hq)
          obtain ⟨qs, qa, qn, qc, rfl⟩ := hq.shape
          go_wp2_with fail
          refine (AD3 _ _ _ (hs.kb ?_) (hq.kb ?_)).mono ?_
          · exact Kb.grow (KE _ _) _ _
          · exact Kb.gr (KE _ _) (by simp) _ _ _
          rintro e' w1 ⟨r, rfl, hr, os5, m5, rfl⟩
          (try simp only [Gr.of_drew] at hr); (try simp only [Gr.gr] at hr); (try simp only [Array.append_assoc] at hr)
          obtain ⟨rs, ra, rn, rc, rfl⟩ := hr.shape
          go_wp2
          have hbe := HB3.out
          have hN5 := N4.out
          go_roundw
          case rel =>
            refine ⟨4, rs, ra, rn, rc, by omega, by go_num, hr.kb ?_, ?_, ?_, ?_, ?_, ?_, ?_, ⟨?_, (by repeat (first | exact Below.refl _ _ | exact (by assumption) | refine Below.drew ?_ | refine Below.gro ?_ (by first | omega | (simp; done) | (simp; omega) | (simp [Gr.size]; omega)) _ _ | refine Below.alloc ?_ (by first | omega | (simp; done) | (simp; omega) | (simp [Gr.size]; omega)) _ | refine Below.setCell ?_ (by first | omega | (simp; done) | (simp; omega) | (simp [Gr.size]; omega)) _))⟩⟩
            · exact Kb.gr (Kb.set (Kb.set (Kb.refl _) _ _ (show _ = some (Value.bool ss) by simp [go_sem, z0]) (fun n h => by cases h)) _ _ (show _ = some (Value.slice sa sn sc) by simp [go_sem, z1]) (fun n h => by cases h)) (by simp) _ _ _
            · simp [go_sem, kh, z0, z1]
            · simp [go_sem, f0, f1, kh]
            · simp [go_sem, g0, g1, g2, g3, g4, g5, g6, g7, kg]
            · simp [go_sem, a1', a2', ka]
            · simp [go_sem, b1', b2', kb]
            · simp [go_sem, c1', c2', kc]
            · simp [Gr.size]; omega
          case measure => simp [intOf]
      · go_upto_region 20 with fail
        go_region_held3 (fun w' => (w'.cell? ⟨h, 0, none⟩ = some (.bool ss) ∧ w'.cell? ⟨h, 1, none⟩ = some (.slice sa sn sc)) ∧ (w'.cell? ⟨w.heap.size, 0, none⟩ = some (.int .i64 a1) ∧ w'.cell? ⟨w.heap.size, 1, none⟩ = some (.int .i64 a2)) ∧ (w'.cell? ⟨w.heap.size + 1, 0, none⟩ = some (.int .i64 b1) ∧ w'.cell? ⟨w.heap.size + 1, 1, none⟩ = some (.int .i64 b2)) ∧ (w'.cell? ⟨w.heap.size + 1 + 1, 0, none⟩ = some (.int .i64 c1) ∧ w'.cell? ⟨w.heap.size + 1 + 1, 1, none⟩ = some (.int .i64 c2))) (simp [go_sem, z0, z1, a1', a2', b1', b2', c1', c2', kh, ka, kb, kc])
          ((first | (go_at_call 14; refine (CS _ _ (hs.gr ?_)).mono ?_; exact (by with_reducible repeat (first | exact IsGr.refl _ | refine IsGr.gr ?_ _ _ | refine IsGr.alloc ?_ _ | refine IsGr.drew ?_ | refine IsGr.drewN ?_ _)); rintro e' w1 ⟨rfl, os1, m1, rfl⟩) | (go_at_call 44; refine (CW _).mono ?_; rintro e' w1 ⟨rfl, os2, m2, rfl⟩)))
        all_goals
          go_wp2
          go_ret
          have hbe := HW.out.2
          exact ⟨ret_int' HK.out, IsGr.of_below (by repeat (first | exact Below.refl _ _ | exact (by assumption) | refine Below.drew ?_ | refine Below.gro ?_ (by first | omega | (simp; done) | (simp; omega) | (simp [Gr.size]; omega)) _ _ | refine Below.alloc ?_ (by first | omega | (simp; done) | (simp; omega) | (simp [Gr.size]; omega)) _ | refine Below.setCell ?_ (by first | omega | (simp; done) | (simp; omega) | (simp [Gr.size]; omega)) _))⟩
end Go.Proofs.Ytecohcgcffhlnaa
