/- Contracts of package cross over the loaded program: crossing. Contracts of package cross over the loaded program: Meet. -/
import Derived.Test.YtohhlhoijanjfaaGB
import Derived.Test.YtohhlhoijanjfaaGA
import Derived.Test.YtohhlhoijanjfaaX5bg
import Derived.Deep.DeepCutAuto
namespace Go.Proofs.Ytohhlhoijanjfaa
open Go.RowKit Go.Shelf
attribute [local go_sem] Gr.size Gr.cell? Gr.frozen? Gr.setCell Gr.drew Gr.drewN Gr.of_drew Gr.of_drewN Gr.gr Gr.lt_of1 Gr.le_of1 Gr.lt_of2 Gr.le_of2 Gr.lt_of3 Gr.le_of3 Gr.lt_of4 Gr.le_of4 Gr.lt_of5 Gr.le_of5 Gr.lt_of6 Gr.le_of6 Gr.lt_of7 Gr.le_of7 Gr.lt_of8 Gr.le_of8 Gr.lt_of9 Gr.le_of9 Gr.lt_of10 Gr.le_of10 Gr.lt_of11 Gr.le_of11 Gr.lt_of12 Gr.le_of12 Gr.lt_of13 Gr.le_of13 Gr.lt_of14 Gr.le_of14 Gr.lt_of15 Gr.le_of15 Gr.lt_of16 Gr.le_of16 Gr.lt_of17 Gr.le_of17 Gr.lt_of18 Gr.le_of18 Gr.lt_of19 Gr.le_of19 Gr.lt_of20 Gr.le_of20 Gr.lt_of21 Gr.le_of21 Gr.lt_of22 Gr.le_of22 Gr.lt_of23 Gr.le_of23 Gr.lt_of24 Gr.le_of24

/-- How much the ways from l to h and from m to k turn. -/
def wholeI (l1 l2 h1 h2 m1 m2 k1 k2 : Int) : Int := (h1 - l1) * (k2 - m2) - (h2 - l2) * (k1 - m1)
/-- The part of it that leads from l to where they cross. -/
def restI (l1 l2 m1 m2 k1 k2 : Int) : Int := (m1 - l1) * (k2 - m2) - (m2 - l2) * (k1 - m1)
/-- Both with the sign that makes the first one no less than 0. -/
def Signed (u v W R : Int) : Prop := (u < 0 ∧ W = -u ∧ R = -v) ∨ (¬ u < 0 ∧ W = u ∧ R = v)
theorem diff_right {a1 a2 b1 b2 : Int} (ha : rightP a1 a2 = true) (hb : rightP b1 b2 = true) : (-4398046511104 ≤ b1 - a1 ∧ b1 - a1 ≤ 4398046511104) ∧ (-4398046511104 ≤ b2 - a2 ∧ b2 - a2 ≤ 4398046511104) := by
  have a := rightP_t ha
  have b := rightP_t hb
  omega


set_option maxRecDepth 20000 in set_option maxHeartbeats 4000000 in
theorem crossing_any (a1 a2 b1 b2 c1 c2 d1 d2 l1 l2 h1 h2 m1 m2 k1 k2 W R : Int) (H : Ends2 a1 a2 b1 b2 l1 l2 h1 h2) (H' : Ends2 c1 c2 d1 d2 m1 m2 k1 k2) (r1 : segR a1 a2 b1 b2 = true) (r2 : segR c1 c2 d1 d2 = true)
    (HS : Signed (wholeI l1 l2 h1 h2 m1 m2 k1 k2) (restI l1 l2 m1 m2 k1 k2) W R) (w : World) :
    Calls Try.prog 63 #[.agg #[.int .i64 a1, .int .i64 a2, .int .i64 b1, .int .i64 b2], .agg #[.int .i64 c1, .int .i64 c2, .int .i64 d1, .int .i64 d2]] w fun e w' => e = .returned (.agg #[.int .u64 (wd0 (l1 * W + (h1 - l1) * R)), .int .u64 (wd1 (l1 * W + (h1 - l1) * R)), .int .u64 (wd2 (l1 * W + (h1 - l1) * R)), .int .u64 (wd3 (l1 * W + (h1 - l1) * R)), .int .u64 (wd0 (l2 * W + (h2 - l2) * R)), .int .u64 (wd1 (l2 * W + (h2 - l2) * R)), .int .u64 (wd2 (l2 * W + (h2 - l2) * R)), .int .u64 (wd3 (l2 * W + (h2 - l2) * R)), .int .u64 (wd0 W), .int .u64 (wd1 W), .int .u64 (wd2 W), .int .u64 (wd3 W)]) ∧ IsGr w w' := by
  have E1 := fun w => Ends_any a1 a2 b1 b2 l1 l2 h1 h2 H w
  have E2 := fun w => Ends_any c1 c2 d1 d2 m1 m2 k1 k2 H' w
  have CV := fun w => way_any a1 a2 b1 b2 l1 l2 h1 h2 H r1 w
  have CU := fun w => way_any c1 c2 d1 d2 m1 m2 k1 k2 H' r2 w
  have rl := (H.right r1).1
  have rm := (H'.right r2).1
  have CB := fun w => between_any l1 l2 m1 m2 rl rm w
  obtain ⟨b1', b2'⟩ := ends_diff H r1
  obtain ⟨b3', b4'⟩ := ends_diff H' r2
  obtain ⟨b5', b6'⟩ := diff_right rl rm
  obtain ⟨f1, f2, f3⟩ := fit_turn b1' b2' b3' b4'
  obtain ⟨f4, f5, f6⟩ := fit_turn b5' b6' b3' b4'
  have t1 := mul_le_of b1' b4'
  have t2 := mul_le_of b2' b3'
  have t3 := mul_le_of b5' b4'
  have t4 := mul_le_of b6' b3'
  have T1 := fun w => wturn_any (h1 - l1) (h2 - l2) (k1 - m1) (k2 - m2) (Fit.small b1') (Fit.small b2') (Fit.small b3') (Fit.small b4') f1 f2 f3 w
  have T2 := fun w => wturn_any (m1 - l1) (m2 - l2) (k1 - m1) (k2 - m2) (Fit.small b5') (Fit.small b6') (Fit.small b3') (Fit.small b4') f4 f5 f6 w
  have CS := fun w => fSign _ f3 w
  unfold wholeI restI at HS
  have bw : -38685626227668133590597632 ≤ (h1 - l1) * (k2 - m2) - (h2 - l2) * (k1 - m1) ∧ (h1 - l1) * (k2 - m2) - (h2 - l2) * (k1 - m1) ≤ 38685626227668133590597632 := by omega
  have br : -38685626227668133590597632 ≤ (m1 - l1) * (k2 - m2) - (m2 - l2) * (k1 - m1) ∧ (m1 - l1) * (k2 - m2) - (m2 - l2) * (k1 - m1) ≤ 38685626227668133590597632 := by omega
  generalize (h1 - l1) * (k2 - m2) - (h2 - l2) * (k1 - m1) = T at *
  generalize (m1 - l1) * (k2 - m2) - (m2 - l2) * (k1 - m1) = Q at *
  have bW : -38685626227668133590597632 ≤ W ∧ W ≤ 38685626227668133590597632 := by rcases HS with ⟨_, e, _⟩ | ⟨_, e, _⟩ <;> omega
  have bR : -38685626227668133590597632 ≤ R ∧ R ≤ 38685626227668133590597632 := by rcases HS with ⟨_, _, e⟩ | ⟨_, _, e⟩ <;> omega
  have al := rightP_t rl
  have N1 : T < 0 → W = -T → ∀ w, _ := fun h e w => xnegative T W f3 e (by unfold Fit; omega) w
  have N2 : T < 0 → R = -Q → ∀ w, _ := fun h e w => xnegative Q R f6 e (by unfold Fit; omega) w
  have s1 := mul_le_of (x := l1) (A := 2199023255552) (by omega) bW
  have s2 := mul_le_of (x := l2) (A := 2199023255552) (by omega) bW
  have s3 := mul_le_of b1' bR
  have s4 := mul_le_of b2' bR
  have O1 := fun w => fOf l1 (by omega) (by omega) w
  have O2 := fun w => fOf l2 (by omega) (by omega) w
  have fW : Fit W := by unfold Fit; omega
  have fR : Fit R := by unfold Fit; omega
  have P1 := fun w => xproduct l1 W (by unfold Fit; omega) fW (by unfold Fit; omega) w
  have P2 := fun w => xproduct (h1 - l1) R (Fit.small b1') fR (by unfold Fit; omega) w
  have P3 := fun w => xproduct l2 W (by unfold Fit; omega) fW (by unfold Fit; omega) w
  have P4 := fun w => xproduct (h2 - l2) R (Fit.small b2') fR (by unfold Fit; omega) w
  have A1 := fun w => xsum (l1 * W) ((h1 - l1) * R) (by unfold Fit; omega) (by unfold Fit; omega) (by unfold Fit; omega) w
  have A2 := fun w => xsum (l2 * W) ((h2 - l2) * R) (by unfold Fit; omega) (by unfold Fit; omega) (by unfold Fit; omega) w
  clear H H' r1 r2 rl rm b1' b2' b3' b4' b5' b6' f1 f2 f3 f4 f5 f6 t1 t2 t3 t4 bw br bW bR al s1 s2 s3 s4 fW fR
  generalize l1 * W + (h1 - l1) * R = X at *
  generalize l2 * W + (h2 - l2) * R = Y at *
  generalize l1 * W = G1 at *
  generalize l2 * W = G2 at *
  generalize (h1 - l1) * R = G3 at *
  generalize (h2 - l2) * R = G4 at *
  generalize h1 - l1 = V1 at *
  generalize h2 - l2 = V2 at *
  generalize k1 - m1 = U1 at *
  generalize k2 - m2 = U2 at *
  generalize m1 - l1 = D1 at *
  generalize m2 - l2 = D2 at *
  go_enter Try.func63, Try.ntmps63
  go_wp2_with fail
  refine (E1 _).mono ?_
  rintro e w1 ⟨rfl, os1, dr1, rfl⟩
  go_upto_region 2 with fail
  go_cut [5, 7] (fun t5 t7 wr => ∃ g5 g7 : Nat, t5 = .pointer (some ⟨g5, 0, none⟩) ∧ t7 = .pointer (some ⟨g7, 0, none⟩) ∧ g5 < wr.heap.size ∧ g7 < wr.heap.size ∧ (wr.cell? ⟨g5, 0, none⟩ = some (.int .i64 l1) ∧ wr.cell? ⟨g5, 1, none⟩ = some (.int .i64 l2)) ∧ (wr.cell? ⟨g7, 0, none⟩ = some (.int .i64 m1) ∧ wr.cell? ⟨g7, 1, none⟩ = some (.int .i64 m2)) ∧ (wr.cell? ⟨w.heap.size, 0, none⟩ = some (.int .i64 a1) ∧ wr.cell? ⟨w.heap.size, 1, none⟩ = some (.int .i64 a2) ∧ wr.cell? ⟨w.heap.size, 2, none⟩ = some (.int .i64 b1) ∧ wr.cell? ⟨w.heap.size, 3, none⟩ = some (.int .i64 b2)) ∧ (wr.cell? ⟨w.heap.size + 1, 0, none⟩ = some (.int .i64 c1) ∧ wr.cell? ⟨w.heap.size + 1, 1, none⟩ = some (.int .i64 c2) ∧ wr.cell? ⟨w.heap.size + 1, 2, none⟩ = some (.int .i64 d1) ∧ wr.cell? ⟨w.heap.size + 1, 3, none⟩ = some (.int .i64 d2)) ∧ (wr.cell? ⟨w.heap.size + 1 + 1, 0, none⟩ = some (.int .u64 0) ∧ wr.cell? ⟨w.heap.size + 1 + 1, 1, none⟩ = some (.int .u64 0) ∧ wr.cell? ⟨w.heap.size + 1 + 1, 2, none⟩ = some (.int .u64 0) ∧ wr.cell? ⟨w.heap.size + 1 + 1, 3, none⟩ = some (.int .u64 0) ∧ wr.cell? ⟨w.heap.size + 1 + 1, 4, none⟩ = some (.int .u64 0) ∧ wr.cell? ⟨w.heap.size + 1 + 1, 5, none⟩ = some (.int .u64 0) ∧ wr.cell? ⟨w.heap.size + 1 + 1, 6, none⟩ = some (.int .u64 0) ∧ wr.cell? ⟨w.heap.size + 1 + 1, 7, none⟩ = some (.int .u64 0) ∧ wr.cell? ⟨w.heap.size + 1 + 1, 8, none⟩ = some (.int .u64 0) ∧ wr.cell? ⟨w.heap.size + 1 + 1, 9, none⟩ = some (.int .u64 0) ∧ wr.cell? ⟨w.heap.size + 1 + 1, 10, none⟩ = some (.int .u64 0) ∧ wr.cell? ⟨w.heap.size + 1 + 1, 11, none⟩ = some (.int .u64 0)) ∧ (wr.frozen? ⟨w.heap.size + 1 + 1, 0, none⟩ = false ∧ wr.frozen? ⟨w.heap.size + 1 + 1, 1, none⟩ = false ∧ wr.frozen? ⟨w.heap.size + 1 + 1, 2, none⟩ = false ∧ wr.frozen? ⟨w.heap.size + 1 + 1, 3, none⟩ = false ∧ wr.frozen? ⟨w.heap.size + 1 + 1, 4, none⟩ = false ∧ wr.frozen? ⟨w.heap.size + 1 + 1, 5, none⟩ = false ∧ wr.frozen? ⟨w.heap.size + 1 + 1, 6, none⟩ = false ∧ wr.frozen? ⟨w.heap.size + 1 + 1, 7, none⟩ = false ∧ wr.frozen? ⟨w.heap.size + 1 + 1, 8, none⟩ = false ∧ wr.frozen? ⟨w.heap.size + 1 + 1, 9, none⟩ = false ∧ wr.frozen? ⟨w.heap.size + 1 + 1, 10, none⟩ = false ∧ wr.frozen? ⟨w.heap.size + 1 + 1, 11, none⟩ = false) ∧ w.heap.size + 1 + 1 < wr.heap.size ∧ Below w.heap.size w wr)
  case first =>
    go_wp2_with fail
    refine (E2 _).mono ?_
    rintro e w1 ⟨rfl, os2, dr2, rfl⟩
    go_wp2
    go_meet
    case rel =>
      refine ⟨_, _, rfl, rfl, ?_, ?_, ?_, ?_, ?_, ?_, ?_, ?_, ?_, IsGr.below (w := w) (by with_reducible repeat (first | exact IsGr.refl _ | refine IsGr.gr ?_ _ _ | refine IsGr.alloc ?_ _ | refine IsGr.drew ?_ | refine IsGr.drewN ?_ _))⟩
      · first | omega | (simp; done) | (simp; omega) | (simp [Gr.size]; done) | (simp [Gr.size]; omega)
      · first | omega | (simp; done) | (simp; omega) | (simp [Gr.size]; done) | (simp [Gr.size]; omega)
      · simp [go_sem]
      · simp [go_sem]
      · simp [go_sem]
      · simp [go_sem]
      · simp [go_sem]
      · simp [go_sem]
      · first | omega | (simp; done) | (simp; omega) | (simp [Gr.size]; done) | (simp [Gr.size]; omega)
  case rest =>
    obtain ⟨g5, g7, rfl, rfl, k5, k7, q5, q7, qa, qc, qz, qf, kr, hbe⟩ := hcut
    obtain ⟨W1, hW9⟩ : ∃ W1, W1 = wc := ⟨_, rfl⟩
    subst hW9
    have HB : Hid (Below w.heap.size w W1) := hbe
    clear hbe
    have hSO : ∀ w', IsGr W1 w' → (w'.cell? ⟨w.heap.size, 0, none⟩ = some (.int .i64 a1) ∧ w'.cell? ⟨w.heap.size, 1, none⟩ = some (.int .i64 a2) ∧ w'.cell? ⟨w.heap.size, 2, none⟩ = some (.int .i64 b1) ∧ w'.cell? ⟨w.heap.size, 3, none⟩ = some (.int .i64 b2)) ∧ (w'.cell? ⟨w.heap.size + 1, 0, none⟩ = some (.int .i64 c1) ∧ w'.cell? ⟨w.heap.size + 1, 1, none⟩ = some (.int .i64 c2) ∧ w'.cell? ⟨w.heap.size + 1, 2, none⟩ = some (.int .i64 d1) ∧ w'.cell? ⟨w.heap.size + 1, 3, none⟩ = some (.int .i64 d2)) := fun w' hg => ⟨⟨hg.cell_at (by omega) qa.1, hg.cell_at (by omega) qa.2.1, hg.cell_at (by omega) qa.2.2.1, hg.cell_at (by omega) qa.2.2.2⟩, ⟨hg.cell_at (by omega) qc.1, hg.cell_at (by omega) qc.2.1, hg.cell_at (by omega) qc.2.2.1, hg.cell_at (by omega) qc.2.2.2⟩⟩
    clear qa qc
    go_upto_region 3 with fail
    go_cut [9, 10] (fun t9 t10 wr => ∃ g9 g10 : Nat, t9 = .pointer (some ⟨g9, 0, none⟩) ∧ t10 = .pointer (some ⟨g10, 0, none⟩) ∧ g9 < wr.heap.size ∧ g10 < wr.heap.size ∧ (wr.cell? ⟨g9, 0, none⟩ = some (.int .u64 (wd0 V1)) ∧ wr.cell? ⟨g9, 1, none⟩ = some (.int .u64 (wd1 V1)) ∧ wr.cell? ⟨g9, 2, none⟩ = some (.int .u64 (wd2 V1)) ∧ wr.cell? ⟨g9, 3, none⟩ = some (.int .u64 (wd3 V1)) ∧ wr.cell? ⟨g9, 4, none⟩ = some (.int .u64 (wd0 V2)) ∧ wr.cell? ⟨g9, 5, none⟩ = some (.int .u64 (wd1 V2)) ∧ wr.cell? ⟨g9, 6, none⟩ = some (.int .u64 (wd2 V2)) ∧ wr.cell? ⟨g9, 7, none⟩ = some (.int .u64 (wd3 V2))) ∧ (wr.cell? ⟨g10, 0, none⟩ = some (.int .u64 (wd0 U1)) ∧ wr.cell? ⟨g10, 1, none⟩ = some (.int .u64 (wd1 U1)) ∧ wr.cell? ⟨g10, 2, none⟩ = some (.int .u64 (wd2 U1)) ∧ wr.cell? ⟨g10, 3, none⟩ = some (.int .u64 (wd3 U1)) ∧ wr.cell? ⟨g10, 4, none⟩ = some (.int .u64 (wd0 U2)) ∧ wr.cell? ⟨g10, 5, none⟩ = some (.int .u64 (wd1 U2)) ∧ wr.cell? ⟨g10, 6, none⟩ = some (.int .u64 (wd2 U2)) ∧ wr.cell? ⟨g10, 7, none⟩ = some (.int .u64 (wd3 U2))) ∧ IsGr W1 wr)
    case first =>
      refine wp_region_held_drew (S := (fun w' => (w'.cell? ⟨w.heap.size, 0, none⟩ = some (.int .i64 a1) ∧ w'.cell? ⟨w.heap.size, 1, none⟩ = some (.int .i64 a2) ∧ w'.cell? ⟨w.heap.size, 2, none⟩ = some (.int .i64 b1) ∧ w'.cell? ⟨w.heap.size, 3, none⟩ = some (.int .i64 b2)) ∧ (w'.cell? ⟨w.heap.size + 1, 0, none⟩ = some (.int .i64 c1) ∧ w'.cell? ⟨w.heap.size + 1, 1, none⟩ = some (.int .i64 c2) ∧ w'.cell? ⟨w.heap.size + 1, 2, none⟩ = some (.int .i64 d1) ∧ w'.cell? ⟨w.heap.size + 1, 3, none⟩ = some (.int .i64 d2)))) (by kernel_rfl) (by (try dsimp only); exact hSO _ (by with_reducible repeat (first | exact IsGr.refl _ | refine IsGr.gr ?_ _ _ | refine IsGr.alloc ?_ _ | refine IsGr.drew ?_ | refine IsGr.drewN ?_ _))) (fun hHeld => ?_)
      refine wpAnyH_take (i := 0) (oi := { dst := some 23, op := Op.load 41 (Operand.tmp 2), type := 41, pos := "cross.go:124", after := #[], guard := none }) (v := ?_) rfl (by kernel_rfl) (by kernel_rfl) (by kernel_rfl) (fun _ _ _ h => h) (Or.inl ⟨by rfl, ?_⟩) (by assumption) ?_
      rotate_left
      · (intro w hSw; (try dsimp only at hSw); go_simp <;> with_reducible rfl)
      (try simp only [Act.put, qA, qB, qC])
      refine wpAnyH_take (i := 2) (oi := { dst := some 25, op := Op.load 41 (Operand.tmp 3), type := 41, pos := "cross.go:124", after := #[], guard := none }) (v := ?_) rfl (by kernel_rfl) (by kernel_rfl) (by kernel_rfl) (fun _ _ _ h => h) (Or.inl ⟨by rfl, ?_⟩) (by assumption) ?_
      rotate_left
      · (intro w hSw; (try dsimp only at hSw); go_simp <;> with_reducible rfl)
      (try simp only [Act.put, qA, qB, qC])
      refine wpAnyH_invA [1, 3, 4, 5, 6, 7] (fun A D a w => ∃ t1 t3 t4 t5 : Value, a = ((((A.put (some 24) t1).put (some 26) t3).put (some 9) t4).put (some 10) t5) ∧ IsGr W1 w ∧ (D 1 → t1 = (.agg #[.int .u64 (wd0 V1), .int .u64 (wd1 V1), .int .u64 (wd2 V1), .int .u64 (wd3 V1), .int .u64 (wd0 V2), .int .u64 (wd1 V2), .int .u64 (wd2 V2), .int .u64 (wd3 V2)])) ∧ (D 3 → t3 = (.agg #[.int .u64 (wd0 U1), .int .u64 (wd1 U1), .int .u64 (wd2 U1), .int .u64 (wd3 U1), .int .u64 (wd0 U2), .int .u64 (wd1 U2), .int .u64 (wd2 U2), .int .u64 (wd3 U2)])) ∧ (D 4 → Bx8 W1 w 98 t4) ∧ (D 5 → Bx8 W1 w 98 t5) ∧ (D 4 → D 5 → t4 ≠ t5) ∧ (D 6 → D 4 ∧ Hx8 w 98 t4 (.int .u64 (wd0 V1)) (.int .u64 (wd1 V1)) (.int .u64 (wd2 V1)) (.int .u64 (wd3 V1)) (.int .u64 (wd0 V2)) (.int .u64 (wd1 V2)) (.int .u64 (wd2 V2)) (.int .u64 (wd3 V2))) ∧ (D 7 → D 5 ∧ Hx8 w 98 t5 (.int .u64 (wd0 U1)) (.int .u64 (wd1 U1)) (.int .u64 (wd2 U1)) (.int .u64 (wd3 U1)) (.int .u64 (wd0 U2)) (.int .u64 (wd1 U2)) (.int .u64 (wd2 U2)) (.int .u64 (wd3 U2)))) (by kernel_rfl) (by assumption) ?_ ?_ ?_
      · exact ⟨_, _, _, _, by (simp only [Act.put, qA, qB, qC]); try rfl, (by with_reducible repeat (first | exact IsGr.refl _ | refine IsGr.gr ?_ _ _ | refine IsGr.alloc ?_ _ | refine IsGr.drew ?_ | refine IsGr.drewN ?_ _)), fun h => h.elim, fun h => h.elim, fun h => h.elim, fun h => h.elim, fun h => h.elim, fun h => h.elim, fun h => h.elim⟩
      · intro D a w hD hF hSw
        obtain ⟨t1, t3, t4, t5, ha, hg, f1, f3, b4, b5, p4_5, h6, h7⟩ := hF
        replace f1 := f1 (hD 1 (by simp))
        replace f3 := f3 (hD 3 (by simp))
        replace b4 := b4 (hD 4 (by simp))
        replace b5 := b5 (hD 5 (by simp))
        replace p4_5 := p4_5 (hD 4 (by simp)) (hD 5 (by simp))
        replace h6 := (h6 (hD 6 (by simp))).2
        replace h7 := (h7 (hD 7 (by simp))).2
        subst f1
        subst f3
        clear hD hHeld
        subst ha
        (try simp only [Act.put, qA, qB, qC])
        obtain ⟨g9, rfl, hb9⟩ := h6
        obtain ⟨g10, rfl, hb10⟩ := h7
        obtain ⟨k9, c9, _⟩ := block_cells8 hb9
        obtain ⟨k10, c10, _⟩ := block_cells8 hb10
        go_wp2
        go_meet
        case rel => exact ⟨g9, g10, rfl, rfl, k9, k10, c9, c10, hg⟩
      refine StepI.cons (i := 1) (o := { dst := some 24, op := Op.call { callee := Callee.value (Operand.func 71), args := #[Operand.tmp 23], argTypes := #[41] }, type := 98, pos := "cross.go:124", after := #[{ on := 0, ground := Ground.data }], guard := none }) (ns := []) rfl (by kernel_rfl) (fun D a w nD hn hF hSw K hK => ?_) ?_
      · obtain ⟨t1, t3, t4, t5, ha, hg, f1, f3, b4, b5, p4_5, h6, h7⟩ := hF
        subst ha
        (try simp only [Act.put, qA, qB, qC])
        go_simp
        refine (CV _).mono ?_
        rintro e w1 ⟨rfl, hg1⟩
        (try go_wp2_with fail)
        refine hK.out _ _ (hSO _ (hg.trans hg1)) (fun _ => ?_)
        refine ⟨_, t3, t4, t5, by (simp only [Act.put, qA, qB, qC]); try rfl, (hg.trans hg1), ?_, ?_, ?_, ?_, ?_, ?_, ?_⟩
        · exact fun _ => rfl
        · exact fun h => f3 (Or.resolve_left h (by decide))
        · exact fun h => (b4 (Or.resolve_left h (by decide))).gr hg1
        · exact fun h => (b5 (Or.resolve_left h (by decide))).gr hg1
        · exact fun h h' => p4_5 (Or.resolve_left h (by decide)) (Or.resolve_left h' (by decide))
        · exact fun h => (h6 (Or.resolve_left h (by decide))).imp Or.inr (fun x => x.gr hg1)
        · exact fun h => (h7 (Or.resolve_left h (by decide))).imp Or.inr (fun x => x.gr hg1)
      refine StepI.cons (i := 3) (o := { dst := some 26, op := Op.call { callee := Callee.value (Operand.func 71), args := #[Operand.tmp 25], argTypes := #[41] }, type := 98, pos := "cross.go:124", after := #[{ on := 2, ground := Ground.data }, { on := 1, ground := Ground.chain }], guard := none }) (ns := [1]) rfl (by kernel_rfl) (fun D a w nD hn hF hSw K hK => ?_) ?_
      · obtain ⟨t1, t3, t4, t5, ha, hg, f1, f3, b4, b5, p4_5, h6, h7⟩ := hF
        have d1 : D 1 := hn 1 (by simp)
        have s1 := f1 d1
        subst s1
        subst ha
        (try simp only [Act.put, qA, qB, qC])
        go_simp
        refine (CU _).mono ?_
        rintro e w1 ⟨rfl, hg1⟩
        (try go_wp2_with fail)
        refine hK.out _ _ (hSO _ (hg.trans hg1)) (fun _ => ?_)
        refine ⟨_, _, t4, t5, by (simp only [Act.put, qA, qB, qC]); try rfl, (hg.trans hg1), ?_, ?_, ?_, ?_, ?_, ?_, ?_⟩
        · exact fun _ => rfl
        · exact fun _ => rfl
        · exact fun h => (b4 (Or.resolve_left h (by decide))).gr hg1
        · exact fun h => (b5 (Or.resolve_left h (by decide))).gr hg1
        · exact fun h h' => p4_5 (Or.resolve_left h (by decide)) (Or.resolve_left h' (by decide))
        · exact fun h => (h6 (Or.resolve_left h (by decide))).imp Or.inr (fun x => x.gr hg1)
        · exact fun h => (h7 (Or.resolve_left h (by decide))).imp Or.inr (fun x => x.gr hg1)
      refine StepI.cons (i := 4) (o := { dst := some 9, op := Op.alloc 98, type := 0, pos := "cross.go:124", after := #[], guard := none }) (ns := []) rfl (by kernel_rfl) (fun D a w nD hn hF hSw K hK => ?_) ?_
      · obtain ⟨t1, t3, t4, t5, ha, hg, f1, f3, b4, b5, p4_5, h6, h7⟩ := hF
        subst ha
        (try simp only [Act.put, qA, qB, qC])
        go_simp
        refine hK.out _ _ (hSO _ (hg.alloc _)) (fun _ => ?_)
        refine ⟨t1, t3, _, t5, by (simp only [Act.put, qA, qB, qC]); try rfl, (hg.alloc _), ?_, ?_, ?_, ?_, ?_, ?_, ?_⟩
        · exact fun h => f1 (Or.resolve_left h (by decide))
        · exact fun h => f3 (Or.resolve_left h (by decide))
        · exact fun _ => Bx8.lay hg _ _ _ _ _ _ _ _
        · exact fun h => (b5 (Or.resolve_left h (by decide))).gr ((IsGr.refl _).alloc _)
        · exact fun _ h' => Ne.symm (b5 (Or.resolve_left h' (by decide))).ne
        · exact fun h => absurd (h6 (Or.resolve_left h (by decide))).1 nD
        · exact fun h => (h7 (Or.resolve_left h (by decide))).imp Or.inr (fun x => x.gr ((IsGr.refl _).alloc _))
      refine StepI.cons (i := 5) (o := { dst := some 10, op := Op.alloc 98, type := 0, pos := "cross.go:124", after := #[], guard := none }) (ns := []) rfl (by kernel_rfl) (fun D a w nD hn hF hSw K hK => ?_) ?_
      · obtain ⟨t1, t3, t4, t5, ha, hg, f1, f3, b4, b5, p4_5, h6, h7⟩ := hF
        subst ha
        (try simp only [Act.put, qA, qB, qC])
        go_simp
        refine hK.out _ _ (hSO _ (hg.alloc _)) (fun _ => ?_)
        refine ⟨t1, t3, t4, _, by (simp only [Act.put, qA, qB, qC]); try rfl, (hg.alloc _), ?_, ?_, ?_, ?_, ?_, ?_, ?_⟩
        · exact fun h => f1 (Or.resolve_left h (by decide))
        · exact fun h => f3 (Or.resolve_left h (by decide))
        · exact fun h => (b4 (Or.resolve_left h (by decide))).gr ((IsGr.refl _).alloc _)
        · exact fun _ => Bx8.lay hg _ _ _ _ _ _ _ _
        · exact fun h _ => (b4 (Or.resolve_left h (by decide))).ne
        · exact fun h => (h6 (Or.resolve_left h (by decide))).imp Or.inr (fun x => x.gr ((IsGr.refl _).alloc _))
        · exact fun h => absurd (h7 (Or.resolve_left h (by decide))).1 nD
      refine StepI.cons (i := 6) (o := { dst := none, op := Op.store 98 (Operand.tmp 9) (Operand.tmp 24), type := 0, pos := "cross.go:124", after := #[{ on := 4, ground := Ground.data }, { on := 1, ground := Ground.data }, { on := 3, ground := Ground.chain }, { on := 0, ground := Ground.phase }, { on := 1, ground := Ground.phase }, { on := 2, ground := Ground.textOnly Departure.lateStores }, { on := 3, ground := Ground.textOnly Departure.lateStoresUnsure }, { on := 4, ground := Ground.phase }, { on := 5, ground := Ground.phase }], guard := none }) (ns := [4, 1, 3, 1, 4, 5]) rfl (by kernel_rfl) (fun D a w nD hn hF hSw K hK => ?_) ?_
      · obtain ⟨t1, t3, t4, t5, ha, hg, f1, f3, b4, b5, p4_5, h6, h7⟩ := hF
        have d1 : D 1 := hn 1 (by simp)
        have d3 : D 3 := hn 3 (by simp)
        have d4 : D 4 := hn 4 (by simp)
        have d5 : D 5 := hn 5 (by simp)
        have s1 := f1 d1
        subst s1
        have s3 := f3 d3
        subst s3
        have hb8 := b4 d4
        obtain ⟨bb, y0, y1, y2, y3, y4, y5, y6, y7, hb0, hb1, hb2⟩ := hb8
        obtain ⟨k1, ⟨kc0, kc1, kc2, kc3, kc4, kc5, kc6, kc7⟩, ⟨kf0, kf1, kf2, kf3, kf4, kf5, kf6, kf7⟩⟩ := block_cells8 hb2
        subst hb0
        subst ha
        (try simp only [Act.put, qA, qB, qC])
        go_simp
        refine hK.out _ _ (hSO _ (put8_gr hg hb1)) (fun _ => ?_)
        refine ⟨_, _, _, t5, by (simp only [Act.put, qA, qB, qC]); try rfl, (put8_gr hg hb1), ?_, ?_, ?_, ?_, ?_, ?_, ?_⟩
        · exact fun _ => rfl
        · exact fun _ => rfl
        · exact fun h => put8_bx hb2 (b4 (Or.resolve_left h (by decide)))
        · exact fun h => put8_bx hb2 (b5 (Or.resolve_left h (by decide)))
        · exact fun h h' => p4_5 (Or.resolve_left h (by decide)) (Or.resolve_left h' (by decide))
        · exact fun _ => ⟨Or.inr d4, put8_new hb2⟩
        · exact fun h => (fun ⟨x0, x3⟩ => ⟨Or.inr x0, put8_hx hb2 x3 (Ne.symm (p4_5 d4 x0))⟩) (h7 (Or.resolve_left h (by decide)))
      refine StepI.cons (i := 7) (o := { dst := none, op := Op.store 98 (Operand.tmp 10) (Operand.tmp 26), type := 0, pos := "cross.go:124", after := #[{ on := 5, ground := Ground.data }, { on := 3, ground := Ground.data }, { on := 6, ground := Ground.chain }, { on := 0, ground := Ground.phase }, { on := 1, ground := Ground.phase }, { on := 2, ground := Ground.phase }, { on := 3, ground := Ground.phase }, { on := 4, ground := Ground.phase }, { on := 5, ground := Ground.phase }, { on := 6, ground := Ground.phase }], guard := none }) (ns := [5, 3, 6, 1, 3, 4, 5, 6]) rfl (by kernel_rfl) (fun D a w nD hn hF hSw K hK => ?_) ?_
      · obtain ⟨t1, t3, t4, t5, ha, hg, f1, f3, b4, b5, p4_5, h6, h7⟩ := hF
        have d1 : D 1 := hn 1 (by simp)
        have d3 : D 3 := hn 3 (by simp)
        have d4 : D 4 := hn 4 (by simp)
        have d5 : D 5 := hn 5 (by simp)
        have d6 : D 6 := hn 6 (by simp)
        have s1 := f1 d1
        subst s1
        have s3 := f3 d3
        subst s3
        have hb8 := b5 d5
        obtain ⟨bb, y0, y1, y2, y3, y4, y5, y6, y7, hb0, hb1, hb2⟩ := hb8
        obtain ⟨k1, ⟨kc0, kc1, kc2, kc3, kc4, kc5, kc6, kc7⟩, ⟨kf0, kf1, kf2, kf3, kf4, kf5, kf6, kf7⟩⟩ := block_cells8 hb2
        subst hb0
        subst ha
        (try simp only [Act.put, qA, qB, qC])
        go_simp
        refine hK.out _ _ (hSO _ (put8_gr hg hb1)) (fun _ => ?_)
        refine ⟨_, _, t4, _, by (simp only [Act.put, qA, qB, qC]); try rfl, (put8_gr hg hb1), ?_, ?_, ?_, ?_, ?_, ?_, ?_⟩
        · exact fun _ => rfl
        · exact fun _ => rfl
        · exact fun h => put8_bx hb2 (b4 (Or.resolve_left h (by decide)))
        · exact fun h => put8_bx hb2 (b5 (Or.resolve_left h (by decide)))
        · exact fun h h' => p4_5 (Or.resolve_left h (by decide)) (Or.resolve_left h' (by decide))
        · exact fun h => (fun ⟨x0, x3⟩ => ⟨Or.inr x0, put8_hx hb2 x3 (p4_5 x0 d5)⟩) (h6 (Or.resolve_left h (by decide)))
        · exact fun _ => ⟨Or.inr d5, put8_new hb2⟩
      exact StepI.nil
    case rest =>
      obtain ⟨g9, g10, rfl, rfl, k9, k10, q9, q10, hgr⟩ := hcut
      obtain ⟨W2, hW9⟩ : ∃ W2, W2 = wc := ⟨_, rfl⟩
      subst hW9
      replace q5 : (W2.cell? ⟨g5, 0, none⟩ = some (.int .i64 l1) ∧ W2.cell? ⟨g5, 1, none⟩ = some (.int .i64 l2)) := ⟨hgr.cell_at k5 q5.1, hgr.cell_at k5 q5.2⟩
      replace q7 : (W2.cell? ⟨g7, 0, none⟩ = some (.int .i64 m1) ∧ W2.cell? ⟨g7, 1, none⟩ = some (.int .i64 m2)) := ⟨hgr.cell_at k7 q7.1, hgr.cell_at k7 q7.2⟩
      replace qz : (W2.cell? ⟨w.heap.size + 1 + 1, 0, none⟩ = some (.int .u64 0) ∧ W2.cell? ⟨w.heap.size + 1 + 1, 1, none⟩ = some (.int .u64 0) ∧ W2.cell? ⟨w.heap.size + 1 + 1, 2, none⟩ = some (.int .u64 0) ∧ W2.cell? ⟨w.heap.size + 1 + 1, 3, none⟩ = some (.int .u64 0) ∧ W2.cell? ⟨w.heap.size + 1 + 1, 4, none⟩ = some (.int .u64 0) ∧ W2.cell? ⟨w.heap.size + 1 + 1, 5, none⟩ = some (.int .u64 0) ∧ W2.cell? ⟨w.heap.size + 1 + 1, 6, none⟩ = some (.int .u64 0) ∧ W2.cell? ⟨w.heap.size + 1 + 1, 7, none⟩ = some (.int .u64 0) ∧ W2.cell? ⟨w.heap.size + 1 + 1, 8, none⟩ = some (.int .u64 0) ∧ W2.cell? ⟨w.heap.size + 1 + 1, 9, none⟩ = some (.int .u64 0) ∧ W2.cell? ⟨w.heap.size + 1 + 1, 10, none⟩ = some (.int .u64 0) ∧ W2.cell? ⟨w.heap.size + 1 + 1, 11, none⟩ = some (.int .u64 0)) := ⟨hgr.cell_at kr qz.1, hgr.cell_at kr qz.2.1, hgr.cell_at kr qz.2.2.1, hgr.cell_at kr qz.2.2.2.1, hgr.cell_at kr qz.2.2.2.2.1, hgr.cell_at kr qz.2.2.2.2.2.1, hgr.cell_at kr qz.2.2.2.2.2.2.1, hgr.cell_at kr qz.2.2.2.2.2.2.2.1, hgr.cell_at kr qz.2.2.2.2.2.2.2.2.1, hgr.cell_at kr qz.2.2.2.2.2.2.2.2.2.1, hgr.cell_at kr qz.2.2.2.2.2.2.2.2.2.2.1, hgr.cell_at kr qz.2.2.2.2.2.2.2.2.2.2.2⟩
      replace qf : (W2.frozen? ⟨w.heap.size + 1 + 1, 0, none⟩ = false ∧ W2.frozen? ⟨w.heap.size + 1 + 1, 1, none⟩ = false ∧ W2.frozen? ⟨w.heap.size + 1 + 1, 2, none⟩ = false ∧ W2.frozen? ⟨w.heap.size + 1 + 1, 3, none⟩ = false ∧ W2.frozen? ⟨w.heap.size + 1 + 1, 4, none⟩ = false ∧ W2.frozen? ⟨w.heap.size + 1 + 1, 5, none⟩ = false ∧ W2.frozen? ⟨w.heap.size + 1 + 1, 6, none⟩ = false ∧ W2.frozen? ⟨w.heap.size + 1 + 1, 7, none⟩ = false ∧ W2.frozen? ⟨w.heap.size + 1 + 1, 8, none⟩ = false ∧ W2.frozen? ⟨w.heap.size + 1 + 1, 9, none⟩ = false ∧ W2.frozen? ⟨w.heap.size + 1 + 1, 10, none⟩ = false ∧ W2.frozen? ⟨w.heap.size + 1 + 1, 11, none⟩ = false) := ⟨hgr.frozen_at kr qf.1, hgr.frozen_at kr qf.2.1, hgr.frozen_at kr qf.2.2.1, hgr.frozen_at kr qf.2.2.2.1, hgr.frozen_at kr qf.2.2.2.2.1, hgr.frozen_at kr qf.2.2.2.2.2.1, hgr.frozen_at kr qf.2.2.2.2.2.2.1, hgr.frozen_at kr qf.2.2.2.2.2.2.2.1, hgr.frozen_at kr qf.2.2.2.2.2.2.2.2.1, hgr.frozen_at kr qf.2.2.2.2.2.2.2.2.2.1, hgr.frozen_at kr qf.2.2.2.2.2.2.2.2.2.2.1, hgr.frozen_at kr qf.2.2.2.2.2.2.2.2.2.2.2⟩
      replace HB : Hid (Below w.heap.size w W2) := HB.out.trans (hgr.below.mono (by omega))
      have hsz := hgr.size
      replace k5 : g5 < W2.heap.size := by omega
      replace k7 : g7 < W2.heap.size := by omega
      replace kr : w.heap.size + 1 + 1 < W2.heap.size := by omega
      clear hgr hsz hSO
      have hSO : ∀ w', IsGr W2 w' → (w'.cell? ⟨g5, 0, none⟩ = some (.int .i64 l1) ∧ w'.cell? ⟨g5, 1, none⟩ = some (.int .i64 l2)) ∧ (w'.cell? ⟨g7, 0, none⟩ = some (.int .i64 m1) ∧ w'.cell? ⟨g7, 1, none⟩ = some (.int .i64 m2)) ∧ (w'.cell? ⟨g9, 0, none⟩ = some (.int .u64 (wd0 V1)) ∧ w'.cell? ⟨g9, 1, none⟩ = some (.int .u64 (wd1 V1)) ∧ w'.cell? ⟨g9, 2, none⟩ = some (.int .u64 (wd2 V1)) ∧ w'.cell? ⟨g9, 3, none⟩ = some (.int .u64 (wd3 V1)) ∧ w'.cell? ⟨g9, 4, none⟩ = some (.int .u64 (wd0 V2)) ∧ w'.cell? ⟨g9, 5, none⟩ = some (.int .u64 (wd1 V2)) ∧ w'.cell? ⟨g9, 6, none⟩ = some (.int .u64 (wd2 V2)) ∧ w'.cell? ⟨g9, 7, none⟩ = some (.int .u64 (wd3 V2))) ∧ (w'.cell? ⟨g10, 0, none⟩ = some (.int .u64 (wd0 U1)) ∧ w'.cell? ⟨g10, 1, none⟩ = some (.int .u64 (wd1 U1)) ∧ w'.cell? ⟨g10, 2, none⟩ = some (.int .u64 (wd2 U1)) ∧ w'.cell? ⟨g10, 3, none⟩ = some (.int .u64 (wd3 U1)) ∧ w'.cell? ⟨g10, 4, none⟩ = some (.int .u64 (wd0 U2)) ∧ w'.cell? ⟨g10, 5, none⟩ = some (.int .u64 (wd1 U2)) ∧ w'.cell? ⟨g10, 6, none⟩ = some (.int .u64 (wd2 U2)) ∧ w'.cell? ⟨g10, 7, none⟩ = some (.int .u64 (wd3 U2))) := fun w' hg => ⟨⟨hg.cell_at (by omega) q5.1, hg.cell_at (by omega) q5.2⟩, ⟨hg.cell_at (by omega) q7.1, hg.cell_at (by omega) q7.2⟩, ⟨hg.cell_at (by omega) q9.1, hg.cell_at (by omega) q9.2.1, hg.cell_at (by omega) q9.2.2.1, hg.cell_at (by omega) q9.2.2.2.1, hg.cell_at (by omega) q9.2.2.2.2.1, hg.cell_at (by omega) q9.2.2.2.2.2.1, hg.cell_at (by omega) q9.2.2.2.2.2.2.1, hg.cell_at (by omega) q9.2.2.2.2.2.2.2⟩, ⟨hg.cell_at (by omega) q10.1, hg.cell_at (by omega) q10.2.1, hg.cell_at (by omega) q10.2.2.1, hg.cell_at (by omega) q10.2.2.2.1, hg.cell_at (by omega) q10.2.2.2.2.1, hg.cell_at (by omega) q10.2.2.2.2.2.1, hg.cell_at (by omega) q10.2.2.2.2.2.2.1, hg.cell_at (by omega) q10.2.2.2.2.2.2.2⟩⟩
      go_upto_region 4 with fail
      go_cut [11, 12] (fun t11 t12 wr => ∃ g11 g12 : Nat, t11 = .pointer (some ⟨g11, 0, none⟩) ∧ t12 = .pointer (some ⟨g12, 0, none⟩) ∧ g11 < wr.heap.size ∧ g12 < wr.heap.size ∧ W2.heap.size ≤ g11 ∧ (W2.heap.size ≤ g12 ∧ g11 ≠ g12) ∧ (wr.cell? ⟨g11, 0, none⟩ = some (.int .u64 (wd0 T)) ∧ wr.cell? ⟨g11, 1, none⟩ = some (.int .u64 (wd1 T)) ∧ wr.cell? ⟨g11, 2, none⟩ = some (.int .u64 (wd2 T)) ∧ wr.cell? ⟨g11, 3, none⟩ = some (.int .u64 (wd3 T))) ∧ (wr.cell? ⟨g12, 0, none⟩ = some (.int .u64 (wd0 Q)) ∧ wr.cell? ⟨g12, 1, none⟩ = some (.int .u64 (wd1 Q)) ∧ wr.cell? ⟨g12, 2, none⟩ = some (.int .u64 (wd2 Q)) ∧ wr.cell? ⟨g12, 3, none⟩ = some (.int .u64 (wd3 Q))) ∧ (wr.frozen? ⟨g11, 0, none⟩ = false ∧ wr.frozen? ⟨g11, 1, none⟩ = false ∧ wr.frozen? ⟨g11, 2, none⟩ = false ∧ wr.frozen? ⟨g11, 3, none⟩ = false) ∧ (wr.frozen? ⟨g12, 0, none⟩ = false ∧ wr.frozen? ⟨g12, 1, none⟩ = false ∧ wr.frozen? ⟨g12, 2, none⟩ = false ∧ wr.frozen? ⟨g12, 3, none⟩ = false) ∧ IsGr W2 wr)
      case first =>
        refine wp_region_held_drew (S := (fun w' => (w'.cell? ⟨g5, 0, none⟩ = some (.int .i64 l1) ∧ w'.cell? ⟨g5, 1, none⟩ = some (.int .i64 l2)) ∧ (w'.cell? ⟨g7, 0, none⟩ = some (.int .i64 m1) ∧ w'.cell? ⟨g7, 1, none⟩ = some (.int .i64 m2)) ∧ (w'.cell? ⟨g9, 0, none⟩ = some (.int .u64 (wd0 V1)) ∧ w'.cell? ⟨g9, 1, none⟩ = some (.int .u64 (wd1 V1)) ∧ w'.cell? ⟨g9, 2, none⟩ = some (.int .u64 (wd2 V1)) ∧ w'.cell? ⟨g9, 3, none⟩ = some (.int .u64 (wd3 V1)) ∧ w'.cell? ⟨g9, 4, none⟩ = some (.int .u64 (wd0 V2)) ∧ w'.cell? ⟨g9, 5, none⟩ = some (.int .u64 (wd1 V2)) ∧ w'.cell? ⟨g9, 6, none⟩ = some (.int .u64 (wd2 V2)) ∧ w'.cell? ⟨g9, 7, none⟩ = some (.int .u64 (wd3 V2))) ∧ (w'.cell? ⟨g10, 0, none⟩ = some (.int .u64 (wd0 U1)) ∧ w'.cell? ⟨g10, 1, none⟩ = some (.int .u64 (wd1 U1)) ∧ w'.cell? ⟨g10, 2, none⟩ = some (.int .u64 (wd2 U1)) ∧ w'.cell? ⟨g10, 3, none⟩ = some (.int .u64 (wd3 U1)) ∧ w'.cell? ⟨g10, 4, none⟩ = some (.int .u64 (wd0 U2)) ∧ w'.cell? ⟨g10, 5, none⟩ = some (.int .u64 (wd1 U2)) ∧ w'.cell? ⟨g10, 6, none⟩ = some (.int .u64 (wd2 U2)) ∧ w'.cell? ⟨g10, 7, none⟩ = some (.int .u64 (wd3 U2))))) (by kernel_rfl) (by (try dsimp only); exact hSO _ (by with_reducible repeat (first | exact IsGr.refl _ | refine IsGr.gr ?_ _ _ | refine IsGr.alloc ?_ _ | refine IsGr.drew ?_ | refine IsGr.drewN ?_ _))) (fun hHeld => ?_)
        refine wpAnyH_take (i := 0) (oi := { dst := some 27, op := Op.load 98 (Operand.tmp 9), type := 98, pos := "cross.go:126", after := #[], guard := none }) (v := ?_) rfl (by kernel_rfl) (by kernel_rfl) (by kernel_rfl) (fun _ _ _ h => h) (Or.inl ⟨by rfl, ?_⟩) (by assumption) ?_
        rotate_left
        · (intro w hSw; (try dsimp only at hSw); go_simp <;> with_reducible rfl)
        (try simp only [Act.put, qA, qB, qC])
        refine wpAnyH_take (i := 1) (oi := { dst := some 28, op := Op.load 98 (Operand.tmp 10), type := 98, pos := "cross.go:126", after := #[], guard := none }) (v := ?_) rfl (by kernel_rfl) (by kernel_rfl) (by kernel_rfl) (fun _ _ _ h => h) (Or.inl ⟨by rfl, ?_⟩) (by assumption) ?_
        rotate_left
        · (intro w hSw; (try dsimp only at hSw); go_simp <;> with_reducible rfl)
        (try simp only [Act.put, qA, qB, qC])
        refine wpAnyH_take (i := 3) (oi := { dst := some 30, op := Op.load 24 (Operand.tmp 5), type := 24, pos := "cross.go:126", after := #[], guard := none }) (v := ?_) rfl (by kernel_rfl) (by kernel_rfl) (by kernel_rfl) (fun _ _ _ h => h) (Or.inl ⟨by rfl, ?_⟩) (by assumption) ?_
        rotate_left
        · (intro w hSw; (try dsimp only at hSw); go_simp <;> with_reducible rfl)
        (try simp only [Act.put, qA, qB, qC])
        refine wpAnyH_take (i := 4) (oi := { dst := some 31, op := Op.load 24 (Operand.tmp 7), type := 24, pos := "cross.go:126", after := #[], guard := none }) (v := ?_) rfl (by kernel_rfl) (by kernel_rfl) (by kernel_rfl) (fun _ _ _ h => h) (Or.inl ⟨by rfl, ?_⟩) (by assumption) ?_
        rotate_left
        · (intro w hSw; (try dsimp only at hSw); go_simp <;> with_reducible rfl)
        (try simp only [Act.put, qA, qB, qC])
        refine wpAnyH_take (i := 6) (oi := { dst := some 33, op := Op.load 98 (Operand.tmp 10), type := 98, pos := "cross.go:126", after := #[], guard := none }) (v := ?_) rfl (by kernel_rfl) (by kernel_rfl) (by kernel_rfl) (fun _ _ _ h => h) (Or.inl ⟨by rfl, ?_⟩) (by assumption) ?_
        rotate_left
        · (intro w hSw; (try dsimp only at hSw); go_simp <;> with_reducible rfl)
        (try simp only [Act.put, qA, qB, qC])
        refine wpAnyH_invA [2, 5, 7, 8, 9, 10, 11] (fun A D a w => ∃ t2 t5 t7 t8 t9 : Value, a = (((((A.put (some 29) t2).put (some 32) t5).put (some 34) t7).put (some 11) t8).put (some 12) t9) ∧ IsGr W2 w ∧ (D 2 → t2 = (.agg #[.int .u64 (wd0 T), .int .u64 (wd1 T), .int .u64 (wd2 T), .int .u64 (wd3 T)])) ∧ (D 5 → t5 = (.agg #[.int .u64 (wd0 D1), .int .u64 (wd1 D1), .int .u64 (wd2 D1), .int .u64 (wd3 D1), .int .u64 (wd0 D2), .int .u64 (wd1 D2), .int .u64 (wd2 D2), .int .u64 (wd3 D2)])) ∧ (D 7 → t7 = (.agg #[.int .u64 (wd0 Q), .int .u64 (wd1 Q), .int .u64 (wd2 Q), .int .u64 (wd3 Q)])) ∧ (D 8 → Bx4 W2 w 44 t8) ∧ (D 9 → Bx4 W2 w 44 t9) ∧ (D 8 → D 9 → t8 ≠ t9) ∧ (D 10 → D 8 ∧ Hx4 w 44 t8 (.int .u64 (wd0 T)) (.int .u64 (wd1 T)) (.int .u64 (wd2 T)) (.int .u64 (wd3 T))) ∧ (D 11 → D 9 ∧ Hx4 w 44 t9 (.int .u64 (wd0 Q)) (.int .u64 (wd1 Q)) (.int .u64 (wd2 Q)) (.int .u64 (wd3 Q)))) (by kernel_rfl) (by assumption) ?_ ?_ ?_
        · exact ⟨_, _, _, _, _, by (simp only [Act.put, qA, qB, qC]); try rfl, (by with_reducible repeat (first | exact IsGr.refl _ | refine IsGr.gr ?_ _ _ | refine IsGr.alloc ?_ _ | refine IsGr.drew ?_ | refine IsGr.drewN ?_ _)), fun h => h.elim, fun h => h.elim, fun h => h.elim, fun h => h.elim, fun h => h.elim, fun h => h.elim, fun h => h.elim, fun h => h.elim⟩
        · intro D a w hD hF hSw
          obtain ⟨t2, t5, t7, t8, t9, ha, hg, f2, f5, f7, b8, b9, p8_9, h10, h11⟩ := hF
          replace f2 := f2 (hD 2 (by simp))
          replace f5 := f5 (hD 5 (by simp))
          replace f7 := f7 (hD 7 (by simp))
          replace b8 := b8 (hD 8 (by simp))
          replace b9 := b9 (hD 9 (by simp))
          replace p8_9 := p8_9 (hD 8 (by simp)) (hD 9 (by simp))
          replace h10 := (h10 (hD 10 (by simp))).2
          replace h11 := (h11 (hD 11 (by simp))).2
          subst f2
          subst f5
          subst f7
          clear hD hHeld
          subst ha
          (try simp only [Act.put, qA, qB, qC])
          obtain ⟨g11, rfl, hb11⟩ := h10
          obtain ⟨g12, rfl, hb12⟩ := h11
          obtain ⟨k11, c11, f11⟩ := block_cells4 hb11
          obtain ⟨k12, c12, f12⟩ := block_cells4 hb12
          obtain ⟨g8, _, _, _, _, e8, j11, _⟩ := b8
          obtain ⟨g9', _, _, _, _, e9, j12, _⟩ := b9
          injection e8 with e8
          injection e8 with e8
          injection e8 with e8
          injection e9 with e9
          injection e9 with e9
          injection e9 with e9
          subst e8 e9
          have jn : g11 ≠ g12 := fun e => p8_9 (by rw [e])
          go_wp2
          go_meet
          case rel => exact ⟨g11, g12, rfl, rfl, k11, k12, j11, ⟨j12, jn⟩, c11, c12, f11, f12, hg⟩
        refine StepI.cons (i := 2) (o := { dst := some 29, op := Op.call { callee := Callee.value (Operand.func 72), args := #[Operand.tmp 27, Operand.tmp 28], argTypes := #[98, 98] }, type := 44, pos := "cross.go:126", after := #[{ on := 0, ground := Ground.data }, { on := 1, ground := Ground.data }], guard := none }) (ns := []) rfl (by kernel_rfl) (fun D a w nD hn hF hSw K hK => ?_) ?_
        · obtain ⟨t2, t5, t7, t8, t9, ha, hg, f2, f5, f7, b8, b9, p8_9, h10, h11⟩ := hF
          subst ha
          (try simp only [Act.put, qA, qB, qC])
          go_simp
          refine (T1 _).mono ?_
          rintro e w1 ⟨rfl, hg1⟩
          (try go_wp2_with fail)
          refine hK.out _ _ (hSO _ (hg.trans hg1)) (fun _ => ?_)
          refine ⟨_, t5, t7, t8, t9, by (simp only [Act.put, qA, qB, qC]); try rfl, (hg.trans hg1), ?_, ?_, ?_, ?_, ?_, ?_, ?_, ?_⟩
          · exact fun _ => rfl
          · exact fun h => f5 (Or.resolve_left h (by decide))
          · exact fun h => f7 (Or.resolve_left h (by decide))
          · exact fun h => (b8 (Or.resolve_left h (by decide))).gr hg1
          · exact fun h => (b9 (Or.resolve_left h (by decide))).gr hg1
          · exact fun h h' => p8_9 (Or.resolve_left h (by decide)) (Or.resolve_left h' (by decide))
          · exact fun h => (h10 (Or.resolve_left h (by decide))).imp Or.inr (fun x => x.gr hg1)
          · exact fun h => (h11 (Or.resolve_left h (by decide))).imp Or.inr (fun x => x.gr hg1)
        refine StepI.cons (i := 5) (o := { dst := some 32, op := Op.call { callee := Callee.value (Operand.func 90), args := #[Operand.tmp 30, Operand.tmp 31], argTypes := #[24, 24] }, type := 98, pos := "cross.go:126", after := #[{ on := 3, ground := Ground.data }, { on := 4, ground := Ground.data }, { on := 2, ground := Ground.chain }], guard := none }) (ns := [2]) rfl (by kernel_rfl) (fun D a w nD hn hF hSw K hK => ?_) ?_
        · obtain ⟨t2, t5, t7, t8, t9, ha, hg, f2, f5, f7, b8, b9, p8_9, h10, h11⟩ := hF
          have d2 : D 2 := hn 2 (by simp)
          have s2 := f2 d2
          subst s2
          subst ha
          (try simp only [Act.put, qA, qB, qC])
          go_simp
          refine (CB _).mono ?_
          rintro e w1 ⟨rfl, hg1⟩
          (try go_wp2_with fail)
          refine hK.out _ _ (hSO _ (hg.trans hg1)) (fun _ => ?_)
          refine ⟨_, _, t7, t8, t9, by (simp only [Act.put, qA, qB, qC]); try rfl, (hg.trans hg1), ?_, ?_, ?_, ?_, ?_, ?_, ?_, ?_⟩
          · exact fun _ => rfl
          · exact fun _ => rfl
          · exact fun h => f7 (Or.resolve_left h (by decide))
          · exact fun h => (b8 (Or.resolve_left h (by decide))).gr hg1
          · exact fun h => (b9 (Or.resolve_left h (by decide))).gr hg1
          · exact fun h h' => p8_9 (Or.resolve_left h (by decide)) (Or.resolve_left h' (by decide))
          · exact fun h => (h10 (Or.resolve_left h (by decide))).imp Or.inr (fun x => x.gr hg1)
          · exact fun h => (h11 (Or.resolve_left h (by decide))).imp Or.inr (fun x => x.gr hg1)
        refine StepI.cons (i := 7) (o := { dst := some 34, op := Op.call { callee := Callee.value (Operand.func 72), args := #[Operand.tmp 32, Operand.tmp 33], argTypes := #[98, 98] }, type := 44, pos := "cross.go:126", after := #[{ on := 5, ground := Ground.data }, { on := 6, ground := Ground.data }, { on := 5, ground := Ground.chain }], guard := none }) (ns := [5, 5]) rfl (by kernel_rfl) (fun D a w nD hn hF hSw K hK => ?_) ?_
        · obtain ⟨t2, t5, t7, t8, t9, ha, hg, f2, f5, f7, b8, b9, p8_9, h10, h11⟩ := hF
          have d5 : D 5 := hn 5 (by simp)
          have s5 := f5 d5
          subst s5
          subst ha
          (try simp only [Act.put, qA, qB, qC])
          go_simp
          refine (T2 _).mono ?_
          rintro e w1 ⟨rfl, hg1⟩
          (try go_wp2_with fail)
          refine hK.out _ _ (hSO _ (hg.trans hg1)) (fun _ => ?_)
          refine ⟨t2, _, _, t8, t9, by (simp only [Act.put, qA, qB, qC]); try rfl, (hg.trans hg1), ?_, ?_, ?_, ?_, ?_, ?_, ?_, ?_⟩
          · exact fun h => f2 (Or.resolve_left h (by decide))
          · exact fun _ => rfl
          · exact fun _ => rfl
          · exact fun h => (b8 (Or.resolve_left h (by decide))).gr hg1
          · exact fun h => (b9 (Or.resolve_left h (by decide))).gr hg1
          · exact fun h h' => p8_9 (Or.resolve_left h (by decide)) (Or.resolve_left h' (by decide))
          · exact fun h => (h10 (Or.resolve_left h (by decide))).imp Or.inr (fun x => x.gr hg1)
          · exact fun h => (h11 (Or.resolve_left h (by decide))).imp Or.inr (fun x => x.gr hg1)
        refine StepI.cons (i := 8) (o := { dst := some 11, op := Op.alloc 44, type := 0, pos := "cross.go:126", after := #[], guard := none }) (ns := []) rfl (by kernel_rfl) (fun D a w nD hn hF hSw K hK => ?_) ?_
        · obtain ⟨t2, t5, t7, t8, t9, ha, hg, f2, f5, f7, b8, b9, p8_9, h10, h11⟩ := hF
          subst ha
          (try simp only [Act.put, qA, qB, qC])
          go_simp
          refine hK.out _ _ (hSO _ (hg.alloc _)) (fun _ => ?_)
          refine ⟨t2, t5, t7, _, t9, by (simp only [Act.put, qA, qB, qC]); try rfl, (hg.alloc _), ?_, ?_, ?_, ?_, ?_, ?_, ?_, ?_⟩
          · exact fun h => f2 (Or.resolve_left h (by decide))
          · exact fun h => f5 (Or.resolve_left h (by decide))
          · exact fun h => f7 (Or.resolve_left h (by decide))
          · exact fun _ => Bx4.lay hg _ _ _ _
          · exact fun h => (b9 (Or.resolve_left h (by decide))).gr ((IsGr.refl _).alloc _)
          · exact fun _ h' => Ne.symm (b9 (Or.resolve_left h' (by decide))).ne
          · exact fun h => absurd (h10 (Or.resolve_left h (by decide))).1 nD
          · exact fun h => (h11 (Or.resolve_left h (by decide))).imp Or.inr (fun x => x.gr ((IsGr.refl _).alloc _))
        refine StepI.cons (i := 9) (o := { dst := some 12, op := Op.alloc 44, type := 0, pos := "cross.go:126", after := #[], guard := none }) (ns := []) rfl (by kernel_rfl) (fun D a w nD hn hF hSw K hK => ?_) ?_
        · obtain ⟨t2, t5, t7, t8, t9, ha, hg, f2, f5, f7, b8, b9, p8_9, h10, h11⟩ := hF
          subst ha
          (try simp only [Act.put, qA, qB, qC])
          go_simp
          refine hK.out _ _ (hSO _ (hg.alloc _)) (fun _ => ?_)
          refine ⟨t2, t5, t7, t8, _, by (simp only [Act.put, qA, qB, qC]); try rfl, (hg.alloc _), ?_, ?_, ?_, ?_, ?_, ?_, ?_, ?_⟩
          · exact fun h => f2 (Or.resolve_left h (by decide))
          · exact fun h => f5 (Or.resolve_left h (by decide))
          · exact fun h => f7 (Or.resolve_left h (by decide))
          · exact fun h => (b8 (Or.resolve_left h (by decide))).gr ((IsGr.refl _).alloc _)
          · exact fun _ => Bx4.lay hg _ _ _ _
          · exact fun h _ => (b8 (Or.resolve_left h (by decide))).ne
          · exact fun h => (h10 (Or.resolve_left h (by decide))).imp Or.inr (fun x => x.gr ((IsGr.refl _).alloc _))
          · exact fun h => absurd (h11 (Or.resolve_left h (by decide))).1 nD
        refine StepI.cons (i := 10) (o := { dst := none, op := Op.store 44 (Operand.tmp 11) (Operand.tmp 29), type := 0, pos := "cross.go:126", after := #[{ on := 8, ground := Ground.data }, { on := 2, ground := Ground.data }, { on := 7, ground := Ground.chain }, { on := 0, ground := Ground.phase }, { on := 1, ground := Ground.phase }, { on := 2, ground := Ground.phase }, { on := 3, ground := Ground.textOnly Departure.lateStores }, { on := 4, ground := Ground.textOnly Departure.lateStores }, { on := 5, ground := Ground.textOnly Departure.lateStoresUnsure }, { on := 6, ground := Ground.textOnly Departure.lateStores }, { on := 7, ground := Ground.textOnly Departure.lateStoresUnsure }, { on := 8, ground := Ground.phase }, { on := 9, ground := Ground.phase }], guard := none }) (ns := [8, 2, 7, 2, 8, 9]) rfl (by kernel_rfl) (fun D a w nD hn hF hSw K hK => ?_) ?_
        · obtain ⟨t2, t5, t7, t8, t9, ha, hg, f2, f5, f7, b8, b9, p8_9, h10, h11⟩ := hF
          have d2 : D 2 := hn 2 (by simp)
          have d7 : D 7 := hn 7 (by simp)
          have d8 : D 8 := hn 8 (by simp)
          have d9 : D 9 := hn 9 (by simp)
          have s2 := f2 d2
          subst s2
          have s7 := f7 d7
          subst s7
          have hb8 := b8 d8
          obtain ⟨bb, y0, y1, y2, y3, hb0, hb1, hb2⟩ := hb8
          obtain ⟨k1, ⟨kc0, kc1, kc2, kc3⟩, ⟨kf0, kf1, kf2, kf3⟩⟩ := block_cells4 hb2
          subst hb0
          subst ha
          (try simp only [Act.put, qA, qB, qC])
          go_simp
          refine hK.out _ _ (hSO _ (put4_gr hg hb1)) (fun _ => ?_)
          refine ⟨_, t5, _, _, t9, by (simp only [Act.put, qA, qB, qC]); try rfl, (put4_gr hg hb1), ?_, ?_, ?_, ?_, ?_, ?_, ?_, ?_⟩
          · exact fun _ => rfl
          · exact fun h => f5 (Or.resolve_left h (by decide))
          · exact fun _ => rfl
          · exact fun h => put4_bx hb2 (b8 (Or.resolve_left h (by decide)))
          · exact fun h => put4_bx hb2 (b9 (Or.resolve_left h (by decide)))
          · exact fun h h' => p8_9 (Or.resolve_left h (by decide)) (Or.resolve_left h' (by decide))
          · exact fun _ => ⟨Or.inr d8, put4_new hb2⟩
          · exact fun h => (fun ⟨x0, x3⟩ => ⟨Or.inr x0, put4_hx hb2 x3 (Ne.symm (p8_9 d8 x0))⟩) (h11 (Or.resolve_left h (by decide)))
        refine StepI.cons (i := 11) (o := { dst := none, op := Op.store 44 (Operand.tmp 12) (Operand.tmp 34), type := 0, pos := "cross.go:126", after := #[{ on := 9, ground := Ground.data }, { on := 7, ground := Ground.data }, { on := 10, ground := Ground.chain }, { on := 0, ground := Ground.phase }, { on := 1, ground := Ground.phase }, { on := 2, ground := Ground.phase }, { on := 3, ground := Ground.phase }, { on := 4, ground := Ground.phase }, { on := 5, ground := Ground.phase }, { on := 6, ground := Ground.phase }, { on := 7, ground := Ground.phase }, { on := 8, ground := Ground.phase }, { on := 9, ground := Ground.phase }, { on := 10, ground := Ground.phase }], guard := none }) (ns := [9, 7, 10, 2, 5, 7, 8, 9, 10]) rfl (by kernel_rfl) (fun D a w nD hn hF hSw K hK => ?_) ?_
        · obtain ⟨t2, t5, t7, t8, t9, ha, hg, f2, f5, f7, b8, b9, p8_9, h10, h11⟩ := hF
          have d2 : D 2 := hn 2 (by simp)
          have d5 : D 5 := hn 5 (by simp)
          have d7 : D 7 := hn 7 (by simp)
          have d8 : D 8 := hn 8 (by simp)
          have d9 : D 9 := hn 9 (by simp)
          have d10 : D 10 := hn 10 (by simp)
          have s2 := f2 d2
          subst s2
          have s5 := f5 d5
          subst s5
          have s7 := f7 d7
          subst s7
          have hb8 := b9 d9
          obtain ⟨bb, y0, y1, y2, y3, hb0, hb1, hb2⟩ := hb8
          obtain ⟨k1, ⟨kc0, kc1, kc2, kc3⟩, ⟨kf0, kf1, kf2, kf3⟩⟩ := block_cells4 hb2
          subst hb0
          subst ha
          (try simp only [Act.put, qA, qB, qC])
          go_simp
          refine hK.out _ _ (hSO _ (put4_gr hg hb1)) (fun _ => ?_)
          refine ⟨_, _, _, t8, _, by (simp only [Act.put, qA, qB, qC]); try rfl, (put4_gr hg hb1), ?_, ?_, ?_, ?_, ?_, ?_, ?_, ?_⟩
          · exact fun _ => rfl
          · exact fun _ => rfl
          · exact fun _ => rfl
          · exact fun h => put4_bx hb2 (b8 (Or.resolve_left h (by decide)))
          · exact fun h => put4_bx hb2 (b9 (Or.resolve_left h (by decide)))
          · exact fun h h' => p8_9 (Or.resolve_left h (by decide)) (Or.resolve_left h' (by decide))
          · exact fun h => (fun ⟨x0, x3⟩ => ⟨Or.inr x0, put4_hx hb2 x3 (p8_9 x0 d9)⟩) (h10 (Or.resolve_left h (by decide)))
          · exact fun _ => ⟨Or.inr d9, put4_new hb2⟩
        exact StepI.nil
      case rest =>
        obtain ⟨g11, g12, rfl, rfl, k11, k12, j11, ⟨j12, jn⟩, q11, q12, f11, f12, hgr⟩ := hcut
        obtain ⟨W3, hW9⟩ : ∃ W3, W3 = wc := ⟨_, rfl⟩
        subst hW9
        replace q5 : (W3.cell? ⟨g5, 0, none⟩ = some (.int .i64 l1) ∧ W3.cell? ⟨g5, 1, none⟩ = some (.int .i64 l2)) := ⟨hgr.cell_at k5 q5.1, hgr.cell_at k5 q5.2⟩
        replace q9 : (W3.cell? ⟨g9, 0, none⟩ = some (.int .u64 (wd0 V1)) ∧ W3.cell? ⟨g9, 1, none⟩ = some (.int .u64 (wd1 V1)) ∧ W3.cell? ⟨g9, 2, none⟩ = some (.int .u64 (wd2 V1)) ∧ W3.cell? ⟨g9, 3, none⟩ = some (.int .u64 (wd3 V1)) ∧ W3.cell? ⟨g9, 4, none⟩ = some (.int .u64 (wd0 V2)) ∧ W3.cell? ⟨g9, 5, none⟩ = some (.int .u64 (wd1 V2)) ∧ W3.cell? ⟨g9, 6, none⟩ = some (.int .u64 (wd2 V2)) ∧ W3.cell? ⟨g9, 7, none⟩ = some (.int .u64 (wd3 V2))) := ⟨hgr.cell_at k9 q9.1, hgr.cell_at k9 q9.2.1, hgr.cell_at k9 q9.2.2.1, hgr.cell_at k9 q9.2.2.2.1, hgr.cell_at k9 q9.2.2.2.2.1, hgr.cell_at k9 q9.2.2.2.2.2.1, hgr.cell_at k9 q9.2.2.2.2.2.2.1, hgr.cell_at k9 q9.2.2.2.2.2.2.2⟩
        replace qz : (W3.cell? ⟨w.heap.size + 1 + 1, 0, none⟩ = some (.int .u64 0) ∧ W3.cell? ⟨w.heap.size + 1 + 1, 1, none⟩ = some (.int .u64 0) ∧ W3.cell? ⟨w.heap.size + 1 + 1, 2, none⟩ = some (.int .u64 0) ∧ W3.cell? ⟨w.heap.size + 1 + 1, 3, none⟩ = some (.int .u64 0) ∧ W3.cell? ⟨w.heap.size + 1 + 1, 4, none⟩ = some (.int .u64 0) ∧ W3.cell? ⟨w.heap.size + 1 + 1, 5, none⟩ = some (.int .u64 0) ∧ W3.cell? ⟨w.heap.size + 1 + 1, 6, none⟩ = some (.int .u64 0) ∧ W3.cell? ⟨w.heap.size + 1 + 1, 7, none⟩ = some (.int .u64 0) ∧ W3.cell? ⟨w.heap.size + 1 + 1, 8, none⟩ = some (.int .u64 0) ∧ W3.cell? ⟨w.heap.size + 1 + 1, 9, none⟩ = some (.int .u64 0) ∧ W3.cell? ⟨w.heap.size + 1 + 1, 10, none⟩ = some (.int .u64 0) ∧ W3.cell? ⟨w.heap.size + 1 + 1, 11, none⟩ = some (.int .u64 0)) := ⟨hgr.cell_at kr qz.1, hgr.cell_at kr qz.2.1, hgr.cell_at kr qz.2.2.1, hgr.cell_at kr qz.2.2.2.1, hgr.cell_at kr qz.2.2.2.2.1, hgr.cell_at kr qz.2.2.2.2.2.1, hgr.cell_at kr qz.2.2.2.2.2.2.1, hgr.cell_at kr qz.2.2.2.2.2.2.2.1, hgr.cell_at kr qz.2.2.2.2.2.2.2.2.1, hgr.cell_at kr qz.2.2.2.2.2.2.2.2.2.1, hgr.cell_at kr qz.2.2.2.2.2.2.2.2.2.2.1, hgr.cell_at kr qz.2.2.2.2.2.2.2.2.2.2.2⟩
        replace qf : (W3.frozen? ⟨w.heap.size + 1 + 1, 0, none⟩ = false ∧ W3.frozen? ⟨w.heap.size + 1 + 1, 1, none⟩ = false ∧ W3.frozen? ⟨w.heap.size + 1 + 1, 2, none⟩ = false ∧ W3.frozen? ⟨w.heap.size + 1 + 1, 3, none⟩ = false ∧ W3.frozen? ⟨w.heap.size + 1 + 1, 4, none⟩ = false ∧ W3.frozen? ⟨w.heap.size + 1 + 1, 5, none⟩ = false ∧ W3.frozen? ⟨w.heap.size + 1 + 1, 6, none⟩ = false ∧ W3.frozen? ⟨w.heap.size + 1 + 1, 7, none⟩ = false ∧ W3.frozen? ⟨w.heap.size + 1 + 1, 8, none⟩ = false ∧ W3.frozen? ⟨w.heap.size + 1 + 1, 9, none⟩ = false ∧ W3.frozen? ⟨w.heap.size + 1 + 1, 10, none⟩ = false ∧ W3.frozen? ⟨w.heap.size + 1 + 1, 11, none⟩ = false) := ⟨hgr.frozen_at kr qf.1, hgr.frozen_at kr qf.2.1, hgr.frozen_at kr qf.2.2.1, hgr.frozen_at kr qf.2.2.2.1, hgr.frozen_at kr qf.2.2.2.2.1, hgr.frozen_at kr qf.2.2.2.2.2.1, hgr.frozen_at kr qf.2.2.2.2.2.2.1, hgr.frozen_at kr qf.2.2.2.2.2.2.2.1, hgr.frozen_at kr qf.2.2.2.2.2.2.2.2.1, hgr.frozen_at kr qf.2.2.2.2.2.2.2.2.2.1, hgr.frozen_at kr qf.2.2.2.2.2.2.2.2.2.2.1, hgr.frozen_at kr qf.2.2.2.2.2.2.2.2.2.2.2⟩
        replace HB : Hid (Below w.heap.size w W3) := HB.out.trans (hgr.below.mono (by omega))
        have hsz := hgr.size
        have n5 : g5 ≠ g11 ∧ g5 ≠ g12 := by omega
        have n9 : g9 ≠ g11 ∧ g9 ≠ g12 := by omega
        have nr : w.heap.size + 1 + 1 ≠ g11 ∧ w.heap.size + 1 + 1 ≠ g12 := by omega
        have nw : w.heap.size ≤ g11 ∧ w.heap.size ≤ g12 := by omega
        replace k5 : g5 < W3.heap.size := by omega
        replace k9 : g9 < W3.heap.size := by omega
        replace kr : w.heap.size + 1 + 1 < W3.heap.size := by omega
        clear hgr hsz hSO q7 q10 k7 k10 j11 j12
        rcases HS with ⟨hT, eW, eR⟩ | ⟨hT, eW, eR⟩
        · have M1 := N1 hT eW
          have M2 := N2 hT eR
          clear N1 N2 eW eR
          rw [cmpI_lt hT] at CS
          clear hT
          go_upto_region 5 with fail
          go_cut [37] (fun t37 wr => t37 = .bool true ∧ IsGr W3 wr)
          case first =>
            go_wp2_with fail
            refine (CS _).mono ?_
            rintro e w1 ⟨rfl, os8, dr8, rfl⟩
            go_wp2
            go_meet
            case rel => exact ⟨rfl, (by with_reducible repeat (first | exact IsGr.refl _ | refine IsGr.gr ?_ _ _ | refine IsGr.alloc ?_ _ | refine IsGr.drew ?_ | refine IsGr.drewN ?_ _))⟩
          case rest =>
            obtain ⟨rfl, hgr⟩ := hcut
            obtain ⟨W4, hW9⟩ : ∃ W4, W4 = wc := ⟨_, rfl⟩
            subst hW9
            replace q5 : (W4.cell? ⟨g5, 0, none⟩ = some (.int .i64 l1) ∧ W4.cell? ⟨g5, 1, none⟩ = some (.int .i64 l2)) := ⟨hgr.cell_at k5 q5.1, hgr.cell_at k5 q5.2⟩
            replace q9 : (W4.cell? ⟨g9, 0, none⟩ = some (.int .u64 (wd0 V1)) ∧ W4.cell? ⟨g9, 1, none⟩ = some (.int .u64 (wd1 V1)) ∧ W4.cell? ⟨g9, 2, none⟩ = some (.int .u64 (wd2 V1)) ∧ W4.cell? ⟨g9, 3, none⟩ = some (.int .u64 (wd3 V1)) ∧ W4.cell? ⟨g9, 4, none⟩ = some (.int .u64 (wd0 V2)) ∧ W4.cell? ⟨g9, 5, none⟩ = some (.int .u64 (wd1 V2)) ∧ W4.cell? ⟨g9, 6, none⟩ = some (.int .u64 (wd2 V2)) ∧ W4.cell? ⟨g9, 7, none⟩ = some (.int .u64 (wd3 V2))) := ⟨hgr.cell_at k9 q9.1, hgr.cell_at k9 q9.2.1, hgr.cell_at k9 q9.2.2.1, hgr.cell_at k9 q9.2.2.2.1, hgr.cell_at k9 q9.2.2.2.2.1, hgr.cell_at k9 q9.2.2.2.2.2.1, hgr.cell_at k9 q9.2.2.2.2.2.2.1, hgr.cell_at k9 q9.2.2.2.2.2.2.2⟩
            replace qz : (W4.cell? ⟨w.heap.size + 1 + 1, 0, none⟩ = some (.int .u64 0) ∧ W4.cell? ⟨w.heap.size + 1 + 1, 1, none⟩ = some (.int .u64 0) ∧ W4.cell? ⟨w.heap.size + 1 + 1, 2, none⟩ = some (.int .u64 0) ∧ W4.cell? ⟨w.heap.size + 1 + 1, 3, none⟩ = some (.int .u64 0) ∧ W4.cell? ⟨w.heap.size + 1 + 1, 4, none⟩ = some (.int .u64 0) ∧ W4.cell? ⟨w.heap.size + 1 + 1, 5, none⟩ = some (.int .u64 0) ∧ W4.cell? ⟨w.heap.size + 1 + 1, 6, none⟩ = some (.int .u64 0) ∧ W4.cell? ⟨w.heap.size + 1 + 1, 7, none⟩ = some (.int .u64 0) ∧ W4.cell? ⟨w.heap.size + 1 + 1, 8, none⟩ = some (.int .u64 0) ∧ W4.cell? ⟨w.heap.size + 1 + 1, 9, none⟩ = some (.int .u64 0) ∧ W4.cell? ⟨w.heap.size + 1 + 1, 10, none⟩ = some (.int .u64 0) ∧ W4.cell? ⟨w.heap.size + 1 + 1, 11, none⟩ = some (.int .u64 0)) := ⟨hgr.cell_at kr qz.1, hgr.cell_at kr qz.2.1, hgr.cell_at kr qz.2.2.1, hgr.cell_at kr qz.2.2.2.1, hgr.cell_at kr qz.2.2.2.2.1, hgr.cell_at kr qz.2.2.2.2.2.1, hgr.cell_at kr qz.2.2.2.2.2.2.1, hgr.cell_at kr qz.2.2.2.2.2.2.2.1, hgr.cell_at kr qz.2.2.2.2.2.2.2.2.1, hgr.cell_at kr qz.2.2.2.2.2.2.2.2.2.1, hgr.cell_at kr qz.2.2.2.2.2.2.2.2.2.2.1, hgr.cell_at kr qz.2.2.2.2.2.2.2.2.2.2.2⟩
            replace qf : (W4.frozen? ⟨w.heap.size + 1 + 1, 0, none⟩ = false ∧ W4.frozen? ⟨w.heap.size + 1 + 1, 1, none⟩ = false ∧ W4.frozen? ⟨w.heap.size + 1 + 1, 2, none⟩ = false ∧ W4.frozen? ⟨w.heap.size + 1 + 1, 3, none⟩ = false ∧ W4.frozen? ⟨w.heap.size + 1 + 1, 4, none⟩ = false ∧ W4.frozen? ⟨w.heap.size + 1 + 1, 5, none⟩ = false ∧ W4.frozen? ⟨w.heap.size + 1 + 1, 6, none⟩ = false ∧ W4.frozen? ⟨w.heap.size + 1 + 1, 7, none⟩ = false ∧ W4.frozen? ⟨w.heap.size + 1 + 1, 8, none⟩ = false ∧ W4.frozen? ⟨w.heap.size + 1 + 1, 9, none⟩ = false ∧ W4.frozen? ⟨w.heap.size + 1 + 1, 10, none⟩ = false ∧ W4.frozen? ⟨w.heap.size + 1 + 1, 11, none⟩ = false) := ⟨hgr.frozen_at kr qf.1, hgr.frozen_at kr qf.2.1, hgr.frozen_at kr qf.2.2.1, hgr.frozen_at kr qf.2.2.2.1, hgr.frozen_at kr qf.2.2.2.2.1, hgr.frozen_at kr qf.2.2.2.2.2.1, hgr.frozen_at kr qf.2.2.2.2.2.2.1, hgr.frozen_at kr qf.2.2.2.2.2.2.2.1, hgr.frozen_at kr qf.2.2.2.2.2.2.2.2.1, hgr.frozen_at kr qf.2.2.2.2.2.2.2.2.2.1, hgr.frozen_at kr qf.2.2.2.2.2.2.2.2.2.2.1, hgr.frozen_at kr qf.2.2.2.2.2.2.2.2.2.2.2⟩
            replace q11 : (W4.cell? ⟨g11, 0, none⟩ = some (.int .u64 (wd0 T)) ∧ W4.cell? ⟨g11, 1, none⟩ = some (.int .u64 (wd1 T)) ∧ W4.cell? ⟨g11, 2, none⟩ = some (.int .u64 (wd2 T)) ∧ W4.cell? ⟨g11, 3, none⟩ = some (.int .u64 (wd3 T))) := ⟨hgr.cell_at k11 q11.1, hgr.cell_at k11 q11.2.1, hgr.cell_at k11 q11.2.2.1, hgr.cell_at k11 q11.2.2.2⟩
            replace q12 : (W4.cell? ⟨g12, 0, none⟩ = some (.int .u64 (wd0 Q)) ∧ W4.cell? ⟨g12, 1, none⟩ = some (.int .u64 (wd1 Q)) ∧ W4.cell? ⟨g12, 2, none⟩ = some (.int .u64 (wd2 Q)) ∧ W4.cell? ⟨g12, 3, none⟩ = some (.int .u64 (wd3 Q))) := ⟨hgr.cell_at k12 q12.1, hgr.cell_at k12 q12.2.1, hgr.cell_at k12 q12.2.2.1, hgr.cell_at k12 q12.2.2.2⟩
            replace f11 : (W4.frozen? ⟨g11, 0, none⟩ = false ∧ W4.frozen? ⟨g11, 1, none⟩ = false ∧ W4.frozen? ⟨g11, 2, none⟩ = false ∧ W4.frozen? ⟨g11, 3, none⟩ = false) := ⟨hgr.frozen_at k11 f11.1, hgr.frozen_at k11 f11.2.1, hgr.frozen_at k11 f11.2.2.1, hgr.frozen_at k11 f11.2.2.2⟩
            replace f12 : (W4.frozen? ⟨g12, 0, none⟩ = false ∧ W4.frozen? ⟨g12, 1, none⟩ = false ∧ W4.frozen? ⟨g12, 2, none⟩ = false ∧ W4.frozen? ⟨g12, 3, none⟩ = false) := ⟨hgr.frozen_at k12 f12.1, hgr.frozen_at k12 f12.2.1, hgr.frozen_at k12 f12.2.2.1, hgr.frozen_at k12 f12.2.2.2⟩
            replace HB : Hid (Below w.heap.size w W4) := HB.out.trans (hgr.below.mono (by omega))
            have hsz := hgr.size
            replace k5 : g5 < W4.heap.size := by omega
            replace k9 : g9 < W4.heap.size := by omega
            replace k11 : g11 < W4.heap.size := by omega
            replace k12 : g12 < W4.heap.size := by omega
            replace kr : w.heap.size + 1 + 1 < W4.heap.size := by omega
            clear hgr hsz
            obtain ⟨q51, q52⟩ := q5
            obtain ⟨q91, q92, q93, q94, q95, q96, q97, q98⟩ := q9
            obtain ⟨u1, u2, u3, u4⟩ := q11
            obtain ⟨v1, v2, v3, v4⟩ := q12
            obtain ⟨x1, x2, x3, x4⟩ := f11
            obtain ⟨y1, y2, y3, y4⟩ := f12
            obtain ⟨n51, n52⟩ := n5
            obtain ⟨n91, n92⟩ := n9
            obtain ⟨nr1, nr2⟩ := nr
            have jm : g12 ≠ g11 := Ne.symm jn
            obtain ⟨z0, z1, z2, z3, z4, z5, z6, z7, z8, z9, z10, z11⟩ := qz
            obtain ⟨f0, f1, f2, f3, f4, f5, f6, f7, f8, f9, f10, f11⟩ := qf
            go_upto_region 6 with fail
            go_cut [11] (fun t11 wr => t11 = .pointer (some ⟨g11, 0, none⟩) ∧ (wr.cell? ⟨g5, 0, none⟩ = some (.int .i64 l1) ∧ wr.cell? ⟨g5, 1, none⟩ = some (.int .i64 l2)) ∧ (wr.cell? ⟨g9, 0, none⟩ = some (.int .u64 (wd0 V1)) ∧ wr.cell? ⟨g9, 1, none⟩ = some (.int .u64 (wd1 V1)) ∧ wr.cell? ⟨g9, 2, none⟩ = some (.int .u64 (wd2 V1)) ∧ wr.cell? ⟨g9, 3, none⟩ = some (.int .u64 (wd3 V1)) ∧ wr.cell? ⟨g9, 4, none⟩ = some (.int .u64 (wd0 V2)) ∧ wr.cell? ⟨g9, 5, none⟩ = some (.int .u64 (wd1 V2)) ∧ wr.cell? ⟨g9, 6, none⟩ = some (.int .u64 (wd2 V2)) ∧ wr.cell? ⟨g9, 7, none⟩ = some (.int .u64 (wd3 V2))) ∧ (wr.cell? ⟨g11, 0, none⟩ = some (.int .u64 (wd0 W)) ∧ wr.cell? ⟨g11, 1, none⟩ = some (.int .u64 (wd1 W)) ∧ wr.cell? ⟨g11, 2, none⟩ = some (.int .u64 (wd2 W)) ∧ wr.cell? ⟨g11, 3, none⟩ = some (.int .u64 (wd3 W))) ∧ (wr.cell? ⟨g12, 0, none⟩ = some (.int .u64 (wd0 R)) ∧ wr.cell? ⟨g12, 1, none⟩ = some (.int .u64 (wd1 R)) ∧ wr.cell? ⟨g12, 2, none⟩ = some (.int .u64 (wd2 R)) ∧ wr.cell? ⟨g12, 3, none⟩ = some (.int .u64 (wd3 R))) ∧ (wr.cell? ⟨w.heap.size + 1 + 1, 0, none⟩ = some (.int .u64 0) ∧ wr.cell? ⟨w.heap.size + 1 + 1, 1, none⟩ = some (.int .u64 0) ∧ wr.cell? ⟨w.heap.size + 1 + 1, 2, none⟩ = some (.int .u64 0) ∧ wr.cell? ⟨w.heap.size + 1 + 1, 3, none⟩ = some (.int .u64 0) ∧ wr.cell? ⟨w.heap.size + 1 + 1, 4, none⟩ = some (.int .u64 0) ∧ wr.cell? ⟨w.heap.size + 1 + 1, 5, none⟩ = some (.int .u64 0) ∧ wr.cell? ⟨w.heap.size + 1 + 1, 6, none⟩ = some (.int .u64 0) ∧ wr.cell? ⟨w.heap.size + 1 + 1, 7, none⟩ = some (.int .u64 0) ∧ wr.cell? ⟨w.heap.size + 1 + 1, 8, none⟩ = some (.int .u64 0) ∧ wr.cell? ⟨w.heap.size + 1 + 1, 9, none⟩ = some (.int .u64 0) ∧ wr.cell? ⟨w.heap.size + 1 + 1, 10, none⟩ = some (.int .u64 0) ∧ wr.cell? ⟨w.heap.size + 1 + 1, 11, none⟩ = some (.int .u64 0)) ∧ (wr.frozen? ⟨w.heap.size + 1 + 1, 0, none⟩ = false ∧ wr.frozen? ⟨w.heap.size + 1 + 1, 1, none⟩ = false ∧ wr.frozen? ⟨w.heap.size + 1 + 1, 2, none⟩ = false ∧ wr.frozen? ⟨w.heap.size + 1 + 1, 3, none⟩ = false ∧ wr.frozen? ⟨w.heap.size + 1 + 1, 4, none⟩ = false ∧ wr.frozen? ⟨w.heap.size + 1 + 1, 5, none⟩ = false ∧ wr.frozen? ⟨w.heap.size + 1 + 1, 6, none⟩ = false ∧ wr.frozen? ⟨w.heap.size + 1 + 1, 7, none⟩ = false ∧ wr.frozen? ⟨w.heap.size + 1 + 1, 8, none⟩ = false ∧ wr.frozen? ⟨w.heap.size + 1 + 1, 9, none⟩ = false ∧ wr.frozen? ⟨w.heap.size + 1 + 1, 10, none⟩ = false ∧ wr.frozen? ⟨w.heap.size + 1 + 1, 11, none⟩ = false) ∧ W4.heap.size ≤ wr.heap.size ∧ Below w.heap.size w wr)
            case first =>
              refine wp_region_held_drew (S := (fun _ => True)) (by kernel_rfl) (by (try dsimp only); (try trivial)) (fun hHeld => ?_)
              refine wpAnyH_ready (rs := [0, 2]) (by kernel_rfl) (by simp) ?_
              refine AllReadyH.cons (o := { dst := some 38, op := Op.load 44 (Operand.tmp 11), type := 44, pos := "cross.go:128", after := #[], guard := none }) rfl (fun K hK => ?_) ?_
              · go_simp
                refine hK.out _ _ (by (try dsimp only); (try trivial)) (fun hHeld2 => ?_)
                clear hK K hHeld
                have hHeld := hHeld2
                clear hHeld2
                (try simp only [Act.put, qA, qB, qC])
                refine wpAnyH_ready (rs := [1, 2]) (by kernel_rfl) (by simp) ?_
                refine AllReadyH.cons (o := { dst := some 39, op := Op.call { callee := Callee.value (Operand.func 91), args := #[Operand.tmp 38], argTypes := #[44] }, type := 44, pos := "cross.go:128", after := #[{ on := 0, ground := Ground.data }], guard := none }) rfl (fun K hK => ?_) ?_
                · go_simp
                  refine (M1 _).mono ?_
                  rintro e w1 ⟨rfl, os9, dr9, rfl⟩
                  (try go_wp2_with fail)
                  refine hK.out _ _ (by (try dsimp only); (try trivial)) (fun hHeld2 => ?_)
                  clear hK K hHeld
                  have hHeld := hHeld2
                  clear hHeld2
                  (try simp only [Act.put, qA, qB, qC])
                  refine wpAnyH_ready (rs := [2]) (by kernel_rfl) (by simp) ?_
                  refine AllReadyH.cons (o := { dst := some 40, op := Op.load 44 (Operand.tmp 12), type := 44, pos := "cross.go:128", after := #[], guard := none }) rfl (fun K hK => ?_) ?_
                  · go_simp
                    refine hK.out _ _ (by (try dsimp only); (try trivial)) (fun hHeld2 => ?_)
                    clear hK K hHeld
                    have hHeld := hHeld2
                    clear hHeld2
                    (try simp only [Act.put, qA, qB, qC])
                    refine wpAnyH_ready (rs := [3]) (by kernel_rfl) (by simp) ?_
                    refine AllReadyH.cons (o := { dst := some 41, op := Op.call { callee := Callee.value (Operand.func 91), args := #[Operand.tmp 40], argTypes := #[44] }, type := 44, pos := "cross.go:128", after := #[{ on := 2, ground := Ground.data }, { on := 1, ground := Ground.chain }], guard := none }) rfl (fun K hK => ?_) ?_
                    · go_simp
                      refine (M2 _).mono ?_
                      rintro e w1 ⟨rfl, os10, dr10, rfl⟩
                      (try go_wp2_with fail)
                      refine hK.out _ _ (by (try dsimp only); (try trivial)) (fun hHeld2 => ?_)
                      clear hK K hHeld
                      have hHeld := hHeld2
                      clear hHeld2
                      (try simp only [Act.put, qA, qB, qC])
                      refine wpAnyH_ready (rs := [4]) (by kernel_rfl) (by simp) ?_
                      refine AllReadyH.cons (o := { dst := none, op := Op.store 44 (Operand.tmp 11) (Operand.tmp 39), type := 0, pos := "cross.go:128", after := #[{ on := 1, ground := Ground.data }, { on := 3, ground := Ground.chain }, { on := 0, ground := Ground.phase }, { on := 1, ground := Ground.phase }, { on := 2, ground := Ground.textOnly Departure.lateStores }, { on := 3, ground := Ground.textOnly Departure.lateStoresUnsure }], guard := none }) rfl (fun K hK => ?_) ?_
                      · go_simp
                        refine hK.out _ _ (by (try dsimp only); (try trivial)) (fun hHeld2 => ?_)
                        clear hK K hHeld
                        have hHeld := hHeld2
                        clear hHeld2
                        (try simp only [Act.put, qA, qB, qC])
                        refine wpAnyH_ready (rs := [5]) (by kernel_rfl) (by simp) ?_
                        refine AllReadyH.cons (o := { dst := none, op := Op.store 44 (Operand.tmp 12) (Operand.tmp 41), type := 0, pos := "cross.go:128", after := #[{ on := 3, ground := Ground.data }, { on := 4, ground := Ground.chain }, { on := 0, ground := Ground.phase }, { on := 1, ground := Ground.phase }, { on := 2, ground := Ground.phase }, { on := 3, ground := Ground.phase }, { on := 4, ground := Ground.phase }], guard := none }) rfl (fun K hK => ?_) ?_
                        · go_simp
                          refine hK.out _ _ (by (try dsimp only); (try trivial)) (fun hHeld2 => ?_)
                          clear hK K hHeld
                          have hHeld := hHeld2
                          clear hHeld2
                          (try simp only [Act.put, qA, qB, qC])
                          refine wpAnyH_done (by kernel_rfl) ?_ _
                          have hbe := HB.out
                          go_wp2
                          go_meet
                          case rel =>
                            refine ⟨rfl, ?_, ?_, ?_, ?_, ?_, ?_, ?_, ?_⟩
                            · simp [go_sem, q51, q52, k5]
                            · simp [go_sem, q91, q92, q93, q94, q95, q96, q97, q98, k9]
                            · simp [go_sem, u1, u2, u3, u4, k11]
                            · simp [go_sem, v1, v2, v3, v4, k12]
                            · simp [go_sem, z0, z1, z2, z3, z4, z5, z6, z7, z8, z9, z10, z11, kr]
                            · simp [go_sem, f0, f1, f2, f3, f4, f5, f6, f7, f8, f9, f10, f11, kr]
                            · first | omega | (simp; done) | (simp [Gr.size]; done) | (simp [Gr.size]; omega)
                            · exact Below.gro (Below.setCell (Below.setCell (Below.setCell (Below.setCell (Below.setCell (Below.setCell (Below.setCell (Below.setCell hbe nw.1 _) nw.1 _) nw.1 _) nw.1 _) nw.2 _) nw.2 _) nw.2 _) nw.2 _) (by simp; omega) _ _
                        exact AllReadyH.nil
                      exact AllReadyH.nil
                    exact AllReadyH.nil
                  exact AllReadyH.nil
                refine AllReadyH.cons (o := { dst := some 40, op := Op.load 44 (Operand.tmp 12), type := 44, pos := "cross.go:128", after := #[], guard := none }) rfl (fun K hK => ?_) ?_
                · go_simp
                  refine hK.out _ _ (by (try dsimp only); (try trivial)) (fun hHeld2 => ?_)
                  clear hK K hHeld
                  have hHeld := hHeld2
                  clear hHeld2
                  (try simp only [Act.put, qA, qB, qC])
                  refine wpAnyH_ready (rs := [1]) (by kernel_rfl) (by simp) ?_
                  refine AllReadyH.cons (o := { dst := some 39, op := Op.call { callee := Callee.value (Operand.func 91), args := #[Operand.tmp 38], argTypes := #[44] }, type := 44, pos := "cross.go:128", after := #[{ on := 0, ground := Ground.data }], guard := none }) rfl (fun K hK => ?_) ?_
                  · go_simp
                    refine (M1 _).mono ?_
                    rintro e w1 ⟨rfl, os9, dr9, rfl⟩
                    (try go_wp2_with fail)
                    refine hK.out _ _ (by (try dsimp only); (try trivial)) (fun hHeld2 => ?_)
                    clear hK K hHeld
                    have hHeld := hHeld2
                    clear hHeld2
                    (try simp only [Act.put, qA, qB, qC])
                    refine wpAnyH_ready (rs := [3]) (by kernel_rfl) (by simp) ?_
                    refine AllReadyH.cons (o := { dst := some 41, op := Op.call { callee := Callee.value (Operand.func 91), args := #[Operand.tmp 40], argTypes := #[44] }, type := 44, pos := "cross.go:128", after := #[{ on := 2, ground := Ground.data }, { on := 1, ground := Ground.chain }], guard := none }) rfl (fun K hK => ?_) ?_
                    · go_simp
                      refine (M2 _).mono ?_
                      rintro e w1 ⟨rfl, os10, dr10, rfl⟩
                      (try go_wp2_with fail)
                      refine hK.out _ _ (by (try dsimp only); (try trivial)) (fun hHeld2 => ?_)
                      clear hK K hHeld
                      have hHeld := hHeld2
                      clear hHeld2
                      (try simp only [Act.put, qA, qB, qC])
                      refine wpAnyH_ready (rs := [4]) (by kernel_rfl) (by simp) ?_
                      refine AllReadyH.cons (o := { dst := none, op := Op.store 44 (Operand.tmp 11) (Operand.tmp 39), type := 0, pos := "cross.go:128", after := #[{ on := 1, ground := Ground.data }, { on := 3, ground := Ground.chain }, { on := 0, ground := Ground.phase }, { on := 1, ground := Ground.phase }, { on := 2, ground := Ground.textOnly Departure.lateStores }, { on := 3, ground := Ground.textOnly Departure.lateStoresUnsure }], guard := none }) rfl (fun K hK => ?_) ?_
                      · go_simp
                        refine hK.out _ _ (by (try dsimp only); (try trivial)) (fun hHeld2 => ?_)
                        clear hK K hHeld
                        have hHeld := hHeld2
                        clear hHeld2
                        (try simp only [Act.put, qA, qB, qC])
                        refine wpAnyH_ready (rs := [5]) (by kernel_rfl) (by simp) ?_
                        refine AllReadyH.cons (o := { dst := none, op := Op.store 44 (Operand.tmp 12) (Operand.tmp 41), type := 0, pos := "cross.go:128", after := #[{ on := 3, ground := Ground.data }, { on := 4, ground := Ground.chain }, { on := 0, ground := Ground.phase }, { on := 1, ground := Ground.phase }, { on := 2, ground := Ground.phase }, { on := 3, ground := Ground.phase }, { on := 4, ground := Ground.phase }], guard := none }) rfl (fun K hK => ?_) ?_
                        · go_simp
                          refine hK.out _ _ (by (try dsimp only); (try trivial)) (fun hHeld2 => ?_)
                          clear hK K hHeld
                          have hHeld := hHeld2
                          clear hHeld2
                          (try simp only [Act.put, qA, qB, qC])
                          refine wpAnyH_done (by kernel_rfl) ?_ _
                          have hbe := HB.out
                          go_wp2
                          go_meet
                          case rel =>
                            refine ⟨rfl, ?_, ?_, ?_, ?_, ?_, ?_, ?_, ?_⟩
                            · simp [go_sem, q51, q52, k5]
                            · simp [go_sem, q91, q92, q93, q94, q95, q96, q97, q98, k9]
                            · simp [go_sem, u1, u2, u3, u4, k11]
                            · simp [go_sem, v1, v2, v3, v4, k12]
                            · simp [go_sem, z0, z1, z2, z3, z4, z5, z6, z7, z8, z9, z10, z11, kr]
                            · simp [go_sem, f0, f1, f2, f3, f4, f5, f6, f7, f8, f9, f10, f11, kr]
                            · first | omega | (simp; done) | (simp [Gr.size]; done) | (simp [Gr.size]; omega)
                            · exact Below.gro (Below.setCell (Below.setCell (Below.setCell (Below.setCell (Below.setCell (Below.setCell (Below.setCell (Below.setCell hbe nw.1 _) nw.1 _) nw.1 _) nw.1 _) nw.2 _) nw.2 _) nw.2 _) nw.2 _) (by simp; omega) _ _
                        exact AllReadyH.nil
                      exact AllReadyH.nil
                    exact AllReadyH.nil
                  exact AllReadyH.nil
                exact AllReadyH.nil
              refine AllReadyH.cons (o := { dst := some 40, op := Op.load 44 (Operand.tmp 12), type := 44, pos := "cross.go:128", after := #[], guard := none }) rfl (fun K hK => ?_) ?_
              · go_simp
                refine hK.out _ _ (by (try dsimp only); (try trivial)) (fun hHeld2 => ?_)
                clear hK K hHeld
                have hHeld := hHeld2
                clear hHeld2
                (try simp only [Act.put, qA, qB, qC])
                refine wpAnyH_ready (rs := [0]) (by kernel_rfl) (by simp) ?_
                refine AllReadyH.cons (o := { dst := some 38, op := Op.load 44 (Operand.tmp 11), type := 44, pos := "cross.go:128", after := #[], guard := none }) rfl (fun K hK => ?_) ?_
                · go_simp
                  refine hK.out _ _ (by (try dsimp only); (try trivial)) (fun hHeld2 => ?_)
                  clear hK K hHeld
                  have hHeld := hHeld2
                  clear hHeld2
                  (try simp only [Act.put, qA, qB, qC])
                  refine wpAnyH_ready (rs := [1]) (by kernel_rfl) (by simp) ?_
                  refine AllReadyH.cons (o := { dst := some 39, op := Op.call { callee := Callee.value (Operand.func 91), args := #[Operand.tmp 38], argTypes := #[44] }, type := 44, pos := "cross.go:128", after := #[{ on := 0, ground := Ground.data }], guard := none }) rfl (fun K hK => ?_) ?_
                  · go_simp
                    refine (M1 _).mono ?_
                    rintro e w1 ⟨rfl, os9, dr9, rfl⟩
                    (try go_wp2_with fail)
                    refine hK.out _ _ (by (try dsimp only); (try trivial)) (fun hHeld2 => ?_)
                    clear hK K hHeld
                    have hHeld := hHeld2
                    clear hHeld2
                    (try simp only [Act.put, qA, qB, qC])
                    refine wpAnyH_ready (rs := [3]) (by kernel_rfl) (by simp) ?_
                    refine AllReadyH.cons (o := { dst := some 41, op := Op.call { callee := Callee.value (Operand.func 91), args := #[Operand.tmp 40], argTypes := #[44] }, type := 44, pos := "cross.go:128", after := #[{ on := 2, ground := Ground.data }, { on := 1, ground := Ground.chain }], guard := none }) rfl (fun K hK => ?_) ?_
                    · go_simp
                      refine (M2 _).mono ?_
                      rintro e w1 ⟨rfl, os10, dr10, rfl⟩
                      (try go_wp2_with fail)
                      refine hK.out _ _ (by (try dsimp only); (try trivial)) (fun hHeld2 => ?_)
                      clear hK K hHeld
                      have hHeld := hHeld2
                      clear hHeld2
                      (try simp only [Act.put, qA, qB, qC])
                      refine wpAnyH_ready (rs := [4]) (by kernel_rfl) (by simp) ?_
                      refine AllReadyH.cons (o := { dst := none, op := Op.store 44 (Operand.tmp 11) (Operand.tmp 39), type := 0, pos := "cross.go:128", after := #[{ on := 1, ground := Ground.data }, { on := 3, ground := Ground.chain }, { on := 0, ground := Ground.phase }, { on := 1, ground := Ground.phase }, { on := 2, ground := Ground.textOnly Departure.lateStores }, { on := 3, ground := Ground.textOnly Departure.lateStoresUnsure }], guard := none }) rfl (fun K hK => ?_) ?_
                      · go_simp
                        refine hK.out _ _ (by (try dsimp only); (try trivial)) (fun hHeld2 => ?_)
                        clear hK K hHeld
                        have hHeld := hHeld2
                        clear hHeld2
                        (try simp only [Act.put, qA, qB, qC])
                        refine wpAnyH_ready (rs := [5]) (by kernel_rfl) (by simp) ?_
                        refine AllReadyH.cons (o := { dst := none, op := Op.store 44 (Operand.tmp 12) (Operand.tmp 41), type := 0, pos := "cross.go:128", after := #[{ on := 3, ground := Ground.data }, { on := 4, ground := Ground.chain }, { on := 0, ground := Ground.phase }, { on := 1, ground := Ground.phase }, { on := 2, ground := Ground.phase }, { on := 3, ground := Ground.phase }, { on := 4, ground := Ground.phase }], guard := none }) rfl (fun K hK => ?_) ?_
                        · go_simp
                          refine hK.out _ _ (by (try dsimp only); (try trivial)) (fun hHeld2 => ?_)
                          clear hK K hHeld
                          have hHeld := hHeld2
                          clear hHeld2
                          (try simp only [Act.put, qA, qB, qC])
                          refine wpAnyH_done (by kernel_rfl) ?_ _
                          have hbe := HB.out
                          go_wp2
                          go_meet
                          case rel =>
                            refine ⟨rfl, ?_, ?_, ?_, ?_, ?_, ?_, ?_, ?_⟩
                            · simp [go_sem, q51, q52, k5]
                            · simp [go_sem, q91, q92, q93, q94, q95, q96, q97, q98, k9]
                            · simp [go_sem, u1, u2, u3, u4, k11]
                            · simp [go_sem, v1, v2, v3, v4, k12]
                            · simp [go_sem, z0, z1, z2, z3, z4, z5, z6, z7, z8, z9, z10, z11, kr]
                            · simp [go_sem, f0, f1, f2, f3, f4, f5, f6, f7, f8, f9, f10, f11, kr]
                            · first | omega | (simp; done) | (simp [Gr.size]; done) | (simp [Gr.size]; omega)
                            · exact Below.gro (Below.setCell (Below.setCell (Below.setCell (Below.setCell (Below.setCell (Below.setCell (Below.setCell (Below.setCell hbe nw.1 _) nw.1 _) nw.1 _) nw.1 _) nw.2 _) nw.2 _) nw.2 _) nw.2 _) (by simp; omega) _ _
                        exact AllReadyH.nil
                      exact AllReadyH.nil
                    exact AllReadyH.nil
                  exact AllReadyH.nil
                exact AllReadyH.nil
              exact AllReadyH.nil
            case rest =>
              obtain ⟨rfl, q5, q9, q11, q12, qz, qf, hsz, hbe⟩ := hcut
              obtain ⟨W5, hW9⟩ : ∃ W5, W5 = wc := ⟨_, rfl⟩
              subst hW9
              replace HB : Hid (Below w.heap.size w W5) := hbe
              replace k5 : g5 < W5.heap.size := by omega
              replace k9 : g9 < W5.heap.size := by omega
              replace k11 : g11 < W5.heap.size := by omega
              replace k12 : g12 < W5.heap.size := by omega
              replace kr : w.heap.size + 1 + 1 < W5.heap.size := by omega
              clear hbe hsz
              have hSO : ∀ w', IsGr W5 w' → (w'.cell? ⟨g5, 0, none⟩ = some (.int .i64 l1) ∧ w'.cell? ⟨g5, 1, none⟩ = some (.int .i64 l2)) ∧ (w'.cell? ⟨g9, 0, none⟩ = some (.int .u64 (wd0 V1)) ∧ w'.cell? ⟨g9, 1, none⟩ = some (.int .u64 (wd1 V1)) ∧ w'.cell? ⟨g9, 2, none⟩ = some (.int .u64 (wd2 V1)) ∧ w'.cell? ⟨g9, 3, none⟩ = some (.int .u64 (wd3 V1)) ∧ w'.cell? ⟨g9, 4, none⟩ = some (.int .u64 (wd0 V2)) ∧ w'.cell? ⟨g9, 5, none⟩ = some (.int .u64 (wd1 V2)) ∧ w'.cell? ⟨g9, 6, none⟩ = some (.int .u64 (wd2 V2)) ∧ w'.cell? ⟨g9, 7, none⟩ = some (.int .u64 (wd3 V2))) ∧ (w'.cell? ⟨g11, 0, none⟩ = some (.int .u64 (wd0 W)) ∧ w'.cell? ⟨g11, 1, none⟩ = some (.int .u64 (wd1 W)) ∧ w'.cell? ⟨g11, 2, none⟩ = some (.int .u64 (wd2 W)) ∧ w'.cell? ⟨g11, 3, none⟩ = some (.int .u64 (wd3 W))) ∧ (w'.cell? ⟨g12, 0, none⟩ = some (.int .u64 (wd0 R)) ∧ w'.cell? ⟨g12, 1, none⟩ = some (.int .u64 (wd1 R)) ∧ w'.cell? ⟨g12, 2, none⟩ = some (.int .u64 (wd2 R)) ∧ w'.cell? ⟨g12, 3, none⟩ = some (.int .u64 (wd3 R))) := fun w' hg => ⟨⟨hg.cell_at (by omega) q5.1, hg.cell_at (by omega) q5.2⟩, ⟨hg.cell_at (by omega) q9.1, hg.cell_at (by omega) q9.2.1, hg.cell_at (by omega) q9.2.2.1, hg.cell_at (by omega) q9.2.2.2.1, hg.cell_at (by omega) q9.2.2.2.2.1, hg.cell_at (by omega) q9.2.2.2.2.2.1, hg.cell_at (by omega) q9.2.2.2.2.2.2.1, hg.cell_at (by omega) q9.2.2.2.2.2.2.2⟩, ⟨hg.cell_at (by omega) q11.1, hg.cell_at (by omega) q11.2.1, hg.cell_at (by omega) q11.2.2.1, hg.cell_at (by omega) q11.2.2.2⟩, ⟨hg.cell_at (by omega) q12.1, hg.cell_at (by omega) q12.2.1, hg.cell_at (by omega) q12.2.2.1, hg.cell_at (by omega) q12.2.2.2⟩⟩
              clear q5 q9 q11 q12
              obtain ⟨z0, z1, z2, z3, z4, z5, z6, z7, z8, z9, z10, z11⟩ := qz
              obtain ⟨f0, f1, f2, f3, f4, f5, f6, f7, f8, f9, f10, f11⟩ := qf
              have hbe := HB.out
              have kq : w.heap.size ≤ w.heap.size + 1 + 1 := by omega
              go_upto_region 7 with fail
              refine wp_region_but (S := (fun w' => (w'.cell? ⟨g5, 0, none⟩ = some (.int .i64 l1) ∧ w'.cell? ⟨g5, 1, none⟩ = some (.int .i64 l2)) ∧ (w'.cell? ⟨g9, 0, none⟩ = some (.int .u64 (wd0 V1)) ∧ w'.cell? ⟨g9, 1, none⟩ = some (.int .u64 (wd1 V1)) ∧ w'.cell? ⟨g9, 2, none⟩ = some (.int .u64 (wd2 V1)) ∧ w'.cell? ⟨g9, 3, none⟩ = some (.int .u64 (wd3 V1)) ∧ w'.cell? ⟨g9, 4, none⟩ = some (.int .u64 (wd0 V2)) ∧ w'.cell? ⟨g9, 5, none⟩ = some (.int .u64 (wd1 V2)) ∧ w'.cell? ⟨g9, 6, none⟩ = some (.int .u64 (wd2 V2)) ∧ w'.cell? ⟨g9, 7, none⟩ = some (.int .u64 (wd3 V2))) ∧ (w'.cell? ⟨g11, 0, none⟩ = some (.int .u64 (wd0 W)) ∧ w'.cell? ⟨g11, 1, none⟩ = some (.int .u64 (wd1 W)) ∧ w'.cell? ⟨g11, 2, none⟩ = some (.int .u64 (wd2 W)) ∧ w'.cell? ⟨g11, 3, none⟩ = some (.int .u64 (wd3 W))) ∧ (w'.cell? ⟨g12, 0, none⟩ = some (.int .u64 (wd0 R)) ∧ w'.cell? ⟨g12, 1, none⟩ = some (.int .u64 (wd1 R)) ∧ w'.cell? ⟨g12, 2, none⟩ = some (.int .u64 (wd2 R)) ∧ w'.cell? ⟨g12, 3, none⟩ = some (.int .u64 (wd3 R))))) (k := 22) (n := 22) (by kernel_rfl) (by kernel_rfl) (by (try dsimp only); exact hSO _ (by with_reducible repeat (first | exact IsGr.refl _ | refine IsGr.gr ?_ _ _ | refine IsGr.alloc ?_ _ | refine IsGr.drew ?_ | refine IsGr.drewN ?_ _))) (fun hHeld => ?_)
              refine wpAnyH_take (i := 0) (oi := { dst := some 42, op := Op.fieldAddr 24 (Operand.tmp 5) 0, type := 0, pos := "cross.go:130", after := #[], guard := none }) (v := ?_) rfl (by kernel_rfl) (by kernel_rfl) (by kernel_rfl) (fun _ _ _ h => h) (Or.inl ⟨by rfl, ?_⟩) (by assumption) ?_
              rotate_left
              · (intro w hSw; (try dsimp only at hSw); go_simp <;> with_reducible rfl)
              (try simp only [Act.put, qA, qB, qC])
              refine wpAnyH_take (i := 1) (oi := { dst := some 43, op := Op.load 3 (Operand.tmp 42), type := 3, pos := "cross.go:130", after := #[{ on := 0, ground := Ground.data }], guard := none }) (v := ?_) rfl (by kernel_rfl) (by kernel_rfl) (by kernel_rfl) (fun _ _ _ h => h) (Or.inl ⟨by rfl, ?_⟩) (by assumption) ?_
              rotate_left
              · (intro w hSw; (try dsimp only at hSw); go_simp <;> with_reducible rfl)
              (try simp only [Act.put, qA, qB, qC])
              refine wpAnyH_take (i := 3) (oi := { dst := some 45, op := Op.load 44 (Operand.tmp 11), type := 44, pos := "cross.go:130", after := #[], guard := none }) (v := ?_) rfl (by kernel_rfl) (by kernel_rfl) (by kernel_rfl) (fun _ _ _ h => h) (Or.inl ⟨by rfl, ?_⟩) (by assumption) ?_
              rotate_left
              · (intro w hSw; (try dsimp only at hSw); go_simp <;> with_reducible rfl)
              (try simp only [Act.put, qA, qB, qC])
              refine wpAnyH_take (i := 5) (oi := { dst := some 47, op := Op.fieldAddr 98 (Operand.tmp 9) 0, type := 0, pos := "cross.go:130", after := #[], guard := none }) (v := ?_) rfl (by kernel_rfl) (by kernel_rfl) (by kernel_rfl) (fun _ _ _ h => h) (Or.inl ⟨by rfl, ?_⟩) (by assumption) ?_
              rotate_left
              · (intro w hSw; (try dsimp only at hSw); go_simp <;> with_reducible rfl)
              (try simp only [Act.put, qA, qB, qC])
              refine wpAnyH_take (i := 6) (oi := { dst := some 48, op := Op.load 44 (Operand.tmp 47), type := 44, pos := "cross.go:130", after := #[{ on := 5, ground := Ground.data }], guard := none }) (v := ?_) rfl (by kernel_rfl) (by kernel_rfl) (by kernel_rfl) (fun _ _ _ h => h) (Or.inl ⟨by rfl, ?_⟩) (by assumption) ?_
              rotate_left
              · (intro w hSw; (try dsimp only at hSw); go_simp <;> with_reducible rfl)
              (try simp only [Act.put, qA, qB, qC])
              refine wpAnyH_take (i := 7) (oi := { dst := some 49, op := Op.load 44 (Operand.tmp 12), type := 44, pos := "cross.go:130", after := #[], guard := none }) (v := ?_) rfl (by kernel_rfl) (by kernel_rfl) (by kernel_rfl) (fun _ _ _ h => h) (Or.inl ⟨by rfl, ?_⟩) (by assumption) ?_
              rotate_left
              · (intro w hSw; (try dsimp only at hSw); go_simp <;> with_reducible rfl)
              (try simp only [Act.put, qA, qB, qC])
              refine wpAnyH_take (i := 10) (oi := { dst := some 52, op := Op.fieldAddr 24 (Operand.tmp 5) 1, type := 0, pos := "cross.go:130", after := #[], guard := none }) (v := ?_) rfl (by kernel_rfl) (by kernel_rfl) (by kernel_rfl) (fun _ _ _ h => h) (Or.inl ⟨by rfl, ?_⟩) (by assumption) ?_
              rotate_left
              · (intro w hSw; (try dsimp only at hSw); go_simp <;> with_reducible rfl)
              (try simp only [Act.put, qA, qB, qC])
              refine wpAnyH_take (i := 11) (oi := { dst := some 53, op := Op.load 3 (Operand.tmp 52), type := 3, pos := "cross.go:130", after := #[{ on := 10, ground := Ground.data }], guard := none }) (v := ?_) rfl (by kernel_rfl) (by kernel_rfl) (by kernel_rfl) (fun _ _ _ h => h) (Or.inl ⟨by rfl, ?_⟩) (by assumption) ?_
              rotate_left
              · (intro w hSw; (try dsimp only at hSw); go_simp <;> with_reducible rfl)
              (try simp only [Act.put, qA, qB, qC])
              refine wpAnyH_take (i := 13) (oi := { dst := some 55, op := Op.load 44 (Operand.tmp 11), type := 44, pos := "cross.go:130", after := #[], guard := none }) (v := ?_) rfl (by kernel_rfl) (by kernel_rfl) (by kernel_rfl) (fun _ _ _ h => h) (Or.inl ⟨by rfl, ?_⟩) (by assumption) ?_
              rotate_left
              · (intro w hSw; (try dsimp only at hSw); go_simp <;> with_reducible rfl)
              (try simp only [Act.put, qA, qB, qC])
              refine wpAnyH_take (i := 15) (oi := { dst := some 57, op := Op.fieldAddr 98 (Operand.tmp 9) 1, type := 0, pos := "cross.go:130", after := #[], guard := none }) (v := ?_) rfl (by kernel_rfl) (by kernel_rfl) (by kernel_rfl) (fun _ _ _ h => h) (Or.inl ⟨by rfl, ?_⟩) (by assumption) ?_
              rotate_left
              · (intro w hSw; (try dsimp only at hSw); go_simp <;> with_reducible rfl)
              (try simp only [Act.put, qA, qB, qC])
              refine wpAnyH_take (i := 16) (oi := { dst := some 58, op := Op.load 44 (Operand.tmp 57), type := 44, pos := "cross.go:130", after := #[{ on := 15, ground := Ground.data }], guard := none }) (v := ?_) rfl (by kernel_rfl) (by kernel_rfl) (by kernel_rfl) (fun _ _ _ h => h) (Or.inl ⟨by rfl, ?_⟩) (by assumption) ?_
              rotate_left
              · (intro w hSw; (try dsimp only at hSw); go_simp <;> with_reducible rfl)
              (try simp only [Act.put, qA, qB, qC])
              refine wpAnyH_take (i := 17) (oi := { dst := some 59, op := Op.load 44 (Operand.tmp 12), type := 44, pos := "cross.go:130", after := #[], guard := none }) (v := ?_) rfl (by kernel_rfl) (by kernel_rfl) (by kernel_rfl) (fun _ _ _ h => h) (Or.inl ⟨by rfl, ?_⟩) (by assumption) ?_
              rotate_left
              · (intro w hSw; (try dsimp only at hSw); go_simp <;> with_reducible rfl)
              (try simp only [Act.put, qA, qB, qC])
              refine wpAnyH_take (i := 20) (oi := { dst := some 62, op := Op.load 44 (Operand.tmp 11), type := 44, pos := "cross.go:130", after := #[], guard := none }) (v := ?_) rfl (by kernel_rfl) (by kernel_rfl) (by kernel_rfl) (fun _ _ _ h => h) (Or.inl ⟨by rfl, ?_⟩) (by assumption) ?_
              rotate_left
              · (intro w hSw; (try dsimp only at hSw); go_simp <;> with_reducible rfl)
              (try simp only [Act.put, qA, qB, qC])
              refine wpAnyH_ready (rs := [2]) (by kernel_rfl) (by simp) ?_
              refine AllReadyH.cons (o := { dst := some 44, op := Op.call { callee := Callee.value (Operand.func 38), args := #[Operand.tmp 43], argTypes := #[3] }, type := 44, pos := "cross.go:131", after := #[{ on := 1, ground := Ground.data }], guard := none }) rfl (fun K hK => ?_) ?_
              · go_simp
                refine (O1 _).mono ?_
                rintro e w1 ⟨rfl, os1, dr1, rfl⟩
                (try go_wp2_with fail)
                refine hK.out _ _ (by (try dsimp only); exact hSO _ (by with_reducible repeat (first | exact IsGr.refl _ | refine IsGr.gr ?_ _ _ | refine IsGr.alloc ?_ _ | refine IsGr.drew ?_ | refine IsGr.drewN ?_ _))) (fun hHeld2 => ?_)
                clear hK K hHeld
                have hHeld := hHeld2
                clear hHeld2
                (try simp only [Act.put, qA, qB, qC])
                refine wpAnyH_ready (rs := [4]) (by kernel_rfl) (by simp) ?_
                refine AllReadyH.cons (o := { dst := some 46, op := Op.call { callee := Callee.value (Operand.func 70), args := #[Operand.tmp 44, Operand.tmp 45], argTypes := #[44, 44] }, type := 44, pos := "cross.go:131", after := #[{ on := 2, ground := Ground.data }, { on := 3, ground := Ground.data }, { on := 2, ground := Ground.chain }], guard := none }) rfl (fun K hK => ?_) ?_
                · go_simp
                  refine (P1 _).mono ?_
                  rintro e w1 ⟨rfl, os2, dr2, rfl⟩
                  (try go_wp2_with fail)
                  refine hK.out _ _ (by (try dsimp only); exact hSO _ (by with_reducible repeat (first | exact IsGr.refl _ | refine IsGr.gr ?_ _ _ | refine IsGr.alloc ?_ _ | refine IsGr.drew ?_ | refine IsGr.drewN ?_ _))) (fun hHeld2 => ?_)
                  clear hK K hHeld
                  have hHeld := hHeld2
                  clear hHeld2
                  (try simp only [Act.put, qA, qB, qC])
                  refine wpAnyH_ready (rs := [8]) (by kernel_rfl) (by simp) ?_
                  refine AllReadyH.cons (o := { dst := some 50, op := Op.call { callee := Callee.value (Operand.func 70), args := #[Operand.tmp 48, Operand.tmp 49], argTypes := #[44, 44] }, type := 44, pos := "cross.go:131", after := #[{ on := 6, ground := Ground.data }, { on := 7, ground := Ground.data }, { on := 4, ground := Ground.chain }], guard := none }) rfl (fun K hK => ?_) ?_
                  · go_simp
                    refine (P2 _).mono ?_
                    rintro e w1 ⟨rfl, os3, dr3, rfl⟩
                    (try go_wp2_with fail)
                    refine hK.out _ _ (by (try dsimp only); exact hSO _ (by with_reducible repeat (first | exact IsGr.refl _ | refine IsGr.gr ?_ _ _ | refine IsGr.alloc ?_ _ | refine IsGr.drew ?_ | refine IsGr.drewN ?_ _))) (fun hHeld2 => ?_)
                    clear hK K hHeld
                    have hHeld := hHeld2
                    clear hHeld2
                    (try simp only [Act.put, qA, qB, qC])
                    refine wpAnyH_ready (rs := [9]) (by kernel_rfl) (by simp) ?_
                    refine AllReadyH.cons (o := { dst := some 51, op := Op.call { callee := Callee.value (Operand.func 92), args := #[Operand.tmp 46, Operand.tmp 50], argTypes := #[44, 44] }, type := 44, pos := "cross.go:131", after := #[{ on := 4, ground := Ground.data }, { on := 8, ground := Ground.data }, { on := 8, ground := Ground.chain }], guard := none }) rfl (fun K hK => ?_) ?_
                    · go_simp
                      refine (A1 _).mono ?_
                      rintro e w1 ⟨rfl, os4, dr4, rfl⟩
                      (try go_wp2_with fail)
                      refine hK.out _ _ (by (try dsimp only); exact hSO _ (by with_reducible repeat (first | exact IsGr.refl _ | refine IsGr.gr ?_ _ _ | refine IsGr.alloc ?_ _ | refine IsGr.drew ?_ | refine IsGr.drewN ?_ _))) (fun hHeld2 => ?_)
                      clear hK K hHeld
                      have hHeld := hHeld2
                      clear hHeld2
                      (try simp only [Act.put, qA, qB, qC])
                      refine wpAnyH_ready (rs := [12]) (by kernel_rfl) (by simp) ?_
                      refine AllReadyH.cons (o := { dst := some 54, op := Op.call { callee := Callee.value (Operand.func 38), args := #[Operand.tmp 53], argTypes := #[3] }, type := 44, pos := "cross.go:132", after := #[{ on := 11, ground := Ground.data }, { on := 9, ground := Ground.chain }], guard := none }) rfl (fun K hK => ?_) ?_
                      · go_simp
                        refine (O2 _).mono ?_
                        rintro e w1 ⟨rfl, os5, dr5, rfl⟩
                        (try go_wp2_with fail)
                        refine hK.out _ _ (by (try dsimp only); exact hSO _ (by with_reducible repeat (first | exact IsGr.refl _ | refine IsGr.gr ?_ _ _ | refine IsGr.alloc ?_ _ | refine IsGr.drew ?_ | refine IsGr.drewN ?_ _))) (fun hHeld2 => ?_)
                        clear hK K hHeld
                        have hHeld := hHeld2
                        clear hHeld2
                        (try simp only [Act.put, qA, qB, qC])
                        refine wpAnyH_ready (rs := [14]) (by kernel_rfl) (by simp) ?_
                        refine AllReadyH.cons (o := { dst := some 56, op := Op.call { callee := Callee.value (Operand.func 70), args := #[Operand.tmp 54, Operand.tmp 55], argTypes := #[44, 44] }, type := 44, pos := "cross.go:132", after := #[{ on := 12, ground := Ground.data }, { on := 13, ground := Ground.data }, { on := 12, ground := Ground.chain }], guard := none }) rfl (fun K hK => ?_) ?_
                        · go_simp
                          refine (P3 _).mono ?_
                          rintro e w1 ⟨rfl, os6, dr6, rfl⟩
                          (try go_wp2_with fail)
                          refine hK.out _ _ (by (try dsimp only); exact hSO _ (by with_reducible repeat (first | exact IsGr.refl _ | refine IsGr.gr ?_ _ _ | refine IsGr.alloc ?_ _ | refine IsGr.drew ?_ | refine IsGr.drewN ?_ _))) (fun hHeld2 => ?_)
                          clear hK K hHeld
                          have hHeld := hHeld2
                          clear hHeld2
                          (try simp only [Act.put, qA, qB, qC])
                          refine wpAnyH_ready (rs := [18]) (by kernel_rfl) (by simp) ?_
                          refine AllReadyH.cons (o := { dst := some 60, op := Op.call { callee := Callee.value (Operand.func 70), args := #[Operand.tmp 58, Operand.tmp 59], argTypes := #[44, 44] }, type := 44, pos := "cross.go:132", after := #[{ on := 16, ground := Ground.data }, { on := 17, ground := Ground.data }, { on := 14, ground := Ground.chain }], guard := none }) rfl (fun K hK => ?_) ?_
                          · go_simp
                            refine (P4 _).mono ?_
                            rintro e w1 ⟨rfl, os7, dr7, rfl⟩
                            (try go_wp2_with fail)
                            refine hK.out _ _ (by (try dsimp only); exact hSO _ (by with_reducible repeat (first | exact IsGr.refl _ | refine IsGr.gr ?_ _ _ | refine IsGr.alloc ?_ _ | refine IsGr.drew ?_ | refine IsGr.drewN ?_ _))) (fun hHeld2 => ?_)
                            clear hK K hHeld
                            have hHeld := hHeld2
                            clear hHeld2
                            (try simp only [Act.put, qA, qB, qC])
                            refine wpAnyH_ready (rs := [19]) (by kernel_rfl) (by simp) ?_
                            refine AllReadyH.cons (o := { dst := some 61, op := Op.call { callee := Callee.value (Operand.func 92), args := #[Operand.tmp 56, Operand.tmp 60], argTypes := #[44, 44] }, type := 44, pos := "cross.go:132", after := #[{ on := 14, ground := Ground.data }, { on := 18, ground := Ground.data }, { on := 18, ground := Ground.chain }], guard := none }) rfl (fun K hK => ?_) ?_
                            · go_simp
                              refine (A2 _).mono ?_
                              rintro e w1 ⟨rfl, os8, dr8, rfl⟩
                              (try go_wp2_with fail)
                              refine hK.out _ _ (by (try dsimp only); exact hSO _ (by with_reducible repeat (first | exact IsGr.refl _ | refine IsGr.gr ?_ _ _ | refine IsGr.alloc ?_ _ | refine IsGr.drew ?_ | refine IsGr.drewN ?_ _))) (fun hHeld2 => ?_)
                              clear hK K hHeld
                              have hHeld := hHeld2
                              clear hHeld2
                              (try simp only [Act.put, qA, qB, qC])
                              refine wpAnyH_take (i := 21) (oi := { dst := some 63, op := Op.build 46 #[(0, Operand.tmp 51), (1, Operand.tmp 61), (2, Operand.tmp 62)], type := 46, pos := "cross.go:130", after := #[{ on := 9, ground := Ground.data }, { on := 19, ground := Ground.data }, { on := 20, ground := Ground.data }], guard := none }) (v := ?_) rfl (by kernel_rfl) (by kernel_rfl) (by kernel_rfl) (fun _ _ _ h => h) (Or.inl ⟨by rfl, ?_⟩) (by assumption) ?_
                              rotate_left
                              · (intro w hSw; (try dsimp only at hSw); go_simp <;> with_reducible rfl)
                              (try simp only [Act.put, qA, qB, qC])
                              refine wpAnyH_done (by kernel_rfl) ?_ _
                              refine butLast_step (o := { dst := none, op := Op.store 46 (Operand.tmp 4) (Operand.tmp 63), type := 0, pos := "cross.go:130", after := #[{ on := 21, ground := Ground.data }, { on := 19, ground := Ground.chain }, { on := 0, ground := Ground.phase }, { on := 1, ground := Ground.phase }, { on := 2, ground := Ground.phase }, { on := 3, ground := Ground.phase }, { on := 4, ground := Ground.phase }, { on := 5, ground := Ground.phase }, { on := 6, ground := Ground.phase }, { on := 7, ground := Ground.phase }, { on := 8, ground := Ground.phase }, { on := 9, ground := Ground.phase }, { on := 10, ground := Ground.phase }, { on := 11, ground := Ground.phase }, { on := 12, ground := Ground.phase }, { on := 13, ground := Ground.phase }, { on := 14, ground := Ground.phase }, { on := 15, ground := Ground.phase }, { on := 16, ground := Ground.phase }, { on := 17, ground := Ground.phase }, { on := 18, ground := Ground.phase }, { on := 19, ground := Ground.phase }, { on := 20, ground := Ground.phase }, { on := 21, ground := Ground.phase }], guard := none }) rfl (fun K hK => ?_)
                              go_simp
                              refine hK.out _ _ ?_
                              clear hK K
                              (try simp only [Act.put, qA, qB, qC])
                              go_wp2
                              refine bodyPost_ret (v := .agg #[.int .u64 (wd0 X), .int .u64 (wd1 X), .int .u64 (wd2 X), .int .u64 (wd3 X), .int .u64 (wd0 Y), .int .u64 (wd1 Y), .int .u64 (wd2 Y), .int .u64 (wd3 Y), .int .u64 (wd0 W), .int .u64 (wd1 W), .int .u64 (wd2 W), .int .u64 (wd3 W)]) (by simp [results, Try.results63, go_sem, kr, z0, z1, z2, z3, z4, z5, z6, z7, z8, z9, z10, z11]) rfl ⟨rfl, IsGr.of_below (Below.gro (Below.setCell (Below.setCell (Below.setCell (Below.setCell (Below.setCell (Below.setCell (Below.setCell (Below.setCell (Below.setCell (Below.setCell (Below.setCell (Below.setCell hbe kq _) kq _) kq _) kq _) kq _) kq _) kq _) kq _) kq _) kq _) kq _) kq _) (by simp; omega) _ _)⟩
                            exact AllReadyH.nil
                          exact AllReadyH.nil
                        exact AllReadyH.nil
                      exact AllReadyH.nil
                    exact AllReadyH.nil
                  exact AllReadyH.nil
                exact AllReadyH.nil
              exact AllReadyH.nil
        · subst eW eR
          clear N1 N2
          have hX : decide (cmpI W 0 < 0) = false := by rcases cmpI_cases W 0 with ⟨e, g⟩ | ⟨e, g⟩ | ⟨e, g⟩ <;> simp <;> omega
          generalize cmpI W 0 = S9 at *
          clear hT n5 n9 nr nw jn
          go_upto_region 5 with fail
          go_cut [37] (fun t37 wr => t37 = .bool false ∧ IsGr W3 wr)
          case first =>
            go_wp2_with fail
            refine (CS _).mono ?_
            rintro e w1 ⟨rfl, os8, dr8, rfl⟩
            go_wp2
            go_meet
            case rel => exact ⟨by first | rfl | (simp [hX]; done), (by with_reducible repeat (first | exact IsGr.refl _ | refine IsGr.gr ?_ _ _ | refine IsGr.alloc ?_ _ | refine IsGr.drew ?_ | refine IsGr.drewN ?_ _))⟩
          case rest =>
            obtain ⟨rfl, hgr⟩ := hcut
            obtain ⟨W4, hW9⟩ : ∃ W4, W4 = wc := ⟨_, rfl⟩
            subst hW9
            replace q5 : (W4.cell? ⟨g5, 0, none⟩ = some (.int .i64 l1) ∧ W4.cell? ⟨g5, 1, none⟩ = some (.int .i64 l2)) := ⟨hgr.cell_at k5 q5.1, hgr.cell_at k5 q5.2⟩
            replace q9 : (W4.cell? ⟨g9, 0, none⟩ = some (.int .u64 (wd0 V1)) ∧ W4.cell? ⟨g9, 1, none⟩ = some (.int .u64 (wd1 V1)) ∧ W4.cell? ⟨g9, 2, none⟩ = some (.int .u64 (wd2 V1)) ∧ W4.cell? ⟨g9, 3, none⟩ = some (.int .u64 (wd3 V1)) ∧ W4.cell? ⟨g9, 4, none⟩ = some (.int .u64 (wd0 V2)) ∧ W4.cell? ⟨g9, 5, none⟩ = some (.int .u64 (wd1 V2)) ∧ W4.cell? ⟨g9, 6, none⟩ = some (.int .u64 (wd2 V2)) ∧ W4.cell? ⟨g9, 7, none⟩ = some (.int .u64 (wd3 V2))) := ⟨hgr.cell_at k9 q9.1, hgr.cell_at k9 q9.2.1, hgr.cell_at k9 q9.2.2.1, hgr.cell_at k9 q9.2.2.2.1, hgr.cell_at k9 q9.2.2.2.2.1, hgr.cell_at k9 q9.2.2.2.2.2.1, hgr.cell_at k9 q9.2.2.2.2.2.2.1, hgr.cell_at k9 q9.2.2.2.2.2.2.2⟩
            replace qz : (W4.cell? ⟨w.heap.size + 1 + 1, 0, none⟩ = some (.int .u64 0) ∧ W4.cell? ⟨w.heap.size + 1 + 1, 1, none⟩ = some (.int .u64 0) ∧ W4.cell? ⟨w.heap.size + 1 + 1, 2, none⟩ = some (.int .u64 0) ∧ W4.cell? ⟨w.heap.size + 1 + 1, 3, none⟩ = some (.int .u64 0) ∧ W4.cell? ⟨w.heap.size + 1 + 1, 4, none⟩ = some (.int .u64 0) ∧ W4.cell? ⟨w.heap.size + 1 + 1, 5, none⟩ = some (.int .u64 0) ∧ W4.cell? ⟨w.heap.size + 1 + 1, 6, none⟩ = some (.int .u64 0) ∧ W4.cell? ⟨w.heap.size + 1 + 1, 7, none⟩ = some (.int .u64 0) ∧ W4.cell? ⟨w.heap.size + 1 + 1, 8, none⟩ = some (.int .u64 0) ∧ W4.cell? ⟨w.heap.size + 1 + 1, 9, none⟩ = some (.int .u64 0) ∧ W4.cell? ⟨w.heap.size + 1 + 1, 10, none⟩ = some (.int .u64 0) ∧ W4.cell? ⟨w.heap.size + 1 + 1, 11, none⟩ = some (.int .u64 0)) := ⟨hgr.cell_at kr qz.1, hgr.cell_at kr qz.2.1, hgr.cell_at kr qz.2.2.1, hgr.cell_at kr qz.2.2.2.1, hgr.cell_at kr qz.2.2.2.2.1, hgr.cell_at kr qz.2.2.2.2.2.1, hgr.cell_at kr qz.2.2.2.2.2.2.1, hgr.cell_at kr qz.2.2.2.2.2.2.2.1, hgr.cell_at kr qz.2.2.2.2.2.2.2.2.1, hgr.cell_at kr qz.2.2.2.2.2.2.2.2.2.1, hgr.cell_at kr qz.2.2.2.2.2.2.2.2.2.2.1, hgr.cell_at kr qz.2.2.2.2.2.2.2.2.2.2.2⟩
            replace qf : (W4.frozen? ⟨w.heap.size + 1 + 1, 0, none⟩ = false ∧ W4.frozen? ⟨w.heap.size + 1 + 1, 1, none⟩ = false ∧ W4.frozen? ⟨w.heap.size + 1 + 1, 2, none⟩ = false ∧ W4.frozen? ⟨w.heap.size + 1 + 1, 3, none⟩ = false ∧ W4.frozen? ⟨w.heap.size + 1 + 1, 4, none⟩ = false ∧ W4.frozen? ⟨w.heap.size + 1 + 1, 5, none⟩ = false ∧ W4.frozen? ⟨w.heap.size + 1 + 1, 6, none⟩ = false ∧ W4.frozen? ⟨w.heap.size + 1 + 1, 7, none⟩ = false ∧ W4.frozen? ⟨w.heap.size + 1 + 1, 8, none⟩ = false ∧ W4.frozen? ⟨w.heap.size + 1 + 1, 9, none⟩ = false ∧ W4.frozen? ⟨w.heap.size + 1 + 1, 10, none⟩ = false ∧ W4.frozen? ⟨w.heap.size + 1 + 1, 11, none⟩ = false) := ⟨hgr.frozen_at kr qf.1, hgr.frozen_at kr qf.2.1, hgr.frozen_at kr qf.2.2.1, hgr.frozen_at kr qf.2.2.2.1, hgr.frozen_at kr qf.2.2.2.2.1, hgr.frozen_at kr qf.2.2.2.2.2.1, hgr.frozen_at kr qf.2.2.2.2.2.2.1, hgr.frozen_at kr qf.2.2.2.2.2.2.2.1, hgr.frozen_at kr qf.2.2.2.2.2.2.2.2.1, hgr.frozen_at kr qf.2.2.2.2.2.2.2.2.2.1, hgr.frozen_at kr qf.2.2.2.2.2.2.2.2.2.2.1, hgr.frozen_at kr qf.2.2.2.2.2.2.2.2.2.2.2⟩
            replace q11 : (W4.cell? ⟨g11, 0, none⟩ = some (.int .u64 (wd0 W)) ∧ W4.cell? ⟨g11, 1, none⟩ = some (.int .u64 (wd1 W)) ∧ W4.cell? ⟨g11, 2, none⟩ = some (.int .u64 (wd2 W)) ∧ W4.cell? ⟨g11, 3, none⟩ = some (.int .u64 (wd3 W))) := ⟨hgr.cell_at k11 q11.1, hgr.cell_at k11 q11.2.1, hgr.cell_at k11 q11.2.2.1, hgr.cell_at k11 q11.2.2.2⟩
            replace q12 : (W4.cell? ⟨g12, 0, none⟩ = some (.int .u64 (wd0 R)) ∧ W4.cell? ⟨g12, 1, none⟩ = some (.int .u64 (wd1 R)) ∧ W4.cell? ⟨g12, 2, none⟩ = some (.int .u64 (wd2 R)) ∧ W4.cell? ⟨g12, 3, none⟩ = some (.int .u64 (wd3 R))) := ⟨hgr.cell_at k12 q12.1, hgr.cell_at k12 q12.2.1, hgr.cell_at k12 q12.2.2.1, hgr.cell_at k12 q12.2.2.2⟩
            replace f11 : (W4.frozen? ⟨g11, 0, none⟩ = false ∧ W4.frozen? ⟨g11, 1, none⟩ = false ∧ W4.frozen? ⟨g11, 2, none⟩ = false ∧ W4.frozen? ⟨g11, 3, none⟩ = false) := ⟨hgr.frozen_at k11 f11.1, hgr.frozen_at k11 f11.2.1, hgr.frozen_at k11 f11.2.2.1, hgr.frozen_at k11 f11.2.2.2⟩
            replace f12 : (W4.frozen? ⟨g12, 0, none⟩ = false ∧ W4.frozen? ⟨g12, 1, none⟩ = false ∧ W4.frozen? ⟨g12, 2, none⟩ = false ∧ W4.frozen? ⟨g12, 3, none⟩ = false) := ⟨hgr.frozen_at k12 f12.1, hgr.frozen_at k12 f12.2.1, hgr.frozen_at k12 f12.2.2.1, hgr.frozen_at k12 f12.2.2.2⟩
            replace HB : Hid (Below w.heap.size w W4) := HB.out.trans (hgr.below.mono (by omega))
            have hsz := hgr.size
            replace k5 : g5 < W4.heap.size := by omega
            replace k9 : g9 < W4.heap.size := by omega
            replace k11 : g11 < W4.heap.size := by omega
            replace k12 : g12 < W4.heap.size := by omega
            replace kr : w.heap.size + 1 + 1 < W4.heap.size := by omega
            clear hgr hsz
            clear f11 f12
            have hSO : ∀ w', IsGr W4 w' → (w'.cell? ⟨g5, 0, none⟩ = some (.int .i64 l1) ∧ w'.cell? ⟨g5, 1, none⟩ = some (.int .i64 l2)) ∧ (w'.cell? ⟨g9, 0, none⟩ = some (.int .u64 (wd0 V1)) ∧ w'.cell? ⟨g9, 1, none⟩ = some (.int .u64 (wd1 V1)) ∧ w'.cell? ⟨g9, 2, none⟩ = some (.int .u64 (wd2 V1)) ∧ w'.cell? ⟨g9, 3, none⟩ = some (.int .u64 (wd3 V1)) ∧ w'.cell? ⟨g9, 4, none⟩ = some (.int .u64 (wd0 V2)) ∧ w'.cell? ⟨g9, 5, none⟩ = some (.int .u64 (wd1 V2)) ∧ w'.cell? ⟨g9, 6, none⟩ = some (.int .u64 (wd2 V2)) ∧ w'.cell? ⟨g9, 7, none⟩ = some (.int .u64 (wd3 V2))) ∧ (w'.cell? ⟨g11, 0, none⟩ = some (.int .u64 (wd0 W)) ∧ w'.cell? ⟨g11, 1, none⟩ = some (.int .u64 (wd1 W)) ∧ w'.cell? ⟨g11, 2, none⟩ = some (.int .u64 (wd2 W)) ∧ w'.cell? ⟨g11, 3, none⟩ = some (.int .u64 (wd3 W))) ∧ (w'.cell? ⟨g12, 0, none⟩ = some (.int .u64 (wd0 R)) ∧ w'.cell? ⟨g12, 1, none⟩ = some (.int .u64 (wd1 R)) ∧ w'.cell? ⟨g12, 2, none⟩ = some (.int .u64 (wd2 R)) ∧ w'.cell? ⟨g12, 3, none⟩ = some (.int .u64 (wd3 R))) := fun w' hg => ⟨⟨hg.cell_at (by omega) q5.1, hg.cell_at (by omega) q5.2⟩, ⟨hg.cell_at (by omega) q9.1, hg.cell_at (by omega) q9.2.1, hg.cell_at (by omega) q9.2.2.1, hg.cell_at (by omega) q9.2.2.2.1, hg.cell_at (by omega) q9.2.2.2.2.1, hg.cell_at (by omega) q9.2.2.2.2.2.1, hg.cell_at (by omega) q9.2.2.2.2.2.2.1, hg.cell_at (by omega) q9.2.2.2.2.2.2.2⟩, ⟨hg.cell_at (by omega) q11.1, hg.cell_at (by omega) q11.2.1, hg.cell_at (by omega) q11.2.2.1, hg.cell_at (by omega) q11.2.2.2⟩, ⟨hg.cell_at (by omega) q12.1, hg.cell_at (by omega) q12.2.1, hg.cell_at (by omega) q12.2.2.1, hg.cell_at (by omega) q12.2.2.2⟩⟩
            clear q5 q9 q11 q12
            obtain ⟨z0, z1, z2, z3, z4, z5, z6, z7, z8, z9, z10, z11⟩ := qz
            obtain ⟨f0, f1, f2, f3, f4, f5, f6, f7, f8, f9, f10, f11⟩ := qf
            have hbe := HB.out
            have kq : w.heap.size ≤ w.heap.size + 1 + 1 := by omega
            go_upto_region 7 with fail
            refine wp_region_but (S := (fun w' => (w'.cell? ⟨g5, 0, none⟩ = some (.int .i64 l1) ∧ w'.cell? ⟨g5, 1, none⟩ = some (.int .i64 l2)) ∧ (w'.cell? ⟨g9, 0, none⟩ = some (.int .u64 (wd0 V1)) ∧ w'.cell? ⟨g9, 1, none⟩ = some (.int .u64 (wd1 V1)) ∧ w'.cell? ⟨g9, 2, none⟩ = some (.int .u64 (wd2 V1)) ∧ w'.cell? ⟨g9, 3, none⟩ = some (.int .u64 (wd3 V1)) ∧ w'.cell? ⟨g9, 4, none⟩ = some (.int .u64 (wd0 V2)) ∧ w'.cell? ⟨g9, 5, none⟩ = some (.int .u64 (wd1 V2)) ∧ w'.cell? ⟨g9, 6, none⟩ = some (.int .u64 (wd2 V2)) ∧ w'.cell? ⟨g9, 7, none⟩ = some (.int .u64 (wd3 V2))) ∧ (w'.cell? ⟨g11, 0, none⟩ = some (.int .u64 (wd0 W)) ∧ w'.cell? ⟨g11, 1, none⟩ = some (.int .u64 (wd1 W)) ∧ w'.cell? ⟨g11, 2, none⟩ = some (.int .u64 (wd2 W)) ∧ w'.cell? ⟨g11, 3, none⟩ = some (.int .u64 (wd3 W))) ∧ (w'.cell? ⟨g12, 0, none⟩ = some (.int .u64 (wd0 R)) ∧ w'.cell? ⟨g12, 1, none⟩ = some (.int .u64 (wd1 R)) ∧ w'.cell? ⟨g12, 2, none⟩ = some (.int .u64 (wd2 R)) ∧ w'.cell? ⟨g12, 3, none⟩ = some (.int .u64 (wd3 R))))) (k := 22) (n := 22) (by kernel_rfl) (by kernel_rfl) (by (try dsimp only); exact hSO _ (by with_reducible repeat (first | exact IsGr.refl _ | refine IsGr.gr ?_ _ _ | refine IsGr.alloc ?_ _ | refine IsGr.drew ?_ | refine IsGr.drewN ?_ _))) (fun hHeld => ?_)
            refine wpAnyH_take (i := 0) (oi := { dst := some 42, op := Op.fieldAddr 24 (Operand.tmp 5) 0, type := 0, pos := "cross.go:130", after := #[], guard := none }) (v := ?_) rfl (by kernel_rfl) (by kernel_rfl) (by kernel_rfl) (fun _ _ _ h => h) (Or.inl ⟨by rfl, ?_⟩) (by assumption) ?_
            rotate_left
            · (intro w hSw; (try dsimp only at hSw); go_simp <;> with_reducible rfl)
            (try simp only [Act.put, qA, qB, qC])
            refine wpAnyH_take (i := 1) (oi := { dst := some 43, op := Op.load 3 (Operand.tmp 42), type := 3, pos := "cross.go:130", after := #[{ on := 0, ground := Ground.data }], guard := none }) (v := ?_) rfl (by kernel_rfl) (by kernel_rfl) (by kernel_rfl) (fun _ _ _ h => h) (Or.inl ⟨by rfl, ?_⟩) (by assumption) ?_
            rotate_left
            · (intro w hSw; (try dsimp only at hSw); go_simp <;> with_reducible rfl)
            (try simp only [Act.put, qA, qB, qC])
            refine wpAnyH_take (i := 3) (oi := { dst := some 45, op := Op.load 44 (Operand.tmp 11), type := 44, pos := "cross.go:130", after := #[], guard := none }) (v := ?_) rfl (by kernel_rfl) (by kernel_rfl) (by kernel_rfl) (fun _ _ _ h => h) (Or.inl ⟨by rfl, ?_⟩) (by assumption) ?_
            rotate_left
            · (intro w hSw; (try dsimp only at hSw); go_simp <;> with_reducible rfl)
            (try simp only [Act.put, qA, qB, qC])
            refine wpAnyH_take (i := 5) (oi := { dst := some 47, op := Op.fieldAddr 98 (Operand.tmp 9) 0, type := 0, pos := "cross.go:130", after := #[], guard := none }) (v := ?_) rfl (by kernel_rfl) (by kernel_rfl) (by kernel_rfl) (fun _ _ _ h => h) (Or.inl ⟨by rfl, ?_⟩) (by assumption) ?_
            rotate_left
            · (intro w hSw; (try dsimp only at hSw); go_simp <;> with_reducible rfl)
            (try simp only [Act.put, qA, qB, qC])
            refine wpAnyH_take (i := 6) (oi := { dst := some 48, op := Op.load 44 (Operand.tmp 47), type := 44, pos := "cross.go:130", after := #[{ on := 5, ground := Ground.data }], guard := none }) (v := ?_) rfl (by kernel_rfl) (by kernel_rfl) (by kernel_rfl) (fun _ _ _ h => h) (Or.inl ⟨by rfl, ?_⟩) (by assumption) ?_
            rotate_left
            · (intro w hSw; (try dsimp only at hSw); go_simp <;> with_reducible rfl)
            (try simp only [Act.put, qA, qB, qC])
            refine wpAnyH_take (i := 7) (oi := { dst := some 49, op := Op.load 44 (Operand.tmp 12), type := 44, pos := "cross.go:130", after := #[], guard := none }) (v := ?_) rfl (by kernel_rfl) (by kernel_rfl) (by kernel_rfl) (fun _ _ _ h => h) (Or.inl ⟨by rfl, ?_⟩) (by assumption) ?_
            rotate_left
            · (intro w hSw; (try dsimp only at hSw); go_simp <;> with_reducible rfl)
            (try simp only [Act.put, qA, qB, qC])
            refine wpAnyH_take (i := 10) (oi := { dst := some 52, op := Op.fieldAddr 24 (Operand.tmp 5) 1, type := 0, pos := "cross.go:130", after := #[], guard := none }) (v := ?_) rfl (by kernel_rfl) (by kernel_rfl) (by kernel_rfl) (fun _ _ _ h => h) (Or.inl ⟨by rfl, ?_⟩) (by assumption) ?_
            rotate_left
            · (intro w hSw; (try dsimp only at hSw); go_simp <;> with_reducible rfl)
            (try simp only [Act.put, qA, qB, qC])
            refine wpAnyH_take (i := 11) (oi := { dst := some 53, op := Op.load 3 (Operand.tmp 52), type := 3, pos := "cross.go:130", after := #[{ on := 10, ground := Ground.data }], guard := none }) (v := ?_) rfl (by kernel_rfl) (by kernel_rfl) (by kernel_rfl) (fun _ _ _ h => h) (Or.inl ⟨by rfl, ?_⟩) (by assumption) ?_
            rotate_left
            · (intro w hSw; (try dsimp only at hSw); go_simp <;> with_reducible rfl)
            (try simp only [Act.put, qA, qB, qC])
            refine wpAnyH_take (i := 13) (oi := { dst := some 55, op := Op.load 44 (Operand.tmp 11), type := 44, pos := "cross.go:130", after := #[], guard := none }) (v := ?_) rfl (by kernel_rfl) (by kernel_rfl) (by kernel_rfl) (fun _ _ _ h => h) (Or.inl ⟨by rfl, ?_⟩) (by assumption) ?_
            rotate_left
            · (intro w hSw; (try dsimp only at hSw); go_simp <;> with_reducible rfl)
            (try simp only [Act.put, qA, qB, qC])
            refine wpAnyH_take (i := 15) (oi := { dst := some 57, op := Op.fieldAddr 98 (Operand.tmp 9) 1, type := 0, pos := "cross.go:130", after := #[], guard := none }) (v := ?_) rfl (by kernel_rfl) (by kernel_rfl) (by kernel_rfl) (fun _ _ _ h => h) (Or.inl ⟨by rfl, ?_⟩) (by assumption) ?_
            rotate_left
            · (intro w hSw; (try dsimp only at hSw); go_simp <;> with_reducible rfl)
            (try simp only [Act.put, qA, qB, qC])
            refine wpAnyH_take (i := 16) (oi := { dst := some 58, op := Op.load 44 (Operand.tmp 57), type := 44, pos := "cross.go:130", after := #[{ on := 15, ground := Ground.data }], guard := none }) (v := ?_) rfl (by kernel_rfl) (by kernel_rfl) (by kernel_rfl) (fun _ _ _ h => h) (Or.inl ⟨by rfl, ?_⟩) (by assumption) ?_
            rotate_left
            · (intro w hSw; (try dsimp only at hSw); go_simp <;> with_reducible rfl)
            (try simp only [Act.put, qA, qB, qC])
            refine wpAnyH_take (i := 17) (oi := { dst := some 59, op := Op.load 44 (Operand.tmp 12), type := 44, pos := "cross.go:130", after := #[], guard := none }) (v := ?_) rfl (by kernel_rfl) (by kernel_rfl) (by kernel_rfl) (fun _ _ _ h => h) (Or.inl ⟨by rfl, ?_⟩) (by assumption) ?_
            rotate_left
            · (intro w hSw; (try dsimp only at hSw); go_simp <;> with_reducible rfl)
            (try simp only [Act.put, qA, qB, qC])
            refine wpAnyH_take (i := 20) (oi := { dst := some 62, op := Op.load 44 (Operand.tmp 11), type := 44, pos := "cross.go:130", after := #[], guard := none }) (v := ?_) rfl (by kernel_rfl) (by kernel_rfl) (by kernel_rfl) (fun _ _ _ h => h) (Or.inl ⟨by rfl, ?_⟩) (by assumption) ?_
            rotate_left
            · (intro w hSw; (try dsimp only at hSw); go_simp <;> with_reducible rfl)
            (try simp only [Act.put, qA, qB, qC])
            refine wpAnyH_ready (rs := [2]) (by kernel_rfl) (by simp) ?_
            refine AllReadyH.cons (o := { dst := some 44, op := Op.call { callee := Callee.value (Operand.func 38), args := #[Operand.tmp 43], argTypes := #[3] }, type := 44, pos := "cross.go:131", after := #[{ on := 1, ground := Ground.data }], guard := none }) rfl (fun K hK => ?_) ?_
            · go_simp
              refine (O1 _).mono ?_
              rintro e w1 ⟨rfl, os1, dr1, rfl⟩
              (try go_wp2_with fail)
              refine hK.out _ _ (by (try dsimp only); exact hSO _ (by with_reducible repeat (first | exact IsGr.refl _ | refine IsGr.gr ?_ _ _ | refine IsGr.alloc ?_ _ | refine IsGr.drew ?_ | refine IsGr.drewN ?_ _))) (fun hHeld2 => ?_)
              clear hK K hHeld
              have hHeld := hHeld2
              clear hHeld2
              (try simp only [Act.put, qA, qB, qC])
              refine wpAnyH_ready (rs := [4]) (by kernel_rfl) (by simp) ?_
              refine AllReadyH.cons (o := { dst := some 46, op := Op.call { callee := Callee.value (Operand.func 70), args := #[Operand.tmp 44, Operand.tmp 45], argTypes := #[44, 44] }, type := 44, pos := "cross.go:131", after := #[{ on := 2, ground := Ground.data }, { on := 3, ground := Ground.data }, { on := 2, ground := Ground.chain }], guard := none }) rfl (fun K hK => ?_) ?_
              · go_simp
                refine (P1 _).mono ?_
                rintro e w1 ⟨rfl, os2, dr2, rfl⟩
                (try go_wp2_with fail)
                refine hK.out _ _ (by (try dsimp only); exact hSO _ (by with_reducible repeat (first | exact IsGr.refl _ | refine IsGr.gr ?_ _ _ | refine IsGr.alloc ?_ _ | refine IsGr.drew ?_ | refine IsGr.drewN ?_ _))) (fun hHeld2 => ?_)
                clear hK K hHeld
                have hHeld := hHeld2
                clear hHeld2
                (try simp only [Act.put, qA, qB, qC])
                refine wpAnyH_ready (rs := [8]) (by kernel_rfl) (by simp) ?_
                refine AllReadyH.cons (o := { dst := some 50, op := Op.call { callee := Callee.value (Operand.func 70), args := #[Operand.tmp 48, Operand.tmp 49], argTypes := #[44, 44] }, type := 44, pos := "cross.go:131", after := #[{ on := 6, ground := Ground.data }, { on := 7, ground := Ground.data }, { on := 4, ground := Ground.chain }], guard := none }) rfl (fun K hK => ?_) ?_
                · go_simp
                  refine (P2 _).mono ?_
                  rintro e w1 ⟨rfl, os3, dr3, rfl⟩
                  (try go_wp2_with fail)
                  refine hK.out _ _ (by (try dsimp only); exact hSO _ (by with_reducible repeat (first | exact IsGr.refl _ | refine IsGr.gr ?_ _ _ | refine IsGr.alloc ?_ _ | refine IsGr.drew ?_ | refine IsGr.drewN ?_ _))) (fun hHeld2 => ?_)
                  clear hK K hHeld
                  have hHeld := hHeld2
                  clear hHeld2
                  (try simp only [Act.put, qA, qB, qC])
                  refine wpAnyH_ready (rs := [9]) (by kernel_rfl) (by simp) ?_
                  refine AllReadyH.cons (o := { dst := some 51, op := Op.call { callee := Callee.value (Operand.func 92), args := #[Operand.tmp 46, Operand.tmp 50], argTypes := #[44, 44] }, type := 44, pos := "cross.go:131", after := #[{ on := 4, ground := Ground.data }, { on := 8, ground := Ground.data }, { on := 8, ground := Ground.chain }], guard := none }) rfl (fun K hK => ?_) ?_
                  · go_simp
                    refine (A1 _).mono ?_
                    rintro e w1 ⟨rfl, os4, dr4, rfl⟩
                    (try go_wp2_with fail)
                    refine hK.out _ _ (by (try dsimp only); exact hSO _ (by with_reducible repeat (first | exact IsGr.refl _ | refine IsGr.gr ?_ _ _ | refine IsGr.alloc ?_ _ | refine IsGr.drew ?_ | refine IsGr.drewN ?_ _))) (fun hHeld2 => ?_)
                    clear hK K hHeld
                    have hHeld := hHeld2
                    clear hHeld2
                    (try simp only [Act.put, qA, qB, qC])
                    refine wpAnyH_ready (rs := [12]) (by kernel_rfl) (by simp) ?_
                    refine AllReadyH.cons (o := { dst := some 54, op := Op.call { callee := Callee.value (Operand.func 38), args := #[Operand.tmp 53], argTypes := #[3] }, type := 44, pos := "cross.go:132", after := #[{ on := 11, ground := Ground.data }, { on := 9, ground := Ground.chain }], guard := none }) rfl (fun K hK => ?_) ?_
                    · go_simp
                      refine (O2 _).mono ?_
                      rintro e w1 ⟨rfl, os5, dr5, rfl⟩
                      (try go_wp2_with fail)
                      refine hK.out _ _ (by (try dsimp only); exact hSO _ (by with_reducible repeat (first | exact IsGr.refl _ | refine IsGr.gr ?_ _ _ | refine IsGr.alloc ?_ _ | refine IsGr.drew ?_ | refine IsGr.drewN ?_ _))) (fun hHeld2 => ?_)
                      clear hK K hHeld
                      have hHeld := hHeld2
                      clear hHeld2
                      (try simp only [Act.put, qA, qB, qC])
                      refine wpAnyH_ready (rs := [14]) (by kernel_rfl) (by simp) ?_
                      refine AllReadyH.cons (o := { dst := some 56, op := Op.call { callee := Callee.value (Operand.func 70), args := #[Operand.tmp 54, Operand.tmp 55], argTypes := #[44, 44] }, type := 44, pos := "cross.go:132", after := #[{ on := 12, ground := Ground.data }, { on := 13, ground := Ground.data }, { on := 12, ground := Ground.chain }], guard := none }) rfl (fun K hK => ?_) ?_
                      · go_simp
                        refine (P3 _).mono ?_
                        rintro e w1 ⟨rfl, os6, dr6, rfl⟩
                        (try go_wp2_with fail)
                        refine hK.out _ _ (by (try dsimp only); exact hSO _ (by with_reducible repeat (first | exact IsGr.refl _ | refine IsGr.gr ?_ _ _ | refine IsGr.alloc ?_ _ | refine IsGr.drew ?_ | refine IsGr.drewN ?_ _))) (fun hHeld2 => ?_)
                        clear hK K hHeld
                        have hHeld := hHeld2
                        clear hHeld2
                        (try simp only [Act.put, qA, qB, qC])
                        refine wpAnyH_ready (rs := [18]) (by kernel_rfl) (by simp) ?_
                        refine AllReadyH.cons (o := { dst := some 60, op := Op.call { callee := Callee.value (Operand.func 70), args := #[Operand.tmp 58, Operand.tmp 59], argTypes := #[44, 44] }, type := 44, pos := "cross.go:132", after := #[{ on := 16, ground := Ground.data }, { on := 17, ground := Ground.data }, { on := 14, ground := Ground.chain }], guard := none }) rfl (fun K hK => ?_) ?_
                        · go_simp
                          refine (P4 _).mono ?_
                          rintro e w1 ⟨rfl, os7, dr7, rfl⟩
                          (try go_wp2_with fail)
                          refine hK.out _ _ (by (try dsimp only); exact hSO _ (by with_reducible repeat (first | exact IsGr.refl _ | refine IsGr.gr ?_ _ _ | refine IsGr.alloc ?_ _ | refine IsGr.drew ?_ | refine IsGr.drewN ?_ _))) (fun hHeld2 => ?_)
                          clear hK K hHeld
                          have hHeld := hHeld2
                          clear hHeld2
                          (try simp only [Act.put, qA, qB, qC])
                          refine wpAnyH_ready (rs := [19]) (by kernel_rfl) (by simp) ?_
                          refine AllReadyH.cons (o := { dst := some 61, op := Op.call { callee := Callee.value (Operand.func 92), args := #[Operand.tmp 56, Operand.tmp 60], argTypes := #[44, 44] }, type := 44, pos := "cross.go:132", after := #[{ on := 14, ground := Ground.data }, { on := 18, ground := Ground.data }, { on := 18, ground := Ground.chain }], guard := none }) rfl (fun K hK => ?_) ?_
                          · go_simp
                            refine (A2 _).mono ?_
                            rintro e w1 ⟨rfl, os8, dr8, rfl⟩
                            (try go_wp2_with fail)
                            refine hK.out _ _ (by (try dsimp only); exact hSO _ (by with_reducible repeat (first | exact IsGr.refl _ | refine IsGr.gr ?_ _ _ | refine IsGr.alloc ?_ _ | refine IsGr.drew ?_ | refine IsGr.drewN ?_ _))) (fun hHeld2 => ?_)
                            clear hK K hHeld
                            have hHeld := hHeld2
                            clear hHeld2
                            (try simp only [Act.put, qA, qB, qC])
                            refine wpAnyH_take (i := 21) (oi := { dst := some 63, op := Op.build 46 #[(0, Operand.tmp 51), (1, Operand.tmp 61), (2, Operand.tmp 62)], type := 46, pos := "cross.go:130", after := #[{ on := 9, ground := Ground.data }, { on := 19, ground := Ground.data }, { on := 20, ground := Ground.data }], guard := none }) (v := ?_) rfl (by kernel_rfl) (by kernel_rfl) (by kernel_rfl) (fun _ _ _ h => h) (Or.inl ⟨by rfl, ?_⟩) (by assumption) ?_
                            rotate_left
                            · (intro w hSw; (try dsimp only at hSw); go_simp <;> with_reducible rfl)
                            (try simp only [Act.put, qA, qB, qC])
                            refine wpAnyH_done (by kernel_rfl) ?_ _
                            refine butLast_step (o := { dst := none, op := Op.store 46 (Operand.tmp 4) (Operand.tmp 63), type := 0, pos := "cross.go:130", after := #[{ on := 21, ground := Ground.data }, { on := 19, ground := Ground.chain }, { on := 0, ground := Ground.phase }, { on := 1, ground := Ground.phase }, { on := 2, ground := Ground.phase }, { on := 3, ground := Ground.phase }, { on := 4, ground := Ground.phase }, { on := 5, ground := Ground.phase }, { on := 6, ground := Ground.phase }, { on := 7, ground := Ground.phase }, { on := 8, ground := Ground.phase }, { on := 9, ground := Ground.phase }, { on := 10, ground := Ground.phase }, { on := 11, ground := Ground.phase }, { on := 12, ground := Ground.phase }, { on := 13, ground := Ground.phase }, { on := 14, ground := Ground.phase }, { on := 15, ground := Ground.phase }, { on := 16, ground := Ground.phase }, { on := 17, ground := Ground.phase }, { on := 18, ground := Ground.phase }, { on := 19, ground := Ground.phase }, { on := 20, ground := Ground.phase }, { on := 21, ground := Ground.phase }], guard := none }) rfl (fun K hK => ?_)
                            go_simp
                            refine hK.out _ _ ?_
                            clear hK K
                            (try simp only [Act.put, qA, qB, qC])
                            go_wp2
                            refine bodyPost_ret (v := .agg #[.int .u64 (wd0 X), .int .u64 (wd1 X), .int .u64 (wd2 X), .int .u64 (wd3 X), .int .u64 (wd0 Y), .int .u64 (wd1 Y), .int .u64 (wd2 Y), .int .u64 (wd3 Y), .int .u64 (wd0 W), .int .u64 (wd1 W), .int .u64 (wd2 W), .int .u64 (wd3 W)]) (by simp [results, Try.results63, go_sem, kr, z0, z1, z2, z3, z4, z5, z6, z7, z8, z9, z10, z11]) rfl ⟨rfl, IsGr.of_below (Below.gro (Below.setCell (Below.setCell (Below.setCell (Below.setCell (Below.setCell (Below.setCell (Below.setCell (Below.setCell (Below.setCell (Below.setCell (Below.setCell (Below.setCell hbe kq _) kq _) kq _) kq _) kq _) kq _) kq _) kq _) kq _) kq _) kq _) kq _) (by simp; omega) _ _)⟩
                          exact AllReadyH.nil
                        exact AllReadyH.nil
                      exact AllReadyH.nil
                    exact AllReadyH.nil
                  exact AllReadyH.nil
                exact AllReadyH.nil
              exact AllReadyH.nil
            exact AllReadyH.nil

end Go.Proofs.Ytohhlhoijanjfaa
namespace Go.Proofs.Ytohhlhoijanjfaa
open Go.RowKit Go.Shelf
attribute [local go_sem] Gr.size Gr.cell? Gr.frozen? Gr.setCell Gr.drew Gr.drewN Gr.of_drew Gr.of_drewN Gr.gr Gr.lt_of1 Gr.le_of1 Gr.lt_of2 Gr.le_of2 Gr.lt_of3 Gr.le_of3 Gr.lt_of4 Gr.le_of4 Gr.lt_of5 Gr.le_of5 Gr.lt_of6 Gr.le_of6 Gr.lt_of7 Gr.le_of7 Gr.lt_of8 Gr.le_of8 Gr.lt_of9 Gr.le_of9 Gr.lt_of10 Gr.le_of10 Gr.lt_of11 Gr.le_of11 Gr.lt_of12 Gr.le_of12 Gr.lt_of13 Gr.le_of13 Gr.lt_of14 Gr.le_of14 Gr.lt_of15 Gr.le_of15 Gr.lt_of16 Gr.le_of16 Gr.lt_of17 Gr.le_of17 Gr.lt_of18 Gr.le_of18 Gr.lt_of19 Gr.le_of19 Gr.lt_of20 Gr.le_of20 Gr.lt_of21 Gr.le_of21 Gr.lt_of22 Gr.le_of22 Gr.lt_of23 Gr.le_of23 Gr.lt_of24 Gr.le_of24

/-- What two right segments meet in. -/
def MeetT (a1 a2 b1 b2 c1 c2 d1 d2 l1 l2 h1 h2 m1 m2 k1 k2 p1 p2 q1 q2 W R K : Int) (V : Value) : Prop :=
  ((a1 = b1 ∧ a2 = b2) ∧ ((onP c1 c2 d1 d2 a1 a2 = false ∧ K = 0 ∧ V = .agg #[.int .u64 0, .int .u64 0, .int .u64 0, .int .u64 0, .int .u64 0, .int .u64 0, .int .u64 0, .int .u64 0, .int .u64 0, .int .u64 0, .int .u64 0, .int .u64 0]) ∨ (onP c1 c2 d1 d2 a1 a2 = true ∧ K = 1 ∧ V = .agg #[.int .u64 (wd0 a1), .int .u64 (wd1 a1), .int .u64 (wd2 a1), .int .u64 (wd3 a1), .int .u64 (wd0 a2), .int .u64 (wd1 a2), .int .u64 (wd2 a2), .int .u64 (wd3 a2), .int .u64 (wd0 1), .int .u64 (wd1 1), .int .u64 (wd2 1), .int .u64 (wd3 1)]))) ∨
  (¬ (a1 = b1 ∧ a2 = b2) ∧ (c1 = d1 ∧ c2 = d2) ∧ ((onP a1 a2 b1 b2 c1 c2 = false ∧ K = 0 ∧ V = .agg #[.int .u64 0, .int .u64 0, .int .u64 0, .int .u64 0, .int .u64 0, .int .u64 0, .int .u64 0, .int .u64 0, .int .u64 0, .int .u64 0, .int .u64 0, .int .u64 0]) ∨ (onP a1 a2 b1 b2 c1 c2 = true ∧ K = 1 ∧ V = .agg #[.int .u64 (wd0 c1), .int .u64 (wd1 c1), .int .u64 (wd2 c1), .int .u64 (wd3 c1), .int .u64 (wd0 c2), .int .u64 (wd1 c2), .int .u64 (wd2 c2), .int .u64 (wd3 c2), .int .u64 (wd0 1), .int .u64 (wd1 1), .int .u64 (wd2 1), .int .u64 (wd3 1)]))) ∨
  (¬ (a1 = b1 ∧ a2 = b2) ∧ ¬ (c1 = d1 ∧ c2 = d2) ∧ slopeS l1 l2 h1 h2 m1 m2 k1 k2 = 0 ∧ AlongT (onP a1 a2 b1 b2 p1 p2) (onP c1 c2 d1 d2 p1 p2) p1 p2 q1 q2 K V) ∨
  (¬ (a1 = b1 ∧ a2 = b2) ∧ ¬ (c1 = d1 ∧ c2 = d2) ∧ slopeS l1 l2 h1 h2 m1 m2 k1 k2 ≠ 0 ∧ (partsP a1 a2 b1 b2 c1 c2 d1 d2 && partsP c1 c2 d1 d2 a1 a2 b1 b2) = true ∧ K = 1 ∧ V = .agg #[.int .u64 (wd0 (l1 * W + (h1 - l1) * R)), .int .u64 (wd1 (l1 * W + (h1 - l1) * R)), .int .u64 (wd2 (l1 * W + (h1 - l1) * R)), .int .u64 (wd3 (l1 * W + (h1 - l1) * R)), .int .u64 (wd0 (l2 * W + (h2 - l2) * R)), .int .u64 (wd1 (l2 * W + (h2 - l2) * R)), .int .u64 (wd2 (l2 * W + (h2 - l2) * R)), .int .u64 (wd3 (l2 * W + (h2 - l2) * R)), .int .u64 (wd0 W), .int .u64 (wd1 W), .int .u64 (wd2 W), .int .u64 (wd3 W)]) ∨
  (¬ (a1 = b1 ∧ a2 = b2) ∧ ¬ (c1 = d1 ∧ c2 = d2) ∧ slopeS l1 l2 h1 h2 m1 m2 k1 k2 ≠ 0 ∧ (partsP a1 a2 b1 b2 c1 c2 d1 d2 && partsP c1 c2 d1 d2 a1 a2 b1 b2) = false ∧ K = 0 ∧ V = .agg #[.int .u64 0, .int .u64 0, .int .u64 0, .int .u64 0, .int .u64 0, .int .u64 0, .int .u64 0, .int .u64 0, .int .u64 0, .int .u64 0, .int .u64 0, .int .u64 0])


set_option maxRecDepth 20000 in set_option maxHeartbeats 4000000 in
theorem Meet_no (a1 a2 b1 b2 c1 c2 d1 d2 : Int) (h : (segR a1 a2 b1 b2 && segR c1 c2 d1 d2) = false) (w : World) :
    Calls Try.prog 19 #[.agg #[.int .i64 a1, .int .i64 a2, .int .i64 b1, .int .i64 b2], .agg #[.int .i64 c1, .int .i64 c2, .int .i64 d1, .int .i64 d2]] w fun e w' => e = .returned (.tuple #[.int .i64 0, .agg #[.int .u64 0, .int .u64 0, .int .u64 0, .int .u64 0, .int .u64 0, .int .u64 0, .int .u64 0, .int .u64 0, .int .u64 0, .int .u64 0, .int .u64 0, .int .u64 0]]) ∧ IsGr w w' := by
  have C1 := fun w => SRight_any a1 a2 b1 b2 w
  have C2 := fun w => SRight_any c1 c2 d1 d2 w
  generalize segR a1 a2 b1 b2 = X at *
  generalize segR c1 c2 d1 d2 = Y at *
  cases X
  · clear h
    go_enter Try.func19, Try.ntmps19
    go_wp2_with fail
    refine (C1 _).mono ?_
    rintro e w1 ⟨rfl, os1, dr1, rfl⟩
    go_wp2
    exact bodyPost_ret (v := .tuple #[.int .i64 0, .agg #[.int .u64 0, .int .u64 0, .int .u64 0, .int .u64 0, .int .u64 0, .int .u64 0, .int .u64 0, .int .u64 0, .int .u64 0, .int .u64 0, .int .u64 0, .int .u64 0]]) (by simp [results, Try.results19, go_sem]) rfl ⟨rfl, (by with_reducible repeat (first | exact IsGr.refl _ | refine IsGr.gr ?_ _ _ | refine IsGr.alloc ?_ _ | refine IsGr.drew ?_ | refine IsGr.drewN ?_ _))⟩
  · obtain rfl : Y = false := by simpa using h
    clear h
    go_enter Try.func19, Try.ntmps19
    go_wp2_with fail
    refine (C1 _).mono ?_
    rintro e w1 ⟨rfl, os1, dr1, rfl⟩
    go_wp2_with fail
    refine (C2 _).mono ?_
    rintro e w1 ⟨rfl, os2, dr2, rfl⟩
    go_wp2
    exact bodyPost_ret (v := .tuple #[.int .i64 0, .agg #[.int .u64 0, .int .u64 0, .int .u64 0, .int .u64 0, .int .u64 0, .int .u64 0, .int .u64 0, .int .u64 0, .int .u64 0, .int .u64 0, .int .u64 0, .int .u64 0]]) (by simp [results, Try.results19, go_sem]) rfl ⟨rfl, (by with_reducible repeat (first | exact IsGr.refl _ | refine IsGr.gr ?_ _ _ | refine IsGr.alloc ?_ _ | refine IsGr.drew ?_ | refine IsGr.drewN ?_ _))⟩

set_option maxRecDepth 20000 in set_option maxHeartbeats 4000000 in
theorem Meet_any (a1 a2 b1 b2 c1 c2 d1 d2 l1 l2 h1 h2 m1 m2 k1 k2 p1 p2 q1 q2 W R K : Int) (V : Value) (H : Ends2 a1 a2 b1 b2 l1 l2 h1 h2) (H' : Ends2 c1 c2 d1 d2 m1 m2 k1 k2)
    (HL : Later l1 l2 m1 m2 p1 p2) (HS : Sooner h1 h2 k1 k2 q1 q2) (HW : Signed (wholeI l1 l2 h1 h2 m1 m2 k1 k2) (restI l1 l2 m1 m2 k1 k2) W R)
    (r1 : segR a1 a2 b1 b2 = true) (r2 : segR c1 c2 d1 d2 = true) (HT : MeetT a1 a2 b1 b2 c1 c2 d1 d2 l1 l2 h1 h2 m1 m2 k1 k2 p1 p2 q1 q2 W R K V) (w : World) :
    Calls Try.prog 19 #[.agg #[.int .i64 a1, .int .i64 a2, .int .i64 b1, .int .i64 b2], .agg #[.int .i64 c1, .int .i64 c2, .int .i64 d1, .int .i64 d2]] w fun e w' => e = .returned (.tuple #[.int .i64 K, V]) ∧ IsGr w w' := by
  have C1 := fun w => SRight_any a1 a2 b1 b2 w
  have C2 := fun w => SRight_any c1 c2 d1 d2 w
  have C3 := fun w => single_any a1 a2 b1 b2 w
  have C4 := fun w => single_any c1 c2 d1 d2 w
  have C5 := fun w => Slope_any a1 a2 b1 b2 c1 c2 d1 d2 l1 l2 h1 h2 m1 m2 k1 k2 H H' w
  have P1 := fun w => parts_any a1 a2 b1 b2 c1 c2 d1 d2 w
  have P2 := fun w => parts_any c1 c2 d1 d2 a1 a2 b1 b2 w
  have CX := fun w => crossing_any a1 a2 b1 b2 c1 c2 d1 d2 l1 l2 h1 h2 m1 m2 k1 k2 W R H H' r1 r2 HW w
  rw [r1, r2] at C5
  rw [r1] at C1
  rw [r2] at C2
  simp only [Bool.and_self, if_true] at C5
  rcases HT with ⟨e, HT⟩ | ⟨e, e', HT⟩ | ⟨e, e', g, HT⟩ | ⟨e, e', g, HP, rfl, rfl⟩ | ⟨e, e', g, HP, rfl, rfl⟩
  · rw [show decide (a1 = b1 ∧ a2 = b2) = true by simp [e]] at C3
    clear C4 C5 P1 P2 CX H H' HL HS HW r1 r2 e
    rcases HT with ⟨ho, rfl, rfl⟩ | ⟨ho, rfl, rfl⟩
    · have CM := fun w => meetPoint_no c1 c2 d1 d2 a1 a2 ho w
      clear ho
      go_enter Try.func19, Try.ntmps19
      go_wp2_with fail
      refine (C1 _).mono ?_
      rintro e w1 ⟨rfl, os1, dr1, rfl⟩
      go_wp2_with fail
      refine (C2 _).mono ?_
      rintro e w1 ⟨rfl, os2, dr2, rfl⟩
      go_wp2_with fail
      refine (C3 _).mono ?_
      rintro e w1 ⟨rfl, os3, dr3, rfl⟩
      go_wp2_with fail
      refine (CM _).mono ?_
      rintro e w1 ⟨rfl, os4, dr4, rfl⟩
      go_wp2
      exact bodyPost_ret (v := .tuple #[.int .i64 0, .agg #[.int .u64 0, .int .u64 0, .int .u64 0, .int .u64 0, .int .u64 0, .int .u64 0, .int .u64 0, .int .u64 0, .int .u64 0, .int .u64 0, .int .u64 0, .int .u64 0]]) (by simp [results, Try.results19, go_sem]) rfl ⟨rfl, (by with_reducible repeat (first | exact IsGr.refl _ | refine IsGr.gr ?_ _ _ | refine IsGr.alloc ?_ _ | refine IsGr.drew ?_ | refine IsGr.drewN ?_ _))⟩
    · have CM := fun w => meetPoint_yes c1 c2 d1 d2 a1 a2 ho w
      clear ho
      go_enter Try.func19, Try.ntmps19
      go_wp2_with fail
      refine (C1 _).mono ?_
      rintro e w1 ⟨rfl, os1, dr1, rfl⟩
      go_wp2_with fail
      refine (C2 _).mono ?_
      rintro e w1 ⟨rfl, os2, dr2, rfl⟩
      go_wp2_with fail
      refine (C3 _).mono ?_
      rintro e w1 ⟨rfl, os3, dr3, rfl⟩
      go_wp2_with fail
      refine (CM _).mono ?_
      rintro e w1 ⟨rfl, os4, dr4, rfl⟩
      go_wp2
      exact bodyPost_ret (v := .tuple #[.int .i64 1, .agg #[.int .u64 (wd0 a1), .int .u64 (wd1 a1), .int .u64 (wd2 a1), .int .u64 (wd3 a1), .int .u64 (wd0 a2), .int .u64 (wd1 a2), .int .u64 (wd2 a2), .int .u64 (wd3 a2), .int .u64 (wd0 1), .int .u64 (wd1 1), .int .u64 (wd2 1), .int .u64 (wd3 1)]]) (by simp [results, Try.results19, go_sem]) rfl ⟨rfl, (by with_reducible repeat (first | exact IsGr.refl _ | refine IsGr.gr ?_ _ _ | refine IsGr.alloc ?_ _ | refine IsGr.drew ?_ | refine IsGr.drewN ?_ _))⟩
  · rw [show decide (a1 = b1 ∧ a2 = b2) = false by simp at e ⊢; exact e] at C3
    rw [show decide (c1 = d1 ∧ c2 = d2) = true by simp [e']] at C4
    clear C5 P1 P2 CX H H' HL HS HW r1 r2 e e'
    rcases HT with ⟨ho, rfl, rfl⟩ | ⟨ho, rfl, rfl⟩
    · have CM := fun w => meetPoint_no a1 a2 b1 b2 c1 c2 ho w
      clear ho
      go_enter Try.func19, Try.ntmps19
      go_wp2_with fail
      refine (C1 _).mono ?_
      rintro e w1 ⟨rfl, os1, dr1, rfl⟩
      go_wp2_with fail
      refine (C2 _).mono ?_
      rintro e w1 ⟨rfl, os2, dr2, rfl⟩
      go_wp2_with fail
      refine (C3 _).mono ?_
      rintro e w1 ⟨rfl, os3, dr3, rfl⟩
      go_wp2_with fail
      refine (C4 _).mono ?_
      rintro e w1 ⟨rfl, os4, dr4, rfl⟩
      go_wp2_with fail
      refine (CM _).mono ?_
      rintro e w1 ⟨rfl, os5, dr5, rfl⟩
      go_wp2
      exact bodyPost_ret (v := .tuple #[.int .i64 0, .agg #[.int .u64 0, .int .u64 0, .int .u64 0, .int .u64 0, .int .u64 0, .int .u64 0, .int .u64 0, .int .u64 0, .int .u64 0, .int .u64 0, .int .u64 0, .int .u64 0]]) (by simp [results, Try.results19, go_sem]) rfl ⟨rfl, (by with_reducible repeat (first | exact IsGr.refl _ | refine IsGr.gr ?_ _ _ | refine IsGr.alloc ?_ _ | refine IsGr.drew ?_ | refine IsGr.drewN ?_ _))⟩
    · have CM := fun w => meetPoint_yes a1 a2 b1 b2 c1 c2 ho w
      clear ho
      go_enter Try.func19, Try.ntmps19
      go_wp2_with fail
      refine (C1 _).mono ?_
      rintro e w1 ⟨rfl, os1, dr1, rfl⟩
      go_wp2_with fail
      refine (C2 _).mono ?_
      rintro e w1 ⟨rfl, os2, dr2, rfl⟩
      go_wp2_with fail
      refine (C3 _).mono ?_
      rintro e w1 ⟨rfl, os3, dr3, rfl⟩
      go_wp2_with fail
      refine (C4 _).mono ?_
      rintro e w1 ⟨rfl, os4, dr4, rfl⟩
      go_wp2_with fail
      refine (CM _).mono ?_
      rintro e w1 ⟨rfl, os5, dr5, rfl⟩
      go_wp2
      exact bodyPost_ret (v := .tuple #[.int .i64 1, .agg #[.int .u64 (wd0 c1), .int .u64 (wd1 c1), .int .u64 (wd2 c1), .int .u64 (wd3 c1), .int .u64 (wd0 c2), .int .u64 (wd1 c2), .int .u64 (wd2 c2), .int .u64 (wd3 c2), .int .u64 (wd0 1), .int .u64 (wd1 1), .int .u64 (wd2 1), .int .u64 (wd3 1)]]) (by simp [results, Try.results19, go_sem]) rfl ⟨rfl, (by with_reducible repeat (first | exact IsGr.refl _ | refine IsGr.gr ?_ _ _ | refine IsGr.alloc ?_ _ | refine IsGr.drew ?_ | refine IsGr.drewN ?_ _))⟩
  · rw [show decide (a1 = b1 ∧ a2 = b2) = false by simp at e ⊢; exact e] at C3
    rw [show decide (c1 = d1 ∧ c2 = d2) = false by simp at e' ⊢; exact e'] at C4
    rw [g, cmpI_eq rfl] at C5
    have CM := fun w => meetAlong_any a1 a2 b1 b2 c1 c2 d1 d2 l1 l2 h1 h2 m1 m2 k1 k2 p1 p2 q1 q2 K V H H' HL HS HT w
    clear P1 P2 CX H H' HL HS HW r1 r2 e e' g
    rcases HT with ⟨-, rfl, rfl⟩ | ⟨-, -, rfl, rfl⟩ | ⟨-, -, rfl, rfl⟩
    · go_enter Try.func19, Try.ntmps19
      go_wp2_with fail
      refine (C1 _).mono ?_
      rintro e w1 ⟨rfl, os1, dr1, rfl⟩
      go_wp2_with fail
      refine (C2 _).mono ?_
      rintro e w1 ⟨rfl, os2, dr2, rfl⟩
      go_wp2_with fail
      refine (C3 _).mono ?_
      rintro e w1 ⟨rfl, os3, dr3, rfl⟩
      go_wp2_with fail
      refine (C4 _).mono ?_
      rintro e w1 ⟨rfl, os4, dr4, rfl⟩
      go_wp2_with fail
      refine (C5 _).mono ?_
      rintro e w1 ⟨rfl, os5, dr5, rfl⟩
      go_wp2_with fail
      refine (CM _).mono ?_
      rintro e w1 ⟨rfl, os6, dr6, rfl⟩
      go_wp2
      exact bodyPost_ret (v := .tuple #[.int .i64 0, .agg #[.int .u64 0, .int .u64 0, .int .u64 0, .int .u64 0, .int .u64 0, .int .u64 0, .int .u64 0, .int .u64 0, .int .u64 0, .int .u64 0, .int .u64 0, .int .u64 0]]) (by simp [results, Try.results19, go_sem]) rfl ⟨rfl, (by with_reducible repeat (first | exact IsGr.refl _ | refine IsGr.gr ?_ _ _ | refine IsGr.alloc ?_ _ | refine IsGr.drew ?_ | refine IsGr.drewN ?_ _))⟩
    · go_enter Try.func19, Try.ntmps19
      go_wp2_with fail
      refine (C1 _).mono ?_
      rintro e w1 ⟨rfl, os1, dr1, rfl⟩
      go_wp2_with fail
      refine (C2 _).mono ?_
      rintro e w1 ⟨rfl, os2, dr2, rfl⟩
      go_wp2_with fail
      refine (C3 _).mono ?_
      rintro e w1 ⟨rfl, os3, dr3, rfl⟩
      go_wp2_with fail
      refine (C4 _).mono ?_
      rintro e w1 ⟨rfl, os4, dr4, rfl⟩
      go_wp2_with fail
      refine (C5 _).mono ?_
      rintro e w1 ⟨rfl, os5, dr5, rfl⟩
      go_wp2_with fail
      refine (CM _).mono ?_
      rintro e w1 ⟨rfl, os6, dr6, rfl⟩
      go_wp2
      exact bodyPost_ret (v := .tuple #[.int .i64 1, .agg #[.int .u64 (wd0 p1), .int .u64 (wd1 p1), .int .u64 (wd2 p1), .int .u64 (wd3 p1), .int .u64 (wd0 p2), .int .u64 (wd1 p2), .int .u64 (wd2 p2), .int .u64 (wd3 p2), .int .u64 (wd0 1), .int .u64 (wd1 1), .int .u64 (wd2 1), .int .u64 (wd3 1)]]) (by simp [results, Try.results19, go_sem]) rfl ⟨rfl, (by with_reducible repeat (first | exact IsGr.refl _ | refine IsGr.gr ?_ _ _ | refine IsGr.alloc ?_ _ | refine IsGr.drew ?_ | refine IsGr.drewN ?_ _))⟩
    · go_enter Try.func19, Try.ntmps19
      go_wp2_with fail
      refine (C1 _).mono ?_
      rintro e w1 ⟨rfl, os1, dr1, rfl⟩
      go_wp2_with fail
      refine (C2 _).mono ?_
      rintro e w1 ⟨rfl, os2, dr2, rfl⟩
      go_wp2_with fail
      refine (C3 _).mono ?_
      rintro e w1 ⟨rfl, os3, dr3, rfl⟩
      go_wp2_with fail
      refine (C4 _).mono ?_
      rintro e w1 ⟨rfl, os4, dr4, rfl⟩
      go_wp2_with fail
      refine (C5 _).mono ?_
      rintro e w1 ⟨rfl, os5, dr5, rfl⟩
      go_wp2_with fail
      refine (CM _).mono ?_
      rintro e w1 ⟨rfl, os6, dr6, rfl⟩
      go_wp2
      exact bodyPost_ret (v := .tuple #[.int .i64 2, .agg #[.int .u64 0, .int .u64 0, .int .u64 0, .int .u64 0, .int .u64 0, .int .u64 0, .int .u64 0, .int .u64 0, .int .u64 0, .int .u64 0, .int .u64 0, .int .u64 0]]) (by simp [results, Try.results19, go_sem]) rfl ⟨rfl, (by with_reducible repeat (first | exact IsGr.refl _ | refine IsGr.gr ?_ _ _ | refine IsGr.alloc ?_ _ | refine IsGr.drew ?_ | refine IsGr.drewN ?_ _))⟩
  · rw [show decide (a1 = b1 ∧ a2 = b2) = false by simp at e ⊢; exact e] at C3
    rw [show decide (c1 = d1 ∧ c2 = d2) = false by simp at e' ⊢; exact e'] at C4
    have hX : (cmpI (slopeS l1 l2 h1 h2 m1 m2 k1 k2) 0 == 0) = false := by
      rcases cmpI_cases (slopeS l1 l2 h1 h2 m1 m2 k1 k2) 0 with ⟨x, y⟩ | ⟨x, y⟩ | ⟨x, y⟩
      · rw [x]; rfl
      · exact absurd y g
      · rw [x]; rfl
    generalize cmpI (slopeS l1 l2 h1 h2 m1 m2 k1 k2) 0 = S9 at *
    generalize partsP a1 a2 b1 b2 c1 c2 d1 d2 = B1 at *
    generalize partsP c1 c2 d1 d2 a1 a2 b1 b2 = B2 at *
    clear H H' HL HS HW r1 r2 e e' g
    obtain ⟨rfl, rfl⟩ : B1 = true ∧ B2 = true := by simpa using HP
    clear HP
    generalize l1 * W + (h1 - l1) * R = X at *
    generalize l2 * W + (h2 - l2) * R = Y at *
    go_enter Try.func19, Try.ntmps19
    go_wp2_with fail
    refine (C1 _).mono ?_
    rintro e w1 ⟨rfl, os1, dr1, rfl⟩
    go_wp2_with fail
    refine (C2 _).mono ?_
    rintro e w1 ⟨rfl, os2, dr2, rfl⟩
    go_wp2_with fail
    refine (C3 _).mono ?_
    rintro e w1 ⟨rfl, os3, dr3, rfl⟩
    go_wp2_with fail
    refine (C4 _).mono ?_
    rintro e w1 ⟨rfl, os4, dr4, rfl⟩
    go_wp2_with fail
    refine (C5 _).mono ?_
    rintro e w1 ⟨rfl, os5, dr5, rfl⟩
    go_wp2_with fail
    refine (P1 _).mono ?_
    rintro e w1 ⟨rfl, os6, dr6, rfl⟩
    go_wp2_with fail
    refine (P2 _).mono ?_
    rintro e w1 ⟨rfl, os7, dr7, rfl⟩
    go_wp2_with fail
    refine (CX _).mono ?_
    rintro e w1 ⟨rfl, os8, dr8, rfl⟩
    go_wp2
    exact bodyPost_ret (v := .tuple #[.int .i64 1, .agg #[.int .u64 (wd0 X), .int .u64 (wd1 X), .int .u64 (wd2 X), .int .u64 (wd3 X), .int .u64 (wd0 Y), .int .u64 (wd1 Y), .int .u64 (wd2 Y), .int .u64 (wd3 Y), .int .u64 (wd0 W), .int .u64 (wd1 W), .int .u64 (wd2 W), .int .u64 (wd3 W)]]) (by simp [results, Try.results19, go_sem]) rfl ⟨rfl, (by with_reducible repeat (first | exact IsGr.refl _ | refine IsGr.gr ?_ _ _ | refine IsGr.alloc ?_ _ | refine IsGr.drew ?_ | refine IsGr.drewN ?_ _))⟩
  · rw [show decide (a1 = b1 ∧ a2 = b2) = false by simp at e ⊢; exact e] at C3
    rw [show decide (c1 = d1 ∧ c2 = d2) = false by simp at e' ⊢; exact e'] at C4
    have hX : (cmpI (slopeS l1 l2 h1 h2 m1 m2 k1 k2) 0 == 0) = false := by
      rcases cmpI_cases (slopeS l1 l2 h1 h2 m1 m2 k1 k2) 0 with ⟨x, y⟩ | ⟨x, y⟩ | ⟨x, y⟩
      · rw [x]; rfl
      · exact absurd y g
      · rw [x]; rfl
    generalize cmpI (slopeS l1 l2 h1 h2 m1 m2 k1 k2) 0 = S9 at *
    generalize partsP a1 a2 b1 b2 c1 c2 d1 d2 = B1 at *
    generalize partsP c1 c2 d1 d2 a1 a2 b1 b2 = B2 at *
    clear H H' HL HS HW r1 r2 e e' g
    clear CX
    cases B1
    · clear HP
      go_enter Try.func19, Try.ntmps19
      go_wp2_with fail
      refine (C1 _).mono ?_
      rintro e w1 ⟨rfl, os1, dr1, rfl⟩
      go_wp2_with fail
      refine (C2 _).mono ?_
      rintro e w1 ⟨rfl, os2, dr2, rfl⟩
      go_wp2_with fail
      refine (C3 _).mono ?_
      rintro e w1 ⟨rfl, os3, dr3, rfl⟩
      go_wp2_with fail
      refine (C4 _).mono ?_
      rintro e w1 ⟨rfl, os4, dr4, rfl⟩
      go_wp2_with fail
      refine (C5 _).mono ?_
      rintro e w1 ⟨rfl, os5, dr5, rfl⟩
      go_wp2_with fail
      refine (P1 _).mono ?_
      rintro e w1 ⟨rfl, os6, dr6, rfl⟩
      go_wp2
      exact bodyPost_ret (v := .tuple #[.int .i64 0, .agg #[.int .u64 0, .int .u64 0, .int .u64 0, .int .u64 0, .int .u64 0, .int .u64 0, .int .u64 0, .int .u64 0, .int .u64 0, .int .u64 0, .int .u64 0, .int .u64 0]]) (by simp [results, Try.results19, go_sem]) rfl ⟨rfl, (by with_reducible repeat (first | exact IsGr.refl _ | refine IsGr.gr ?_ _ _ | refine IsGr.alloc ?_ _ | refine IsGr.drew ?_ | refine IsGr.drewN ?_ _))⟩
    · obtain rfl : B2 = false := by simpa using HP
      clear HP
      go_enter Try.func19, Try.ntmps19
      go_wp2_with fail
      refine (C1 _).mono ?_
      rintro e w1 ⟨rfl, os1, dr1, rfl⟩
      go_wp2_with fail
      refine (C2 _).mono ?_
      rintro e w1 ⟨rfl, os2, dr2, rfl⟩
      go_wp2_with fail
      refine (C3 _).mono ?_
      rintro e w1 ⟨rfl, os3, dr3, rfl⟩
      go_wp2_with fail
      refine (C4 _).mono ?_
      rintro e w1 ⟨rfl, os4, dr4, rfl⟩
      go_wp2_with fail
      refine (C5 _).mono ?_
      rintro e w1 ⟨rfl, os5, dr5, rfl⟩
      go_wp2_with fail
      refine (P1 _).mono ?_
      rintro e w1 ⟨rfl, os6, dr6, rfl⟩
      go_wp2_with fail
      refine (P2 _).mono ?_
      rintro e w1 ⟨rfl, os7, dr7, rfl⟩
      go_wp2
      exact bodyPost_ret (v := .tuple #[.int .i64 0, .agg #[.int .u64 0, .int .u64 0, .int .u64 0, .int .u64 0, .int .u64 0, .int .u64 0, .int .u64 0, .int .u64 0, .int .u64 0, .int .u64 0, .int .u64 0, .int .u64 0]]) (by simp [results, Try.results19, go_sem]) rfl ⟨rfl, (by with_reducible repeat (first | exact IsGr.refl _ | refine IsGr.gr ?_ _ _ | refine IsGr.alloc ?_ _ | refine IsGr.drew ?_ | refine IsGr.drewN ?_ _))⟩
end Go.Proofs.Ytohhlhoijanjfaa
