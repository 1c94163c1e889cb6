/- Contracts of package cross over the loaded program: Slope, parts, Side. What package wide answers for quotients, by its words. Contracts of package cross over the loaded program: quotient, Whole, Holds, meetPoint, meetAlong. -/
import Derived.Test.YtohhlhoijanjfaaGA
import Derived.Test.YtohhlhoijanjfaaU7wg
import Derived.Test.YtohhlhoijanjfaaW13
import Derived.Test.YtohhlhoijanjfaaU9
namespace Go.Proofs.Ytohhlhoijanjfaa
open Go.RowKit Go.Shelf
attribute [local go_sem] Gr.size Gr.cell? Gr.frozen? Gr.setCell Gr.drew Gr.drewN Gr.of_drew Gr.of_drewN Gr.gr Gr.lt_of1 Gr.le_of1 Gr.lt_of2 Gr.le_of2 Gr.lt_of3 Gr.le_of3 Gr.lt_of4 Gr.le_of4 Gr.lt_of5 Gr.le_of5 Gr.lt_of6 Gr.le_of6 Gr.lt_of7 Gr.le_of7 Gr.lt_of8 Gr.le_of8 Gr.lt_of9 Gr.le_of9 Gr.lt_of10 Gr.le_of10 Gr.lt_of11 Gr.le_of11 Gr.lt_of12 Gr.le_of12 Gr.lt_of13 Gr.le_of13 Gr.lt_of14 Gr.le_of14 Gr.lt_of15 Gr.le_of15 Gr.lt_of16 Gr.le_of16 Gr.lt_of17 Gr.le_of17 Gr.lt_of18 Gr.le_of18 Gr.lt_of19 Gr.le_of19 Gr.lt_of20 Gr.le_of20 Gr.lt_of21 Gr.le_of21 Gr.lt_of22 Gr.le_of22 Gr.lt_of23 Gr.le_of23 Gr.lt_of24 Gr.le_of24

/-- How the way from m to k must turn to be that from l to h. -/
def slopeS (l1 l2 h1 h2 m1 m2 k1 k2 : Int) : Int := (k1 - m1) * (h2 - l2) - (k2 - m2) * (h1 - l1)
/-- The turn that the spot (x / z, y / z) makes behind the way from l to h, z times. -/
def sideS (l1 l2 h1 h2 x y z : Int) : Int := (h1 - l1) * (y - l2 * z) - (h2 - l2) * (x - l1 * z)
theorem Fit.small {n : Int} (h : -4398046511104 ≤ n ∧ n ≤ 4398046511104) : Fit n := by unfold Fit; omega
theorem fit_turn {x y u v : Int} (hx : -4398046511104 ≤ x ∧ x ≤ 4398046511104) (hy : -4398046511104 ≤ y ∧ y ≤ 4398046511104) (hu : -4398046511104 ≤ u ∧ u ≤ 4398046511104) (hv : -4398046511104 ≤ v ∧ v ≤ 4398046511104) :
    Fit (x * v) ∧ Fit (y * u) ∧ Fit (x * v - y * u) := by
  have h1 := mul_le_of hx hv
  have h2 := mul_le_of hy hu
  unfold Fit
  omega
theorem ends_diff {a1 a2 b1 b2 l1 l2 h1 h2 : Int} (h : Ends2 a1 a2 b1 b2 l1 l2 h1 h2) (hr : segR a1 a2 b1 b2 = true) : (-4398046511104 ≤ h1 - l1 ∧ h1 - l1 ≤ 4398046511104) ∧ (-4398046511104 ≤ h2 - l2 ∧ h2 - l2 ≤ 4398046511104) := by
  have a := rightP_t (h.right hr).1
  have b := rightP_t (h.right hr).2
  omega


set_option maxRecDepth 20000 in set_option maxHeartbeats 2000000 in
theorem Slope_any (a1 a2 b1 b2 c1 c2 d1 d2 l1 l2 h1 h2 m1 m2 k1 k2 : Int) (H : Ends2 a1 a2 b1 b2 l1 l2 h1 h2) (H' : Ends2 c1 c2 d1 d2 m1 m2 k1 k2) (w : World) :
    Calls Try.prog 39 #[.agg #[.int .i64 a1, .int .i64 a2, .int .i64 b1, .int .i64 b2], .agg #[.int .i64 c1, .int .i64 c2, .int .i64 d1, .int .i64 d2]] w fun e w' => e = .returned (.int .i64 (if (segR a1 a2 b1 b2 && segR c1 c2 d1 d2) = true then cmpI (slopeS l1 l2 h1 h2 m1 m2 k1 k2) 0 else 0)) ∧ IsGr w w' := by
  have C1 := fun w => SRight_any a1 a2 b1 b2 w
  have C2 := fun w => SRight_any c1 c2 d1 d2 w
  cases r1 : segR a1 a2 b1 b2 with
  | false =>
    have HR : Hid (0 = if (false && segR c1 c2 d1 d2) = true then cmpI (slopeS l1 l2 h1 h2 m1 m2 k1 k2) 0 else 0) := rfl
    rw [r1] at C1
    clear H H' r1
    go_enter Try.func39, Try.ntmps39
    go_wp2_with fail
    refine (C1 _).mono ?_
    rintro e w1 ⟨rfl, os1, m1, rfl⟩
    go_wp2
    go_ret
    exact ⟨ret_int' HR.out, (by with_reducible repeat (first | exact IsGr.refl _ | refine IsGr.gr ?_ _ _ | refine IsGr.alloc ?_ _ | refine IsGr.drew ?_ | refine IsGr.drewN ?_ _))⟩
  | true =>
    cases r2 : segR c1 c2 d1 d2 with
    | false =>
      have HR : Hid (0 = if (true && false) = true then cmpI (slopeS l1 l2 h1 h2 m1 m2 k1 k2) 0 else 0) := rfl
      rw [r1] at C1
      rw [r2] at C2
      clear H H' r1 r2
      go_enter Try.func39, Try.ntmps39
      go_wp2_with fail
      refine (C1 _).mono ?_
      rintro e w1 ⟨rfl, os1, m1, rfl⟩
      go_wp2_with fail
      refine (C2 _).mono ?_
      rintro e w1 ⟨rfl, os2, m2, rfl⟩
      go_wp2
      go_ret
      exact ⟨ret_int' HR.out, (by with_reducible repeat (first | exact IsGr.refl _ | refine IsGr.gr ?_ _ _ | refine IsGr.alloc ?_ _ | refine IsGr.drew ?_ | refine IsGr.drewN ?_ _))⟩
    | true =>
      have HR : Hid (cmpI (slopeS l1 l2 h1 h2 m1 m2 k1 k2) 0 = if (true && true) = true then cmpI (slopeS l1 l2 h1 h2 m1 m2 k1 k2) 0 else 0) := rfl
      have W1 := fun w => way_any a1 a2 b1 b2 l1 l2 h1 h2 H r1 w
      have W2 := fun w => way_any c1 c2 d1 d2 m1 m2 k1 k2 H' r2 w
      obtain ⟨b1', b2'⟩ := ends_diff H r1
      obtain ⟨b3', b4'⟩ := ends_diff H' r2
      obtain ⟨f1, f2, f3⟩ := fit_turn b3' b4' b1' b2'
      have CT := fun w => wturn_any (k1 - m1) (k2 - m2) (h1 - l1) (h2 - l2) (Fit.small b3') (Fit.small b4') (Fit.small b1') (Fit.small b2') f1 f2 f3 w
      have CS := fun w => fSign _ f3 w
      rw [r1] at C1
      rw [r2] at C2
      clear H H' r1 r2 b1' b2' b3' b4' f1 f2 f3
      unfold slopeS at HR ⊢
      generalize (k1 - m1) * (h2 - l2) - (k2 - m2) * (h1 - l1) = T at *
      generalize k1 - m1 = X at *
      generalize k2 - m2 = Y at *
      generalize h1 - l1 = U at *
      generalize h2 - l2 = V at *
      generalize cmpI T 0 = R at *
      clear HR
      go_enter Try.func39, Try.ntmps39
      go_wp2_with fail
      refine (C1 _).mono ?_
      rintro e w1 ⟨rfl, os1, m1, rfl⟩
      go_wp2_with fail
      refine (C2 _).mono ?_
      rintro e w1 ⟨rfl, os2, m2, rfl⟩
      go_upto_region 3 with fail
      obtain ⟨C, hin, hcl, hcells, hgr⟩ : ∃ C : World → Prop, (∀ w', w.heap.size + 2 ≤ w'.heap.size ∧ IsGr w w' ∧ (w'.cell? ⟨w.heap.size, 0, none⟩ = some (.int .i64 a1) ∧ w'.cell? ⟨w.heap.size, 1, none⟩ = some (.int .i64 a2) ∧ w'.cell? ⟨w.heap.size, 2, none⟩ = some (.int .i64 b1) ∧ w'.cell? ⟨w.heap.size, 3, none⟩ = some (.int .i64 b2)) ∧ (w'.cell? ⟨w.heap.size + 1, 0, none⟩ = some (.int .i64 c1) ∧ w'.cell? ⟨w.heap.size + 1, 1, none⟩ = some (.int .i64 c2) ∧ w'.cell? ⟨w.heap.size + 1, 2, none⟩ = some (.int .i64 d1) ∧ w'.cell? ⟨w.heap.size + 1, 3, none⟩ = some (.int .i64 d2)) → C w') ∧ (∀ u u', C u → IsGr u u' → C u') ∧ (∀ w', C w' → (w'.cell? ⟨w.heap.size, 0, none⟩ = some (.int .i64 a1) ∧ w'.cell? ⟨w.heap.size, 1, none⟩ = some (.int .i64 a2) ∧ w'.cell? ⟨w.heap.size, 2, none⟩ = some (.int .i64 b1) ∧ w'.cell? ⟨w.heap.size, 3, none⟩ = some (.int .i64 b2)) ∧ (w'.cell? ⟨w.heap.size + 1, 0, none⟩ = some (.int .i64 c1) ∧ w'.cell? ⟨w.heap.size + 1, 1, none⟩ = some (.int .i64 c2) ∧ w'.cell? ⟨w.heap.size + 1, 2, none⟩ = some (.int .i64 d1) ∧ w'.cell? ⟨w.heap.size + 1, 3, none⟩ = some (.int .i64 d2))) ∧ (∀ w', C w' → IsGr w w' ∧ w.heap.size + 2 ≤ w'.heap.size) := by
        refine ⟨fun w' => w.heap.size + 2 ≤ w'.heap.size ∧ IsGr w w' ∧ (w'.cell? ⟨w.heap.size, 0, none⟩ = some (.int .i64 a1) ∧ w'.cell? ⟨w.heap.size, 1, none⟩ = some (.int .i64 a2) ∧ w'.cell? ⟨w.heap.size, 2, none⟩ = some (.int .i64 b1) ∧ w'.cell? ⟨w.heap.size, 3, none⟩ = some (.int .i64 b2)) ∧ (w'.cell? ⟨w.heap.size + 1, 0, none⟩ = some (.int .i64 c1) ∧ w'.cell? ⟨w.heap.size + 1, 1, none⟩ = some (.int .i64 c2) ∧ w'.cell? ⟨w.heap.size + 1, 2, none⟩ = some (.int .i64 d1) ∧ w'.cell? ⟨w.heap.size + 1, 3, none⟩ = some (.int .i64 d2)), fun w' h => h, ?_, fun w' h => h.2.2, fun w' h => ⟨h.2.1, h.1⟩⟩
        rintro u u' ⟨h0, h1, h2⟩ hg
        refine ⟨Nat.le_trans h0 hg.size, h1.trans hg, ?_⟩
        exact ⟨⟨hg.cell_at (by omega) h2.1.1, hg.cell_at (by omega) h2.1.2.1, hg.cell_at (by omega) h2.1.2.2.1, hg.cell_at (by omega) h2.1.2.2.2⟩, ⟨hg.cell_at (by omega) h2.2.1, hg.cell_at (by omega) h2.2.2.1, hg.cell_at (by omega) h2.2.2.2.1, hg.cell_at (by omega) h2.2.2.2.2⟩⟩
      refine wp_region_quietV C (by kernel_rfl) (by kernel_rfl) (hin _ ⟨by first | omega | (simp; done) | (simp; omega) | (simp [Gr.size]; done) | (simp [Gr.size]; omega), (by with_reducible repeat (first | exact IsGr.refl _ | refine IsGr.gr ?_ _ _ | refine IsGr.alloc ?_ _ | refine IsGr.drew ?_ | refine IsGr.drewN ?_ _)), by simp [go_sem]⟩) (fun K HK => ?_)
      refine QK.take HK ?_ (by rfl) ?_ ?_
      rotate_left
      · (intro w hw; (try have hcs := hcells w hw); (try go_split_ands); go_simp <;> with_reducible rfl)
      (try simp only [Act.put, qA, qB, qC])
      refine QK.call HK 71 #[.agg #[.int .i64 c1, .int .i64 c2, .int .i64 d1, .int .i64 d2]] (.agg #[.int .u64 (wd0 X), .int .u64 (wd1 X), .int .u64 (wd2 X), .int .u64 (wd3 X), .int .u64 (wd0 Y), .int .u64 (wd1 Y), .int .u64 (wd2 Y), .int .u64 (wd3 Y)]) hcl (by rfl) (fun w => by go_simp) W2 ?_
      (try simp only [Act.put, qA, qB, qC])
      refine QK.take HK ?_ (by rfl) ?_ ?_
      rotate_left
      · (intro w hw; (try have hcs := hcells w hw); (try go_split_ands); go_simp <;> with_reducible rfl)
      (try simp only [Act.put, qA, qB, qC])
      refine QK.call HK 71 #[.agg #[.int .i64 a1, .int .i64 a2, .int .i64 b1, .int .i64 b2]] (.agg #[.int .u64 (wd0 U), .int .u64 (wd1 U), .int .u64 (wd2 U), .int .u64 (wd3 U), .int .u64 (wd0 V), .int .u64 (wd1 V), .int .u64 (wd2 V), .int .u64 (wd3 V)]) hcl (by rfl) (fun w => by go_simp) W1 ?_
      (try simp only [Act.put, qA, qB, qC])
      refine QK.call HK 72 #[.agg #[.int .u64 (wd0 X), .int .u64 (wd1 X), .int .u64 (wd2 X), .int .u64 (wd3 X), .int .u64 (wd0 Y), .int .u64 (wd1 Y), .int .u64 (wd2 Y), .int .u64 (wd3 Y)], .agg #[.int .u64 (wd0 U), .int .u64 (wd1 U), .int .u64 (wd2 U), .int .u64 (wd3 U), .int .u64 (wd0 V), .int .u64 (wd1 V), .int .u64 (wd2 V), .int .u64 (wd3 V)]] (.agg #[.int .u64 (wd0 T), .int .u64 (wd1 T), .int .u64 (wd2 T), .int .u64 (wd3 T)]) hcl (by rfl) (fun w => by go_simp) CT ?_
      (try simp only [Act.put, qA, qB, qC])
      refine QK.call HK 73 #[.agg #[.int .u64 (wd0 T), .int .u64 (wd1 T), .int .u64 (wd2 T), .int .u64 (wd3 T)]] (.int .i64 R) hcl (by rfl) (fun w => by go_simp) CS ?_
      (try simp only [Act.put, qA, qB, qC])
      refine QK.take HK ?_ (by rfl) ?_ ?_
      rotate_left
      · (intro w hw; (try have hcs := hcells w hw); (try go_split_ands); go_simp <;> with_reducible rfl)
      (try simp only [Act.put, qA, qB, qC])
      refine QK.nil HK ?_
      clear HK K
      intro wq hq
      have hg := (hgr wq hq).1
      clear hcells hin hcl hgr hq
      go_wp2
      go_ret
      exact ⟨by simp, hg⟩

/-- Does the line through a and b go between c and d, or through one of them? -/
def partsP (a1 a2 b1 b2 c1 c2 d1 d2 : Int) : Bool := decide (wayP a1 a2 b1 b2 c1 c2 * wayP a1 a2 b1 b2 d1 d2 ≤ 0)
set_option maxRecDepth 20000 in set_option maxHeartbeats 2000000 in
theorem parts_any (a1 a2 b1 b2 c1 c2 d1 d2 : Int) (w : World) :
    Calls Try.prog 62 #[.agg #[.int .i64 a1, .int .i64 a2, .int .i64 b1, .int .i64 b2], .agg #[.int .i64 c1, .int .i64 c2, .int .i64 d1, .int .i64 d2]] w fun e w' => e = .returned (.bool (partsP a1 a2 b1 b2 c1 c2 d1 d2)) ∧ IsGr w w' := by
  have C1 := fun w => Turn_any a1 a2 b1 b2 c1 c2 w
  have C2 := fun w => Turn_any a1 a2 b1 b2 d1 d2 w
  have r1 := wayP_range a1 a2 b1 b2 c1 c2
  have r2 := wayP_range a1 a2 b1 b2 d1 d2
  have HR : Hid (decide (wayP a1 a2 b1 b2 c1 c2 * wayP a1 a2 b1 b2 d1 d2 ≤ 0) = partsP a1 a2 b1 b2 c1 c2 d1 d2) := rfl
  generalize wayP a1 a2 b1 b2 c1 c2 = X at C1 r1 HR
  generalize wayP a1 a2 b1 b2 d1 d2 = Y at C2 r2 HR
  have v1 := (wrap_prod r1 r2).1
  clear r1 r2
  go_enter Try.func62, Try.ntmps62
  go_upto_region 1 with fail
  obtain ⟨C, hin, hcl, hcells, hgr⟩ : ∃ C : World → Prop, (∀ w', w.heap.size + 2 ≤ w'.heap.size ∧ IsGr w w' ∧ (w'.cell? ⟨w.heap.size, 0, none⟩ = some (.int .i64 a1) ∧ w'.cell? ⟨w.heap.size, 1, none⟩ = some (.int .i64 a2) ∧ w'.cell? ⟨w.heap.size, 2, none⟩ = some (.int .i64 b1) ∧ w'.cell? ⟨w.heap.size, 3, none⟩ = some (.int .i64 b2)) ∧ (w'.cell? ⟨w.heap.size + 1, 0, none⟩ = some (.int .i64 c1) ∧ w'.cell? ⟨w.heap.size + 1, 1, none⟩ = some (.int .i64 c2) ∧ w'.cell? ⟨w.heap.size + 1, 2, none⟩ = some (.int .i64 d1) ∧ w'.cell? ⟨w.heap.size + 1, 3, none⟩ = some (.int .i64 d2)) → C w') ∧ (∀ u u', C u → IsGr u u' → C u') ∧ (∀ w', C w' → (w'.cell? ⟨w.heap.size, 0, none⟩ = some (.int .i64 a1) ∧ w'.cell? ⟨w.heap.size, 1, none⟩ = some (.int .i64 a2) ∧ w'.cell? ⟨w.heap.size, 2, none⟩ = some (.int .i64 b1) ∧ w'.cell? ⟨w.heap.size, 3, none⟩ = some (.int .i64 b2)) ∧ (w'.cell? ⟨w.heap.size + 1, 0, none⟩ = some (.int .i64 c1) ∧ w'.cell? ⟨w.heap.size + 1, 1, none⟩ = some (.int .i64 c2) ∧ w'.cell? ⟨w.heap.size + 1, 2, none⟩ = some (.int .i64 d1) ∧ w'.cell? ⟨w.heap.size + 1, 3, none⟩ = some (.int .i64 d2))) ∧ (∀ w', C w' → IsGr w w' ∧ w.heap.size + 2 ≤ w'.heap.size) := by
    refine ⟨fun w' => w.heap.size + 2 ≤ w'.heap.size ∧ IsGr w w' ∧ (w'.cell? ⟨w.heap.size, 0, none⟩ = some (.int .i64 a1) ∧ w'.cell? ⟨w.heap.size, 1, none⟩ = some (.int .i64 a2) ∧ w'.cell? ⟨w.heap.size, 2, none⟩ = some (.int .i64 b1) ∧ w'.cell? ⟨w.heap.size, 3, none⟩ = some (.int .i64 b2)) ∧ (w'.cell? ⟨w.heap.size + 1, 0, none⟩ = some (.int .i64 c1) ∧ w'.cell? ⟨w.heap.size + 1, 1, none⟩ = some (.int .i64 c2) ∧ w'.cell? ⟨w.heap.size + 1, 2, none⟩ = some (.int .i64 d1) ∧ w'.cell? ⟨w.heap.size + 1, 3, none⟩ = some (.int .i64 d2)), fun w' h => h, ?_, fun w' h => h.2.2, fun w' h => ⟨h.2.1, h.1⟩⟩
    rintro u u' ⟨h0, h1, h2⟩ hg
    refine ⟨Nat.le_trans h0 hg.size, h1.trans hg, ?_⟩
    exact ⟨⟨hg.cell_at (by omega) h2.1.1, hg.cell_at (by omega) h2.1.2.1, hg.cell_at (by omega) h2.1.2.2.1, hg.cell_at (by omega) h2.1.2.2.2⟩, ⟨hg.cell_at (by omega) h2.2.1, hg.cell_at (by omega) h2.2.2.1, hg.cell_at (by omega) h2.2.2.2.1, hg.cell_at (by omega) h2.2.2.2.2⟩⟩
  refine wp_region_quietV C (by kernel_rfl) (by kernel_rfl) (hin _ ⟨by first | omega | (simp; done) | (simp; omega) | (simp [Gr.size]; done) | (simp [Gr.size]; omega), (by with_reducible repeat (first | exact IsGr.refl _ | refine IsGr.gr ?_ _ _ | refine IsGr.alloc ?_ _ | refine IsGr.drew ?_ | refine IsGr.drewN ?_ _)), by simp [go_sem]⟩) (fun K HK => ?_)
  refine QK.take HK ?_ (by rfl) ?_ ?_
  rotate_left
  · (intro w hw; (try have hcs := hcells w hw); (try go_split_ands); go_simp <;> with_reducible rfl)
  (try simp only [Act.put, qA, qB, qC])
  refine QK.take HK ?_ (by rfl) ?_ ?_
  rotate_left
  · (intro w hw; (try have hcs := hcells w hw); (try go_split_ands); go_simp <;> with_reducible rfl)
  (try simp only [Act.put, qA, qB, qC])
  refine QK.take HK ?_ (by rfl) ?_ ?_
  rotate_left
  · (intro w hw; (try have hcs := hcells w hw); (try go_split_ands); go_simp <;> with_reducible rfl)
  (try simp only [Act.put, qA, qB, qC])
  refine QK.take HK ?_ (by rfl) ?_ ?_
  rotate_left
  · (intro w hw; (try have hcs := hcells w hw); (try go_split_ands); go_simp <;> with_reducible rfl)
  (try simp only [Act.put, qA, qB, qC])
  refine QK.take HK ?_ (by rfl) ?_ ?_
  rotate_left
  · (intro w hw; (try have hcs := hcells w hw); (try go_split_ands); go_simp <;> with_reducible rfl)
  (try simp only [Act.put, qA, qB, qC])
  refine QK.take HK ?_ (by rfl) ?_ ?_
  rotate_left
  · (intro w hw; (try have hcs := hcells w hw); (try go_split_ands); go_simp <;> with_reducible rfl)
  (try simp only [Act.put, qA, qB, qC])
  refine QK.call HK 44 #[.agg #[.int .i64 a1, .int .i64 a2], .agg #[.int .i64 b1, .int .i64 b2], .agg #[.int .i64 c1, .int .i64 c2]] (.int .i64 X) hcl (by rfl) (fun w => by go_simp) C1 ?_
  (try simp only [Act.put, qA, qB, qC])
  refine QK.take HK ?_ (by rfl) ?_ ?_
  rotate_left
  · (intro w hw; (try have hcs := hcells w hw); (try go_split_ands); go_simp <;> with_reducible rfl)
  (try simp only [Act.put, qA, qB, qC])
  refine QK.take HK ?_ (by rfl) ?_ ?_
  rotate_left
  · (intro w hw; (try have hcs := hcells w hw); (try go_split_ands); go_simp <;> with_reducible rfl)
  (try simp only [Act.put, qA, qB, qC])
  refine QK.take HK ?_ (by rfl) ?_ ?_
  rotate_left
  · (intro w hw; (try have hcs := hcells w hw); (try go_split_ands); go_simp <;> with_reducible rfl)
  (try simp only [Act.put, qA, qB, qC])
  refine QK.take HK ?_ (by rfl) ?_ ?_
  rotate_left
  · (intro w hw; (try have hcs := hcells w hw); (try go_split_ands); go_simp <;> with_reducible rfl)
  (try simp only [Act.put, qA, qB, qC])
  refine QK.take HK ?_ (by rfl) ?_ ?_
  rotate_left
  · (intro w hw; (try have hcs := hcells w hw); (try go_split_ands); go_simp <;> with_reducible rfl)
  (try simp only [Act.put, qA, qB, qC])
  refine QK.take HK ?_ (by rfl) ?_ ?_
  rotate_left
  · (intro w hw; (try have hcs := hcells w hw); (try go_split_ands); go_simp <;> with_reducible rfl)
  (try simp only [Act.put, qA, qB, qC])
  refine QK.call HK 44 #[.agg #[.int .i64 a1, .int .i64 a2], .agg #[.int .i64 b1, .int .i64 b2], .agg #[.int .i64 d1, .int .i64 d2]] (.int .i64 Y) hcl (by rfl) (fun w => by go_simp) C2 ?_
  (try simp only [Act.put, qA, qB, qC])
  refine QK.take HK ?_ (by rfl) ?_ ?_
  rotate_left
  · (intro w hw; (try have hcs := hcells w hw); (try go_split_ands); go_simp <;> with_reducible rfl)
  (try simp only [Act.put, qA, qB, qC])
  refine QK.take HK ?_ (by rfl) ?_ ?_
  rotate_left
  · (intro w hw; (try have hcs := hcells w hw); (try go_split_ands); go_simp <;> with_reducible rfl)
  (try simp only [Act.put, qA, qB, qC])
  refine QK.take HK ?_ (by rfl) ?_ ?_
  rotate_left
  · (intro w hw; (try have hcs := hcells w hw); (try go_split_ands); go_simp <;> with_reducible rfl)
  (try simp only [Act.put, qA, qB, qC])
  refine QK.nil HK ?_
  clear HK K
  intro wq hq
  have hg := (hgr wq hq).1
  clear hcells hin hcl hgr hq
  go_wp2
  go_ret
  exact ⟨ret_bool HR.out, hg⟩

set_option maxRecDepth 20000 in set_option maxHeartbeats 2000000 in
theorem Side_yes (a1 a2 b1 b2 l1 l2 h1 h2 x y z : Int) (H : Ends2 a1 a2 b1 b2 l1 l2 h1 h2) (r1 : segR a1 a2 b1 b2 = true) (r2 : spotR x y z = true) (w : World) :
    Calls Try.prog 29 #[.agg #[.int .i64 a1, .int .i64 a2, .int .i64 b1, .int .i64 b2], .agg #[.int .u64 (wd0 x), .int .u64 (wd1 x), .int .u64 (wd2 x), .int .u64 (wd3 x), .int .u64 (wd0 y), .int .u64 (wd1 y), .int .u64 (wd2 y), .int .u64 (wd3 y), .int .u64 (wd0 z), .int .u64 (wd1 z), .int .u64 (wd2 z), .int .u64 (wd3 z)]] w fun e w' => e = .returned (.int .i64 (cmpI (sideS l1 l2 h1 h2 x y z) 0)) ∧ IsGr w w' := by
  obtain ⟨hx, hy, hz⟩ := spot_fit r2
  have C1 := fun w => SRight_any a1 a2 b1 b2 w
  have C2 := fun w => SpRight_any x y z hx hy hz w
  have CE := fun w => Ends_any a1 a2 b1 b2 l1 l2 h1 h2 H w
  have CW := fun w => way_any a1 a2 b1 b2 l1 l2 h1 h2 H r1 w
  have rl := rightP_t (H.right r1).1
  have rs := spotR_t r2
  obtain ⟨b1', b2'⟩ := ends_diff H r1
  have O1 := fun w => fOf l1 (by omega) (by omega) w
  have O2 := fun w => fOf l2 (by omega) (by omega) w
  have p1 := mul_le_of (x := l1) (y := z) (A := 2199023255552) (B := 1237940039285380274899124224) (by omega) (by omega)
  have p2 := mul_le_of (x := l2) (y := z) (A := 2199023255552) (B := 1237940039285380274899124224) (by omega) (by omega)
  have f1 : Fit (l1 * z) := by unfold Fit; omega
  have f2 : Fit (l2 * z) := by unfold Fit; omega
  have q1 : -5444517870735015415413993718908291383296 ≤ x - l1 * z ∧ x - l1 * z ≤ 5444517870735015415413993718908291383296 := by omega
  have q2 : -5444517870735015415413993718908291383296 ≤ y - l2 * z ∧ y - l2 * z ≤ 5444517870735015415413993718908291383296 := by omega
  have f3 : Fit (x - l1 * z) := by unfold Fit; omega
  have f4 : Fit (y - l2 * z) := by unfold Fit; omega
  have P1 := fun w => xproduct l1 z (by unfold Fit; omega) hz f1 w
  have P2 := fun w => xproduct l2 z (by unfold Fit; omega) hz f2 w
  have D1 := fun w => xdifference x (l1 * z) hx f1 f3 w
  have D2 := fun w => xdifference y (l2 * z) hy f2 f4 w
  have p3 := mul_le_of b1' q2
  have p4 := mul_le_of b2' q1
  have f5 : Fit ((h1 - l1) * (y - l2 * z)) := by unfold Fit; omega
  have f6 : Fit ((h2 - l2) * (x - l1 * z)) := by unfold Fit; omega
  have f7 : Fit ((h1 - l1) * (y - l2 * z) - (h2 - l2) * (x - l1 * z)) := by unfold Fit; omega
  have CT := fun w => wturn_any (h1 - l1) (h2 - l2) (x - l1 * z) (y - l2 * z) (Fit.small b1') (Fit.small b2') f3 f4 f5 f6 f7 w
  have CS := fun w => fSign _ f7 w
  rw [r1] at C1
  rw [r2] at C2
  unfold sideS
  clear H r1 r2 hx hy hz rl rs b1' b2' p1 p2 p3 p4 q1 q2 f1 f2 f3 f4 f5 f6 f7
  generalize (h1 - l1) * (y - l2 * z) - (h2 - l2) * (x - l1 * z) = T at *
  generalize h1 - l1 = U at *
  generalize h2 - l2 = V at *
  generalize x - l1 * z = E at *
  generalize y - l2 * z = F at *
  generalize l1 * z = G1 at *
  generalize l2 * z = G2 at *
  generalize cmpI T 0 = R at *
  go_enter Try.func29, Try.ntmps29
  go_wp2_with fail
  refine (C1 _).mono ?_
  rintro e w1 ⟨rfl, os1, m1, rfl⟩
  go_wp2_with fail
  refine (C2 _).mono ?_
  rintro e w1 ⟨rfl, os2, m2, rfl⟩
  go_upto_region 3 with fail
  go_cut [5, 6] (fun t5 t6 wr => ∃ g5 : Nat, t5 = .pointer (some ⟨g5, 0, none⟩) ∧ g5 < wr.heap.size ∧ (wr.cell? ⟨g5, 0, none⟩ = some (.int .i64 l1) ∧ wr.cell? ⟨g5, 1, none⟩ = some (.int .i64 l2)) ∧ (wr.cell? ⟨w.heap.size, 0, none⟩ = some (.int .i64 a1) ∧ wr.cell? ⟨w.heap.size, 1, none⟩ = some (.int .i64 a2) ∧ wr.cell? ⟨w.heap.size, 2, none⟩ = some (.int .i64 b1) ∧ wr.cell? ⟨w.heap.size, 3, none⟩ = some (.int .i64 b2)) ∧ (wr.cell? ⟨w.heap.size + 1, 0, none⟩ = some (.int .u64 (wd0 x)) ∧ wr.cell? ⟨w.heap.size + 1, 1, none⟩ = some (.int .u64 (wd1 x)) ∧ wr.cell? ⟨w.heap.size + 1, 2, none⟩ = some (.int .u64 (wd2 x)) ∧ wr.cell? ⟨w.heap.size + 1, 3, none⟩ = some (.int .u64 (wd3 x)) ∧ wr.cell? ⟨w.heap.size + 1, 4, none⟩ = some (.int .u64 (wd0 y)) ∧ wr.cell? ⟨w.heap.size + 1, 5, none⟩ = some (.int .u64 (wd1 y)) ∧ wr.cell? ⟨w.heap.size + 1, 6, none⟩ = some (.int .u64 (wd2 y)) ∧ wr.cell? ⟨w.heap.size + 1, 7, none⟩ = some (.int .u64 (wd3 y)) ∧ wr.cell? ⟨w.heap.size + 1, 8, none⟩ = some (.int .u64 (wd0 z)) ∧ wr.cell? ⟨w.heap.size + 1, 9, none⟩ = some (.int .u64 (wd1 z)) ∧ wr.cell? ⟨w.heap.size + 1, 10, none⟩ = some (.int .u64 (wd2 z)) ∧ wr.cell? ⟨w.heap.size + 1, 11, none⟩ = some (.int .u64 (wd3 z))) ∧ w.heap.size + 2 ≤ wr.heap.size ∧ IsGr w wr)
  case first =>
    go_wp2_with fail
    refine (CE _).mono ?_
    rintro e w1 ⟨rfl, os3, m3, rfl⟩
    go_wp2
    go_meet
    case rel =>
      refine ⟨_, rfl, ?_, ?_, ?_, ?_, ?_, (by with_reducible repeat (first | exact IsGr.refl _ | refine IsGr.gr ?_ _ _ | refine IsGr.alloc ?_ _ | refine IsGr.drew ?_ | refine IsGr.drewN ?_ _))⟩
      · first | omega | (simp; done) | (simp; omega) | (simp [Gr.size]; done) | (simp [Gr.size]; omega)
      · simp [go_sem]
      · simp [go_sem]
      · simp [go_sem]
      · first | omega | (simp; done) | (simp; omega) | (simp [Gr.size]; done) | (simp [Gr.size]; omega)
  case rest =>
    obtain ⟨g5, rfl, k5, hl5, ha5, hx5, ks, hg1⟩ := hcut
    obtain ⟨W1, hW9⟩ : ∃ W1, W1 = wc := ⟨_, rfl⟩
    subst hW9
    have HG : Hid (IsGr w W1) := hg1
    have hSO : ∀ w', IsGr W1 w' → (w'.cell? ⟨w.heap.size, 0, none⟩ = some (.int .i64 a1) ∧ w'.cell? ⟨w.heap.size, 1, none⟩ = some (.int .i64 a2) ∧ w'.cell? ⟨w.heap.size, 2, none⟩ = some (.int .i64 b1) ∧ w'.cell? ⟨w.heap.size, 3, none⟩ = some (.int .i64 b2)) ∧ (w'.cell? ⟨w.heap.size + 1, 0, none⟩ = some (.int .u64 (wd0 x)) ∧ w'.cell? ⟨w.heap.size + 1, 1, none⟩ = some (.int .u64 (wd1 x)) ∧ w'.cell? ⟨w.heap.size + 1, 2, none⟩ = some (.int .u64 (wd2 x)) ∧ w'.cell? ⟨w.heap.size + 1, 3, none⟩ = some (.int .u64 (wd3 x)) ∧ w'.cell? ⟨w.heap.size + 1, 4, none⟩ = some (.int .u64 (wd0 y)) ∧ w'.cell? ⟨w.heap.size + 1, 5, none⟩ = some (.int .u64 (wd1 y)) ∧ w'.cell? ⟨w.heap.size + 1, 6, none⟩ = some (.int .u64 (wd2 y)) ∧ w'.cell? ⟨w.heap.size + 1, 7, none⟩ = some (.int .u64 (wd3 y)) ∧ w'.cell? ⟨w.heap.size + 1, 8, none⟩ = some (.int .u64 (wd0 z)) ∧ w'.cell? ⟨w.heap.size + 1, 9, none⟩ = some (.int .u64 (wd1 z)) ∧ w'.cell? ⟨w.heap.size + 1, 10, none⟩ = some (.int .u64 (wd2 z)) ∧ w'.cell? ⟨w.heap.size + 1, 11, none⟩ = some (.int .u64 (wd3 z))) ∧ (w'.cell? ⟨g5, 0, none⟩ = some (.int .i64 l1) ∧ w'.cell? ⟨g5, 1, none⟩ = some (.int .i64 l2)) := fun w' hg => ⟨⟨hg.cell_at (by omega) ha5.1, hg.cell_at (by omega) ha5.2.1, hg.cell_at (by omega) ha5.2.2.1, hg.cell_at (by omega) ha5.2.2.2⟩, ⟨hg.cell_at (by omega) hx5.1, hg.cell_at (by omega) hx5.2.1, hg.cell_at (by omega) hx5.2.2.1, hg.cell_at (by omega) hx5.2.2.2.1, hg.cell_at (by omega) hx5.2.2.2.2.1, hg.cell_at (by omega) hx5.2.2.2.2.2.1, hg.cell_at (by omega) hx5.2.2.2.2.2.2.1, hg.cell_at (by omega) hx5.2.2.2.2.2.2.2.1, hg.cell_at (by omega) hx5.2.2.2.2.2.2.2.2.1, hg.cell_at (by omega) hx5.2.2.2.2.2.2.2.2.2.1, hg.cell_at (by omega) hx5.2.2.2.2.2.2.2.2.2.2.1, hg.cell_at (by omega) hx5.2.2.2.2.2.2.2.2.2.2.2⟩, ⟨hg.cell_at (by omega) hl5.1, hg.cell_at (by omega) hl5.2⟩⟩
    clear hl5 hx5 hg1
    go_upto_region 4 with fail
    go_cut [7] (fun t7 wr => ∃ gt : Nat, t7 = .pointer (some ⟨gt, 0, none⟩) ∧ gt < wr.heap.size ∧ (wr.cell? ⟨gt, 0, none⟩ = some (.int .u64 (wd0 E)) ∧ wr.cell? ⟨gt, 1, none⟩ = some (.int .u64 (wd1 E)) ∧ wr.cell? ⟨gt, 2, none⟩ = some (.int .u64 (wd2 E)) ∧ wr.cell? ⟨gt, 3, none⟩ = some (.int .u64 (wd3 E)) ∧ wr.cell? ⟨gt, 4, none⟩ = some (.int .u64 (wd0 F)) ∧ wr.cell? ⟨gt, 5, none⟩ = some (.int .u64 (wd1 F)) ∧ wr.cell? ⟨gt, 6, none⟩ = some (.int .u64 (wd2 F)) ∧ wr.cell? ⟨gt, 7, none⟩ = some (.int .u64 (wd3 F))) ∧ IsGr W1 wr)
    case first =>
      refine wp_region_held_drew (S := (fun w' => (w'.cell? ⟨w.heap.size, 0, none⟩ = some (.int .i64 a1) ∧ w'.cell? ⟨w.heap.size, 1, none⟩ = some (.int .i64 a2) ∧ w'.cell? ⟨w.heap.size, 2, none⟩ = some (.int .i64 b1) ∧ w'.cell? ⟨w.heap.size, 3, none⟩ = some (.int .i64 b2)) ∧ (w'.cell? ⟨w.heap.size + 1, 0, none⟩ = some (.int .u64 (wd0 x)) ∧ w'.cell? ⟨w.heap.size + 1, 1, none⟩ = some (.int .u64 (wd1 x)) ∧ w'.cell? ⟨w.heap.size + 1, 2, none⟩ = some (.int .u64 (wd2 x)) ∧ w'.cell? ⟨w.heap.size + 1, 3, none⟩ = some (.int .u64 (wd3 x)) ∧ w'.cell? ⟨w.heap.size + 1, 4, none⟩ = some (.int .u64 (wd0 y)) ∧ w'.cell? ⟨w.heap.size + 1, 5, none⟩ = some (.int .u64 (wd1 y)) ∧ w'.cell? ⟨w.heap.size + 1, 6, none⟩ = some (.int .u64 (wd2 y)) ∧ w'.cell? ⟨w.heap.size + 1, 7, none⟩ = some (.int .u64 (wd3 y)) ∧ w'.cell? ⟨w.heap.size + 1, 8, none⟩ = some (.int .u64 (wd0 z)) ∧ w'.cell? ⟨w.heap.size + 1, 9, none⟩ = some (.int .u64 (wd1 z)) ∧ w'.cell? ⟨w.heap.size + 1, 10, none⟩ = some (.int .u64 (wd2 z)) ∧ w'.cell? ⟨w.heap.size + 1, 11, none⟩ = some (.int .u64 (wd3 z))) ∧ (w'.cell? ⟨g5, 0, none⟩ = some (.int .i64 l1) ∧ w'.cell? ⟨g5, 1, none⟩ = some (.int .i64 l2)))) (by kernel_rfl) (by (try dsimp only); exact hSO _ (by with_reducible repeat (first | exact IsGr.refl _ | refine IsGr.gr ?_ _ _ | refine IsGr.alloc ?_ _ | refine IsGr.drew ?_ | refine IsGr.drewN ?_ _))) (fun hHeld => ?_)
      refine wpAnyH_take (i := 0) (oi := { dst := some 21, op := Op.fieldAddr 46 (Operand.tmp 3) 0, type := 0, pos := "cross.go:46", after := #[], guard := none }) (v := ?_) rfl (by kernel_rfl) (by kernel_rfl) (by kernel_rfl) (fun _ _ _ h => h) (Or.inl ⟨by rfl, ?_⟩) (by assumption) ?_
      rotate_left
      · (intro w hSw; (try dsimp only at hSw); go_simp <;> with_reducible rfl)
      (try simp only [Act.put, qA, qB, qC])
      refine wpAnyH_take (i := 1) (oi := { dst := some 22, op := Op.load 44 (Operand.tmp 21), type := 44, pos := "cross.go:46", after := #[{ on := 0, ground := Ground.data }], guard := none }) (v := ?_) rfl (by kernel_rfl) (by kernel_rfl) (by kernel_rfl) (fun _ _ _ h => h) (Or.inl ⟨by rfl, ?_⟩) (by assumption) ?_
      rotate_left
      · (intro w hSw; (try dsimp only at hSw); go_simp <;> with_reducible rfl)
      (try simp only [Act.put, qA, qB, qC])
      refine wpAnyH_take (i := 2) (oi := { dst := some 23, op := Op.fieldAddr 24 (Operand.tmp 5) 0, type := 0, pos := "cross.go:46", after := #[], guard := none }) (v := ?_) rfl (by kernel_rfl) (by kernel_rfl) (by kernel_rfl) (fun _ _ _ h => h) (Or.inl ⟨by rfl, ?_⟩) (by assumption) ?_
      rotate_left
      · (intro w hSw; (try dsimp only at hSw); go_simp <;> with_reducible rfl)
      (try simp only [Act.put, qA, qB, qC])
      refine wpAnyH_take (i := 3) (oi := { dst := some 24, op := Op.load 3 (Operand.tmp 23), type := 3, pos := "cross.go:46", after := #[{ on := 2, ground := Ground.data }], guard := none }) (v := ?_) rfl (by kernel_rfl) (by kernel_rfl) (by kernel_rfl) (fun _ _ _ h => h) (Or.inl ⟨by rfl, ?_⟩) (by assumption) ?_
      rotate_left
      · (intro w hSw; (try dsimp only at hSw); go_simp <;> with_reducible rfl)
      (try simp only [Act.put, qA, qB, qC])
      refine wpAnyH_take (i := 5) (oi := { dst := some 26, op := Op.fieldAddr 46 (Operand.tmp 3) 2, type := 0, pos := "cross.go:46", after := #[], guard := none }) (v := ?_) rfl (by kernel_rfl) (by kernel_rfl) (by kernel_rfl) (fun _ _ _ h => h) (Or.inl ⟨by rfl, ?_⟩) (by assumption) ?_
      rotate_left
      · (intro w hSw; (try dsimp only at hSw); go_simp <;> with_reducible rfl)
      (try simp only [Act.put, qA, qB, qC])
      refine wpAnyH_take (i := 6) (oi := { dst := some 27, op := Op.load 44 (Operand.tmp 26), type := 44, pos := "cross.go:46", after := #[{ on := 5, ground := Ground.data }], guard := none }) (v := ?_) rfl (by kernel_rfl) (by kernel_rfl) (by kernel_rfl) (fun _ _ _ h => h) (Or.inl ⟨by rfl, ?_⟩) (by assumption) ?_
      rotate_left
      · (intro w hSw; (try dsimp only at hSw); go_simp <;> with_reducible rfl)
      (try simp only [Act.put, qA, qB, qC])
      refine wpAnyH_take (i := 9) (oi := { dst := some 30, op := Op.fieldAddr 46 (Operand.tmp 3) 1, type := 0, pos := "cross.go:46", after := #[], guard := none }) (v := ?_) rfl (by kernel_rfl) (by kernel_rfl) (by kernel_rfl) (fun _ _ _ h => h) (Or.inl ⟨by rfl, ?_⟩) (by assumption) ?_
      rotate_left
      · (intro w hSw; (try dsimp only at hSw); go_simp <;> with_reducible rfl)
      (try simp only [Act.put, qA, qB, qC])
      refine wpAnyH_take (i := 10) (oi := { dst := some 31, op := Op.load 44 (Operand.tmp 30), type := 44, pos := "cross.go:46", after := #[{ on := 9, ground := Ground.data }], guard := none }) (v := ?_) rfl (by kernel_rfl) (by kernel_rfl) (by kernel_rfl) (fun _ _ _ h => h) (Or.inl ⟨by rfl, ?_⟩) (by assumption) ?_
      rotate_left
      · (intro w hSw; (try dsimp only at hSw); go_simp <;> with_reducible rfl)
      (try simp only [Act.put, qA, qB, qC])
      refine wpAnyH_take (i := 11) (oi := { dst := some 32, op := Op.fieldAddr 24 (Operand.tmp 5) 1, type := 0, pos := "cross.go:46", after := #[], guard := none }) (v := ?_) rfl (by kernel_rfl) (by kernel_rfl) (by kernel_rfl) (fun _ _ _ h => h) (Or.inl ⟨by rfl, ?_⟩) (by assumption) ?_
      rotate_left
      · (intro w hSw; (try dsimp only at hSw); go_simp <;> with_reducible rfl)
      (try simp only [Act.put, qA, qB, qC])
      refine wpAnyH_take (i := 12) (oi := { dst := some 33, op := Op.load 3 (Operand.tmp 32), type := 3, pos := "cross.go:46", after := #[{ on := 11, ground := Ground.data }], guard := none }) (v := ?_) rfl (by kernel_rfl) (by kernel_rfl) (by kernel_rfl) (fun _ _ _ h => h) (Or.inl ⟨by rfl, ?_⟩) (by assumption) ?_
      rotate_left
      · (intro w hSw; (try dsimp only at hSw); go_simp <;> with_reducible rfl)
      (try simp only [Act.put, qA, qB, qC])
      refine wpAnyH_take (i := 14) (oi := { dst := some 35, op := Op.fieldAddr 46 (Operand.tmp 3) 2, type := 0, pos := "cross.go:46", after := #[], guard := none }) (v := ?_) rfl (by kernel_rfl) (by kernel_rfl) (by kernel_rfl) (fun _ _ _ h => h) (Or.inl ⟨by rfl, ?_⟩) (by assumption) ?_
      rotate_left
      · (intro w hSw; (try dsimp only at hSw); go_simp <;> with_reducible rfl)
      (try simp only [Act.put, qA, qB, qC])
      refine wpAnyH_take (i := 15) (oi := { dst := some 36, op := Op.load 44 (Operand.tmp 35), type := 44, pos := "cross.go:46", after := #[{ on := 14, ground := Ground.data }], guard := none }) (v := ?_) rfl (by kernel_rfl) (by kernel_rfl) (by kernel_rfl) (fun _ _ _ h => h) (Or.inl ⟨by rfl, ?_⟩) (by assumption) ?_
      rotate_left
      · (intro w hSw; (try dsimp only at hSw); go_simp <;> with_reducible rfl)
      (try simp only [Act.put, qA, qB, qC])
      refine wpAnyH_ready (rs := [4, 19]) (by kernel_rfl) (by simp) ?_
      refine AllReadyH.cons (o := { dst := some 25, op := Op.call { callee := Callee.value (Operand.func 38), args := #[Operand.tmp 24], argTypes := #[3] }, type := 44, pos := "cross.go:47", after := #[{ on := 3, ground := Ground.data }], guard := none }) rfl (fun K hK => ?_) ?_
      · go_simp
        refine (O1 _).mono ?_
        rintro e w1 ⟨rfl, os4, m4, rfl⟩
        (try go_wp2_with fail)
        refine hK.out _ _ (by (try dsimp only); exact hSO _ (by with_reducible repeat (first | exact IsGr.refl _ | refine IsGr.gr ?_ _ _ | refine IsGr.alloc ?_ _ | refine IsGr.drew ?_ | refine IsGr.drewN ?_ _))) (fun hHeld2 => ?_)
        clear hK K hHeld
        have hHeld := hHeld2
        clear hHeld2
        (try simp only [Act.put, qA, qB, qC])
        refine wpAnyH_ready (rs := [7, 19]) (by kernel_rfl) (by simp) ?_
        refine AllReadyH.cons (o := { dst := some 28, op := Op.call { callee := Callee.value (Operand.func 70), args := #[Operand.tmp 25, Operand.tmp 27], argTypes := #[44, 44] }, type := 44, pos := "cross.go:47", after := #[{ on := 4, ground := Ground.data }, { on := 6, ground := Ground.data }, { on := 4, ground := Ground.chain }], guard := none }) rfl (fun K hK => ?_) ?_
        · go_simp
          refine (P1 _).mono ?_
          rintro e w1 ⟨rfl, os5, m5, rfl⟩
          (try go_wp2_with fail)
          refine hK.out _ _ (by (try dsimp only); exact hSO _ (by with_reducible repeat (first | exact IsGr.refl _ | refine IsGr.gr ?_ _ _ | refine IsGr.alloc ?_ _ | refine IsGr.drew ?_ | refine IsGr.drewN ?_ _))) (fun hHeld2 => ?_)
          clear hK K hHeld
          have hHeld := hHeld2
          clear hHeld2
          (try simp only [Act.put, qA, qB, qC])
          refine wpAnyH_ready (rs := [8, 19]) (by kernel_rfl) (by simp) ?_
          refine AllReadyH.cons (o := { dst := some 29, op := Op.call { callee := Callee.value (Operand.func 69), args := #[Operand.tmp 22, Operand.tmp 28], argTypes := #[44, 44] }, type := 44, pos := "cross.go:47", after := #[{ on := 1, ground := Ground.data }, { on := 7, ground := Ground.data }, { on := 7, ground := Ground.chain }], guard := none }) rfl (fun K hK => ?_) ?_
          · go_simp
            refine (D1 _).mono ?_
            rintro e w1 ⟨rfl, os6, m6, rfl⟩
            (try go_wp2_with fail)
            refine hK.out _ _ (by (try dsimp only); exact hSO _ (by with_reducible repeat (first | exact IsGr.refl _ | refine IsGr.gr ?_ _ _ | refine IsGr.alloc ?_ _ | refine IsGr.drew ?_ | refine IsGr.drewN ?_ _))) (fun hHeld2 => ?_)
            clear hK K hHeld
            have hHeld := hHeld2
            clear hHeld2
            (try simp only [Act.put, qA, qB, qC])
            refine wpAnyH_ready (rs := [13, 19]) (by kernel_rfl) (by simp) ?_
            refine AllReadyH.cons (o := { dst := some 34, op := Op.call { callee := Callee.value (Operand.func 38), args := #[Operand.tmp 33], argTypes := #[3] }, type := 44, pos := "cross.go:48", after := #[{ on := 12, ground := Ground.data }, { on := 8, ground := Ground.chain }], guard := none }) rfl (fun K hK => ?_) ?_
            · go_simp
              refine (O2 _).mono ?_
              rintro e w1 ⟨rfl, os7, m7, rfl⟩
              (try go_wp2_with fail)
              refine hK.out _ _ (by (try dsimp only); exact hSO _ (by with_reducible repeat (first | exact IsGr.refl _ | refine IsGr.gr ?_ _ _ | refine IsGr.alloc ?_ _ | refine IsGr.drew ?_ | refine IsGr.drewN ?_ _))) (fun hHeld2 => ?_)
              clear hK K hHeld
              have hHeld := hHeld2
              clear hHeld2
              (try simp only [Act.put, qA, qB, qC])
              refine wpAnyH_ready (rs := [16, 19]) (by kernel_rfl) (by simp) ?_
              refine AllReadyH.cons (o := { dst := some 37, op := Op.call { callee := Callee.value (Operand.func 70), args := #[Operand.tmp 34, Operand.tmp 36], argTypes := #[44, 44] }, type := 44, pos := "cross.go:48", after := #[{ on := 13, ground := Ground.data }, { on := 15, ground := Ground.data }, { on := 13, ground := Ground.chain }], guard := none }) rfl (fun K hK => ?_) ?_
              · go_simp
                refine (P2 _).mono ?_
                rintro e w1 ⟨rfl, os8, m8, rfl⟩
                (try go_wp2_with fail)
                refine hK.out _ _ (by (try dsimp only); exact hSO _ (by with_reducible repeat (first | exact IsGr.refl _ | refine IsGr.gr ?_ _ _ | refine IsGr.alloc ?_ _ | refine IsGr.drew ?_ | refine IsGr.drewN ?_ _))) (fun hHeld2 => ?_)
                clear hK K hHeld
                have hHeld := hHeld2
                clear hHeld2
                (try simp only [Act.put, qA, qB, qC])
                refine wpAnyH_ready (rs := [17, 19]) (by kernel_rfl) (by simp) ?_
                refine AllReadyH.cons (o := { dst := some 38, op := Op.call { callee := Callee.value (Operand.func 69), args := #[Operand.tmp 31, Operand.tmp 37], argTypes := #[44, 44] }, type := 44, pos := "cross.go:48", after := #[{ on := 10, ground := Ground.data }, { on := 16, ground := Ground.data }, { on := 16, ground := Ground.chain }], guard := none }) rfl (fun K hK => ?_) ?_
                · go_simp
                  refine (D2 _).mono ?_
                  rintro e w1 ⟨rfl, os9, m9, rfl⟩
                  (try go_wp2_with fail)
                  refine hK.out _ _ (by (try dsimp only); exact hSO _ (by with_reducible repeat (first | exact IsGr.refl _ | refine IsGr.gr ?_ _ _ | refine IsGr.alloc ?_ _ | refine IsGr.drew ?_ | refine IsGr.drewN ?_ _))) (fun hHeld2 => ?_)
                  clear hK K hHeld
                  have hHeld := hHeld2
                  clear hHeld2
                  (try simp only [Act.put, qA, qB, qC])
                  refine wpAnyH_take (i := 18) (oi := { dst := some 39, op := Op.build 98 #[(0, Operand.tmp 29), (1, Operand.tmp 38)], type := 98, pos := "cross.go:46", after := #[{ on := 8, ground := Ground.data }, { on := 17, ground := Ground.data }], guard := none }) (v := ?_) rfl (by kernel_rfl) (by kernel_rfl) (by kernel_rfl) (fun _ _ _ h => h) (Or.inl ⟨by rfl, ?_⟩) (by assumption) ?_
                  rotate_left
                  · (intro w hSw; (try dsimp only at hSw); go_simp <;> with_reducible rfl)
                  (try simp only [Act.put, qA, qB, qC])
                  refine wpAnyH_ready (rs := [19]) (by kernel_rfl) (by simp) ?_
                  refine AllReadyH.cons (o := { dst := some 7, op := Op.alloc 98, type := 0, pos := "cross.go:46", after := #[], guard := none }) rfl (fun K hK => ?_) ?_
                  · go_simp
                    refine hK.out _ _ (by (try dsimp only); exact hSO _ (by with_reducible repeat (first | exact IsGr.refl _ | refine IsGr.gr ?_ _ _ | refine IsGr.alloc ?_ _ | refine IsGr.drew ?_ | refine IsGr.drewN ?_ _))) (fun hHeld2 => ?_)
                    clear hK K hHeld
                    have hHeld := hHeld2
                    clear hHeld2
                    (try simp only [Act.put, qA, qB, qC])
                    refine wpAnyH_ready (rs := [20]) (by kernel_rfl) (by simp) ?_
                    refine AllReadyH.cons (o := { dst := none, op := Op.store 98 (Operand.tmp 7) (Operand.tmp 39), type := 0, pos := "cross.go:46", after := #[{ on := 19, ground := Ground.data }, { on := 18, ground := Ground.data }, { on := 17, ground := Ground.chain }, { on := 0, ground := Ground.phase }, { on := 1, ground := Ground.phase }, { on := 2, ground := Ground.phase }, { on := 3, ground := Ground.phase }, { on := 4, ground := Ground.phase }, { on := 5, ground := Ground.phase }, { on := 6, ground := Ground.phase }, { on := 7, ground := Ground.phase }, { on := 8, ground := Ground.phase }, { on := 9, ground := Ground.phase }, { on := 10, ground := Ground.phase }, { on := 11, ground := Ground.phase }, { on := 12, ground := Ground.phase }, { on := 13, ground := Ground.phase }, { on := 14, ground := Ground.phase }, { on := 15, ground := Ground.phase }, { on := 16, ground := Ground.phase }, { on := 17, ground := Ground.phase }, { on := 18, ground := Ground.phase }, { on := 19, ground := Ground.phase }], guard := none }) rfl (fun K hK => ?_) ?_
                    · go_simp
                      refine hK.out _ _ (by (try dsimp only); exact hSO _ (by with_reducible repeat (first | exact IsGr.refl _ | refine IsGr.gr ?_ _ _ | refine IsGr.alloc ?_ _ | refine IsGr.drew ?_ | refine IsGr.drewN ?_ _))) (fun hHeld2 => ?_)
                      clear hK K hHeld
                      have hHeld := hHeld2
                      clear hHeld2
                      (try simp only [Act.put, qA, qB, qC])
                      refine wpAnyH_done (by kernel_rfl) ?_ _
                      go_wp2
                      go_meet
                      case rel =>
                        refine ⟨_, rfl, ?_, ?_, (by with_reducible repeat (first | exact IsGr.refl _ | refine IsGr.gr ?_ _ _ | refine IsGr.alloc ?_ _ | refine IsGr.drew ?_ | refine IsGr.drewN ?_ _))⟩
                        · first | omega | (simp; done) | (simp [Gr.size]; done) | (simp [Gr.size]; omega)
                        · simp [go_sem]
                    exact AllReadyH.nil
                  exact AllReadyH.nil
                refine AllReadyH.cons (o := { dst := some 7, op := Op.alloc 98, type := 0, pos := "cross.go:46", after := #[], guard := none }) rfl (fun K hK => ?_) ?_
                · go_simp
                  refine hK.out _ _ (by (try dsimp only); exact hSO _ (by with_reducible repeat (first | exact IsGr.refl _ | refine IsGr.gr ?_ _ _ | refine IsGr.alloc ?_ _ | refine IsGr.drew ?_ | refine IsGr.drewN ?_ _))) (fun hHeld2 => ?_)
                  clear hK K hHeld
                  have hHeld := hHeld2
                  clear hHeld2
                  (try simp only [Act.put, qA, qB, qC])
                  refine wpAnyH_ready (rs := [17]) (by kernel_rfl) (by simp) ?_
                  refine AllReadyH.cons (o := { dst := some 38, op := Op.call { callee := Callee.value (Operand.func 69), args := #[Operand.tmp 31, Operand.tmp 37], argTypes := #[44, 44] }, type := 44, pos := "cross.go:48", after := #[{ on := 10, ground := Ground.data }, { on := 16, ground := Ground.data }, { on := 16, ground := Ground.chain }], guard := none }) rfl (fun K hK => ?_) ?_
                  · go_simp
                    refine (D2 _).mono ?_
                    rintro e w1 ⟨rfl, os9, m9, rfl⟩
                    (try go_wp2_with fail)
                    refine hK.out _ _ (by (try dsimp only); exact hSO _ (by with_reducible repeat (first | exact IsGr.refl _ | refine IsGr.gr ?_ _ _ | refine IsGr.alloc ?_ _ | refine IsGr.drew ?_ | refine IsGr.drewN ?_ _))) (fun hHeld2 => ?_)
                    clear hK K hHeld
                    have hHeld := hHeld2
                    clear hHeld2
                    (try simp only [Act.put, qA, qB, qC])
                    refine wpAnyH_take (i := 18) (oi := { dst := some 39, op := Op.build 98 #[(0, Operand.tmp 29), (1, Operand.tmp 38)], type := 98, pos := "cross.go:46", after := #[{ on := 8, ground := Ground.data }, { on := 17, ground := Ground.data }], guard := none }) (v := ?_) rfl (by kernel_rfl) (by kernel_rfl) (by kernel_rfl) (fun _ _ _ h => h) (Or.inl ⟨by rfl, ?_⟩) (by assumption) ?_
                    rotate_left
                    · (intro w hSw; (try dsimp only at hSw); go_simp <;> with_reducible rfl)
                    (try simp only [Act.put, qA, qB, qC])
                    refine wpAnyH_ready (rs := [20]) (by kernel_rfl) (by simp) ?_
                    refine AllReadyH.cons (o := { dst := none, op := Op.store 98 (Operand.tmp 7) (Operand.tmp 39), type := 0, pos := "cross.go:46", after := #[{ on := 19, ground := Ground.data }, { on := 18, ground := Ground.data }, { on := 17, ground := Ground.chain }, { on := 0, ground := Ground.phase }, { on := 1, ground := Ground.phase }, { on := 2, ground := Ground.phase }, { on := 3, ground := Ground.phase }, { on := 4, ground := Ground.phase }, { on := 5, ground := Ground.phase }, { on := 6, ground := Ground.phase }, { on := 7, ground := Ground.phase }, { on := 8, ground := Ground.phase }, { on := 9, ground := Ground.phase }, { on := 10, ground := Ground.phase }, { on := 11, ground := Ground.phase }, { on := 12, ground := Ground.phase }, { on := 13, ground := Ground.phase }, { on := 14, ground := Ground.phase }, { on := 15, ground := Ground.phase }, { on := 16, ground := Ground.phase }, { on := 17, ground := Ground.phase }, { on := 18, ground := Ground.phase }, { on := 19, ground := Ground.phase }], guard := none }) rfl (fun K hK => ?_) ?_
                    · go_simp
                      refine hK.out _ _ (by (try dsimp only); exact hSO _ (by with_reducible repeat (first | exact IsGr.refl _ | refine IsGr.gr ?_ _ _ | refine IsGr.alloc ?_ _ | refine IsGr.drew ?_ | refine IsGr.drewN ?_ _))) (fun hHeld2 => ?_)
                      clear hK K hHeld
                      have hHeld := hHeld2
                      clear hHeld2
                      (try simp only [Act.put, qA, qB, qC])
                      refine wpAnyH_done (by kernel_rfl) ?_ _
                      go_wp2
                      go_meet
                      case rel =>
                        refine ⟨_, rfl, ?_, ?_, (by with_reducible repeat (first | exact IsGr.refl _ | refine IsGr.gr ?_ _ _ | refine IsGr.alloc ?_ _ | refine IsGr.drew ?_ | refine IsGr.drewN ?_ _))⟩
                        · first | omega | (simp; done) | (simp [Gr.size]; done) | (simp [Gr.size]; omega)
                        · simp [go_sem]
                    exact AllReadyH.nil
                  exact AllReadyH.nil
                exact AllReadyH.nil
              refine AllReadyH.cons (o := { dst := some 7, op := Op.alloc 98, type := 0, pos := "cross.go:46", after := #[], guard := none }) rfl (fun K hK => ?_) ?_
              · go_simp
                refine hK.out _ _ (by (try dsimp only); exact hSO _ (by with_reducible repeat (first | exact IsGr.refl _ | refine IsGr.gr ?_ _ _ | refine IsGr.alloc ?_ _ | refine IsGr.drew ?_ | refine IsGr.drewN ?_ _))) (fun hHeld2 => ?_)
                clear hK K hHeld
                have hHeld := hHeld2
                clear hHeld2
                (try simp only [Act.put, qA, qB, qC])
                refine wpAnyH_ready (rs := [16]) (by kernel_rfl) (by simp) ?_
                refine AllReadyH.cons (o := { dst := some 37, op := Op.call { callee := Callee.value (Operand.func 70), args := #[Operand.tmp 34, Operand.tmp 36], argTypes := #[44, 44] }, type := 44, pos := "cross.go:48", after := #[{ on := 13, ground := Ground.data }, { on := 15, ground := Ground.data }, { on := 13, ground := Ground.chain }], guard := none }) rfl (fun K hK => ?_) ?_
                · go_simp
                  refine (P2 _).mono ?_
                  rintro e w1 ⟨rfl, os8, m8, rfl⟩
                  (try go_wp2_with fail)
                  refine hK.out _ _ (by (try dsimp only); exact hSO _ (by with_reducible repeat (first | exact IsGr.refl _ | refine IsGr.gr ?_ _ _ | refine IsGr.alloc ?_ _ | refine IsGr.drew ?_ | refine IsGr.drewN ?_ _))) (fun hHeld2 => ?_)
                  clear hK K hHeld
                  have hHeld := hHeld2
                  clear hHeld2
                  (try simp only [Act.put, qA, qB, qC])
                  refine wpAnyH_ready (rs := [17]) (by kernel_rfl) (by simp) ?_
                  refine AllReadyH.cons (o := { dst := some 38, op := Op.call { callee := Callee.value (Operand.func 69), args := #[Operand.tmp 31, Operand.tmp 37], argTypes := #[44, 44] }, type := 44, pos := "cross.go:48", after := #[{ on := 10, ground := Ground.data }, { on := 16, ground := Ground.data }, { on := 16, ground := Ground.chain }], guard := none }) rfl (fun K hK => ?_) ?_
                  · go_simp
                    refine (D2 _).mono ?_
                    rintro e w1 ⟨rfl, os9, m9, rfl⟩
                    (try go_wp2_with fail)
                    refine hK.out _ _ (by (try dsimp only); exact hSO _ (by with_reducible repeat (first | exact IsGr.refl _ | refine IsGr.gr ?_ _ _ | refine IsGr.alloc ?_ _ | refine IsGr.drew ?_ | refine IsGr.drewN ?_ _))) (fun hHeld2 => ?_)
                    clear hK K hHeld
                    have hHeld := hHeld2
                    clear hHeld2
                    (try simp only [Act.put, qA, qB, qC])
                    refine wpAnyH_take (i := 18) (oi := { dst := some 39, op := Op.build 98 #[(0, Operand.tmp 29), (1, Operand.tmp 38)], type := 98, pos := "cross.go:46", after := #[{ on := 8, ground := Ground.data }, { on := 17, ground := Ground.data }], guard := none }) (v := ?_) rfl (by kernel_rfl) (by kernel_rfl) (by kernel_rfl) (fun _ _ _ h => h) (Or.inl ⟨by rfl, ?_⟩) (by assumption) ?_
                    rotate_left
                    · (intro w hSw; (try dsimp only at hSw); go_simp <;> with_reducible rfl)
                    (try simp only [Act.put, qA, qB, qC])
                    refine wpAnyH_ready (rs := [20]) (by kernel_rfl) (by simp) ?_
                    refine AllReadyH.cons (o := { dst := none, op := Op.store 98 (Operand.tmp 7) (Operand.tmp 39), type := 0, pos := "cross.go:46", after := #[{ on := 19, ground := Ground.data }, { on := 18, ground := Ground.data }, { on := 17, ground := Ground.chain }, { on := 0, ground := Ground.phase }, { on := 1, ground := Ground.phase }, { on := 2, ground := Ground.phase }, { on := 3, ground := Ground.phase }, { on := 4, ground := Ground.phase }, { on := 5, ground := Ground.phase }, { on := 6, ground := Ground.phase }, { on := 7, ground := Ground.phase }, { on := 8, ground := Ground.phase }, { on := 9, ground := Ground.phase }, { on := 10, ground := Ground.phase }, { on := 11, ground := Ground.phase }, { on := 12, ground := Ground.phase }, { on := 13, ground := Ground.phase }, { on := 14, ground := Ground.phase }, { on := 15, ground := Ground.phase }, { on := 16, ground := Ground.phase }, { on := 17, ground := Ground.phase }, { on := 18, ground := Ground.phase }, { on := 19, ground := Ground.phase }], guard := none }) rfl (fun K hK => ?_) ?_
                    · go_simp
                      refine hK.out _ _ (by (try dsimp only); exact hSO _ (by with_reducible repeat (first | exact IsGr.refl _ | refine IsGr.gr ?_ _ _ | refine IsGr.alloc ?_ _ | refine IsGr.drew ?_ | refine IsGr.drewN ?_ _))) (fun hHeld2 => ?_)
                      clear hK K hHeld
                      have hHeld := hHeld2
                      clear hHeld2
                      (try simp only [Act.put, qA, qB, qC])
                      refine wpAnyH_done (by kernel_rfl) ?_ _
                      go_wp2
                      go_meet
                      case rel =>
                        refine ⟨_, rfl, ?_, ?_, (by with_reducible repeat (first | exact IsGr.refl _ | refine IsGr.gr ?_ _ _ | refine IsGr.alloc ?_ _ | refine IsGr.drew ?_ | refine IsGr.drewN ?_ _))⟩
                        · first | omega | (simp; done) | (simp [Gr.size]; done) | (simp [Gr.size]; omega)
                        · simp [go_sem]
                    exact AllReadyH.nil
                  exact AllReadyH.nil
                exact AllReadyH.nil
              exact AllReadyH.nil
            refine AllReadyH.cons (o := { dst := some 7, op := Op.alloc 98, type := 0, pos := "cross.go:46", after := #[], guard := none }) rfl (fun K hK => ?_) ?_
            · go_simp
              refine hK.out _ _ (by (try dsimp only); exact hSO _ (by with_reducible repeat (first | exact IsGr.refl _ | refine IsGr.gr ?_ _ _ | refine IsGr.alloc ?_ _ | refine IsGr.drew ?_ | refine IsGr.drewN ?_ _))) (fun hHeld2 => ?_)
              clear hK K hHeld
              have hHeld := hHeld2
              clear hHeld2
              (try simp only [Act.put, qA, qB, qC])
              refine wpAnyH_ready (rs := [13]) (by kernel_rfl) (by simp) ?_
              refine AllReadyH.cons (o := { dst := some 34, op := Op.call { callee := Callee.value (Operand.func 38), args := #[Operand.tmp 33], argTypes := #[3] }, type := 44, pos := "cross.go:48", after := #[{ on := 12, ground := Ground.data }, { on := 8, ground := Ground.chain }], guard := none }) rfl (fun K hK => ?_) ?_
              · go_simp
                refine (O2 _).mono ?_
                rintro e w1 ⟨rfl, os7, m7, rfl⟩
                (try go_wp2_with fail)
                refine hK.out _ _ (by (try dsimp only); exact hSO _ (by with_reducible repeat (first | exact IsGr.refl _ | refine IsGr.gr ?_ _ _ | refine IsGr.alloc ?_ _ | refine IsGr.drew ?_ | refine IsGr.drewN ?_ _))) (fun hHeld2 => ?_)
                clear hK K hHeld
                have hHeld := hHeld2
                clear hHeld2
                (try simp only [Act.put, qA, qB, qC])
                refine wpAnyH_ready (rs := [16]) (by kernel_rfl) (by simp) ?_
                refine AllReadyH.cons (o := { dst := some 37, op := Op.call { callee := Callee.value (Operand.func 70), args := #[Operand.tmp 34, Operand.tmp 36], argTypes := #[44, 44] }, type := 44, pos := "cross.go:48", after := #[{ on := 13, ground := Ground.data }, { on := 15, ground := Ground.data }, { on := 13, ground := Ground.chain }], guard := none }) rfl (fun K hK => ?_) ?_
                · go_simp
                  refine (P2 _).mono ?_
                  rintro e w1 ⟨rfl, os8, m8, rfl⟩
                  (try go_wp2_with fail)
                  refine hK.out _ _ (by (try dsimp only); exact hSO _ (by with_reducible repeat (first | exact IsGr.refl _ | refine IsGr.gr ?_ _ _ | refine IsGr.alloc ?_ _ | refine IsGr.drew ?_ | refine IsGr.drewN ?_ _))) (fun hHeld2 => ?_)
                  clear hK K hHeld
                  have hHeld := hHeld2
                  clear hHeld2
                  (try simp only [Act.put, qA, qB, qC])
                  refine wpAnyH_ready (rs := [17]) (by kernel_rfl) (by simp) ?_
                  refine AllReadyH.cons (o := { dst := some 38, op := Op.call { callee := Callee.value (Operand.func 69), args := #[Operand.tmp 31, Operand.tmp 37], argTypes := #[44, 44] }, type := 44, pos := "cross.go:48", after := #[{ on := 10, ground := Ground.data }, { on := 16, ground := Ground.data }, { on := 16, ground := Ground.chain }], guard := none }) rfl (fun K hK => ?_) ?_
                  · go_simp
                    refine (D2 _).mono ?_
                    rintro e w1 ⟨rfl, os9, m9, rfl⟩
                    (try go_wp2_with fail)
                    refine hK.out _ _ (by (try dsimp only); exact hSO _ (by with_reducible repeat (first | exact IsGr.refl _ | refine IsGr.gr ?_ _ _ | refine IsGr.alloc ?_ _ | refine IsGr.drew ?_ | refine IsGr.drewN ?_ _))) (fun hHeld2 => ?_)
                    clear hK K hHeld
                    have hHeld := hHeld2
                    clear hHeld2
                    (try simp only [Act.put, qA, qB, qC])
                    refine wpAnyH_take (i := 18) (oi := { dst := some 39, op := Op.build 98 #[(0, Operand.tmp 29), (1, Operand.tmp 38)], type := 98, pos := "cross.go:46", after := #[{ on := 8, ground := Ground.data }, { on := 17, ground := Ground.data }], guard := none }) (v := ?_) rfl (by kernel_rfl) (by kernel_rfl) (by kernel_rfl) (fun _ _ _ h => h) (Or.inl ⟨by rfl, ?_⟩) (by assumption) ?_
                    rotate_left
                    · (intro w hSw; (try dsimp only at hSw); go_simp <;> with_reducible rfl)
                    (try simp only [Act.put, qA, qB, qC])
                    refine wpAnyH_ready (rs := [20]) (by kernel_rfl) (by simp) ?_
                    refine AllReadyH.cons (o := { dst := none, op := Op.store 98 (Operand.tmp 7) (Operand.tmp 39), type := 0, pos := "cross.go:46", after := #[{ on := 19, ground := Ground.data }, { on := 18, ground := Ground.data }, { on := 17, ground := Ground.chain }, { on := 0, ground := Ground.phase }, { on := 1, ground := Ground.phase }, { on := 2, ground := Ground.phase }, { on := 3, ground := Ground.phase }, { on := 4, ground := Ground.phase }, { on := 5, ground := Ground.phase }, { on := 6, ground := Ground.phase }, { on := 7, ground := Ground.phase }, { on := 8, ground := Ground.phase }, { on := 9, ground := Ground.phase }, { on := 10, ground := Ground.phase }, { on := 11, ground := Ground.phase }, { on := 12, ground := Ground.phase }, { on := 13, ground := Ground.phase }, { on := 14, ground := Ground.phase }, { on := 15, ground := Ground.phase }, { on := 16, ground := Ground.phase }, { on := 17, ground := Ground.phase }, { on := 18, ground := Ground.phase }, { on := 19, ground := Ground.phase }], guard := none }) rfl (fun K hK => ?_) ?_
                    · go_simp
                      refine hK.out _ _ (by (try dsimp only); exact hSO _ (by with_reducible repeat (first | exact IsGr.refl _ | refine IsGr.gr ?_ _ _ | refine IsGr.alloc ?_ _ | refine IsGr.drew ?_ | refine IsGr.drewN ?_ _))) (fun hHeld2 => ?_)
                      clear hK K hHeld
                      have hHeld := hHeld2
                      clear hHeld2
                      (try simp only [Act.put, qA, qB, qC])
                      refine wpAnyH_done (by kernel_rfl) ?_ _
                      go_wp2
                      go_meet
                      case rel =>
                        refine ⟨_, rfl, ?_, ?_, (by with_reducible repeat (first | exact IsGr.refl _ | refine IsGr.gr ?_ _ _ | refine IsGr.alloc ?_ _ | refine IsGr.drew ?_ | refine IsGr.drewN ?_ _))⟩
                        · first | omega | (simp; done) | (simp [Gr.size]; done) | (simp [Gr.size]; omega)
                        · simp [go_sem]
                    exact AllReadyH.nil
                  exact AllReadyH.nil
                exact AllReadyH.nil
              exact AllReadyH.nil
            exact AllReadyH.nil
          refine AllReadyH.cons (o := { dst := some 7, op := Op.alloc 98, type := 0, pos := "cross.go:46", after := #[], guard := none }) rfl (fun K hK => ?_) ?_
          · go_simp
            refine hK.out _ _ (by (try dsimp only); exact hSO _ (by with_reducible repeat (first | exact IsGr.refl _ | refine IsGr.gr ?_ _ _ | refine IsGr.alloc ?_ _ | refine IsGr.drew ?_ | refine IsGr.drewN ?_ _))) (fun hHeld2 => ?_)
            clear hK K hHeld
            have hHeld := hHeld2
            clear hHeld2
            (try simp only [Act.put, qA, qB, qC])
            refine wpAnyH_ready (rs := [8]) (by kernel_rfl) (by simp) ?_
            refine AllReadyH.cons (o := { dst := some 29, op := Op.call { callee := Callee.value (Operand.func 69), args := #[Operand.tmp 22, Operand.tmp 28], argTypes := #[44, 44] }, type := 44, pos := "cross.go:47", after := #[{ on := 1, ground := Ground.data }, { on := 7, ground := Ground.data }, { on := 7, ground := Ground.chain }], guard := none }) rfl (fun K hK => ?_) ?_
            · go_simp
              refine (D1 _).mono ?_
              rintro e w1 ⟨rfl, os6, m6, rfl⟩
              (try go_wp2_with fail)
              refine hK.out _ _ (by (try dsimp only); exact hSO _ (by with_reducible repeat (first | exact IsGr.refl _ | refine IsGr.gr ?_ _ _ | refine IsGr.alloc ?_ _ | refine IsGr.drew ?_ | refine IsGr.drewN ?_ _))) (fun hHeld2 => ?_)
              clear hK K hHeld
              have hHeld := hHeld2
              clear hHeld2
              (try simp only [Act.put, qA, qB, qC])
              refine wpAnyH_ready (rs := [13]) (by kernel_rfl) (by simp) ?_
              refine AllReadyH.cons (o := { dst := some 34, op := Op.call { callee := Callee.value (Operand.func 38), args := #[Operand.tmp 33], argTypes := #[3] }, type := 44, pos := "cross.go:48", after := #[{ on := 12, ground := Ground.data }, { on := 8, ground := Ground.chain }], guard := none }) rfl (fun K hK => ?_) ?_
              · go_simp
                refine (O2 _).mono ?_
                rintro e w1 ⟨rfl, os7, m7, rfl⟩
                (try go_wp2_with fail)
                refine hK.out _ _ (by (try dsimp only); exact hSO _ (by with_reducible repeat (first | exact IsGr.refl _ | refine IsGr.gr ?_ _ _ | refine IsGr.alloc ?_ _ | refine IsGr.drew ?_ | refine IsGr.drewN ?_ _))) (fun hHeld2 => ?_)
                clear hK K hHeld
                have hHeld := hHeld2
                clear hHeld2
                (try simp only [Act.put, qA, qB, qC])
                refine wpAnyH_ready (rs := [16]) (by kernel_rfl) (by simp) ?_
                refine AllReadyH.cons (o := { dst := some 37, op := Op.call { callee := Callee.value (Operand.func 70), args := #[Operand.tmp 34, Operand.tmp 36], argTypes := #[44, 44] }, type := 44, pos := "cross.go:48", after := #[{ on := 13, ground := Ground.data }, { on := 15, ground := Ground.data }, { on := 13, ground := Ground.chain }], guard := none }) rfl (fun K hK => ?_) ?_
                · go_simp
                  refine (P2 _).mono ?_
                  rintro e w1 ⟨rfl, os8, m8, rfl⟩
                  (try go_wp2_with fail)
                  refine hK.out _ _ (by (try dsimp only); exact hSO _ (by with_reducible repeat (first | exact IsGr.refl _ | refine IsGr.gr ?_ _ _ | refine IsGr.alloc ?_ _ | refine IsGr.drew ?_ | refine IsGr.drewN ?_ _))) (fun hHeld2 => ?_)
                  clear hK K hHeld
                  have hHeld := hHeld2
                  clear hHeld2
                  (try simp only [Act.put, qA, qB, qC])
                  refine wpAnyH_ready (rs := [17]) (by kernel_rfl) (by simp) ?_
                  refine AllReadyH.cons (o := { dst := some 38, op := Op.call { callee := Callee.value (Operand.func 69), args := #[Operand.tmp 31, Operand.tmp 37], argTypes := #[44, 44] }, type := 44, pos := "cross.go:48", after := #[{ on := 10, ground := Ground.data }, { on := 16, ground := Ground.data }, { on := 16, ground := Ground.chain }], guard := none }) rfl (fun K hK => ?_) ?_
                  · go_simp
                    refine (D2 _).mono ?_
                    rintro e w1 ⟨rfl, os9, m9, rfl⟩
                    (try go_wp2_with fail)
                    refine hK.out _ _ (by (try dsimp only); exact hSO _ (by with_reducible repeat (first | exact IsGr.refl _ | refine IsGr.gr ?_ _ _ | refine IsGr.alloc ?_ _ | refine IsGr.drew ?_ | refine IsGr.drewN ?_ _))) (fun hHeld2 => ?_)
                    clear hK K hHeld
                    have hHeld := hHeld2
                    clear hHeld2
                    (try simp only [Act.put, qA, qB, qC])
                    refine wpAnyH_take (i := 18) (oi := { dst := some 39, op := Op.build 98 #[(0, Operand.tmp 29), (1, Operand.tmp 38)], type := 98, pos := "cross.go:46", after := #[{ on := 8, ground := Ground.data }, { on := 17, ground := Ground.data }], guard := none }) (v := ?_) rfl (by kernel_rfl) (by kernel_rfl) (by kernel_rfl) (fun _ _ _ h => h) (Or.inl ⟨by rfl, ?_⟩) (by assumption) ?_
                    rotate_left
                    · (intro w hSw; (try dsimp only at hSw); go_simp <;> with_reducible rfl)
                    (try simp only [Act.put, qA, qB, qC])
                    refine wpAnyH_ready (rs := [20]) (by kernel_rfl) (by simp) ?_
                    refine AllReadyH.cons (o := { dst := none, op := Op.store 98 (Operand.tmp 7) (Operand.tmp 39), type := 0, pos := "cross.go:46", after := #[{ on := 19, ground := Ground.data }, { on := 18, ground := Ground.data }, { on := 17, ground := Ground.chain }, { on := 0, ground := Ground.phase }, { on := 1, ground := Ground.phase }, { on := 2, ground := Ground.phase }, { on := 3, ground := Ground.phase }, { on := 4, ground := Ground.phase }, { on := 5, ground := Ground.phase }, { on := 6, ground := Ground.phase }, { on := 7, ground := Ground.phase }, { on := 8, ground := Ground.phase }, { on := 9, ground := Ground.phase }, { on := 10, ground := Ground.phase }, { on := 11, ground := Ground.phase }, { on := 12, ground := Ground.phase }, { on := 13, ground := Ground.phase }, { on := 14, ground := Ground.phase }, { on := 15, ground := Ground.phase }, { on := 16, ground := Ground.phase }, { on := 17, ground := Ground.phase }, { on := 18, ground := Ground.phase }, { on := 19, ground := Ground.phase }], guard := none }) rfl (fun K hK => ?_) ?_
                    · go_simp
                      refine hK.out _ _ (by (try dsimp only); exact hSO _ (by with_reducible repeat (first | exact IsGr.refl _ | refine IsGr.gr ?_ _ _ | refine IsGr.alloc ?_ _ | refine IsGr.drew ?_ | refine IsGr.drewN ?_ _))) (fun hHeld2 => ?_)
                      clear hK K hHeld
                      have hHeld := hHeld2
                      clear hHeld2
                      (try simp only [Act.put, qA, qB, qC])
                      refine wpAnyH_done (by kernel_rfl) ?_ _
                      go_wp2
                      go_meet
                      case rel =>
                        refine ⟨_, rfl, ?_, ?_, (by with_reducible repeat (first | exact IsGr.refl _ | refine IsGr.gr ?_ _ _ | refine IsGr.alloc ?_ _ | refine IsGr.drew ?_ | refine IsGr.drewN ?_ _))⟩
                        · first | omega | (simp; done) | (simp [Gr.size]; done) | (simp [Gr.size]; omega)
                        · simp [go_sem]
                    exact AllReadyH.nil
                  exact AllReadyH.nil
                exact AllReadyH.nil
              exact AllReadyH.nil
            exact AllReadyH.nil
          exact AllReadyH.nil
        refine AllReadyH.cons (o := { dst := some 7, op := Op.alloc 98, type := 0, pos := "cross.go:46", after := #[], guard := none }) rfl (fun K hK => ?_) ?_
        · go_simp
          refine hK.out _ _ (by (try dsimp only); exact hSO _ (by with_reducible repeat (first | exact IsGr.refl _ | refine IsGr.gr ?_ _ _ | refine IsGr.alloc ?_ _ | refine IsGr.drew ?_ | refine IsGr.drewN ?_ _))) (fun hHeld2 => ?_)
          clear hK K hHeld
          have hHeld := hHeld2
          clear hHeld2
          (try simp only [Act.put, qA, qB, qC])
          refine wpAnyH_ready (rs := [7]) (by kernel_rfl) (by simp) ?_
          refine AllReadyH.cons (o := { dst := some 28, op := Op.call { callee := Callee.value (Operand.func 70), args := #[Operand.tmp 25, Operand.tmp 27], argTypes := #[44, 44] }, type := 44, pos := "cross.go:47", after := #[{ on := 4, ground := Ground.data }, { on := 6, ground := Ground.data }, { on := 4, ground := Ground.chain }], guard := none }) rfl (fun K hK => ?_) ?_
          · go_simp
            refine (P1 _).mono ?_
            rintro e w1 ⟨rfl, os5, m5, rfl⟩
            (try go_wp2_with fail)
            refine hK.out _ _ (by (try dsimp only); exact hSO _ (by with_reducible repeat (first | exact IsGr.refl _ | refine IsGr.gr ?_ _ _ | refine IsGr.alloc ?_ _ | refine IsGr.drew ?_ | refine IsGr.drewN ?_ _))) (fun hHeld2 => ?_)
            clear hK K hHeld
            have hHeld := hHeld2
            clear hHeld2
            (try simp only [Act.put, qA, qB, qC])
            refine wpAnyH_ready (rs := [8]) (by kernel_rfl) (by simp) ?_
            refine AllReadyH.cons (o := { dst := some 29, op := Op.call { callee := Callee.value (Operand.func 69), args := #[Operand.tmp 22, Operand.tmp 28], argTypes := #[44, 44] }, type := 44, pos := "cross.go:47", after := #[{ on := 1, ground := Ground.data }, { on := 7, ground := Ground.data }, { on := 7, ground := Ground.chain }], guard := none }) rfl (fun K hK => ?_) ?_
            · go_simp
              refine (D1 _).mono ?_
              rintro e w1 ⟨rfl, os6, m6, rfl⟩
              (try go_wp2_with fail)
              refine hK.out _ _ (by (try dsimp only); exact hSO _ (by with_reducible repeat (first | exact IsGr.refl _ | refine IsGr.gr ?_ _ _ | refine IsGr.alloc ?_ _ | refine IsGr.drew ?_ | refine IsGr.drewN ?_ _))) (fun hHeld2 => ?_)
              clear hK K hHeld
              have hHeld := hHeld2
              clear hHeld2
              (try simp only [Act.put, qA, qB, qC])
              refine wpAnyH_ready (rs := [13]) (by kernel_rfl) (by simp) ?_
              refine AllReadyH.cons (o := { dst := some 34, op := Op.call { callee := Callee.value (Operand.func 38), args := #[Operand.tmp 33], argTypes := #[3] }, type := 44, pos := "cross.go:48", after := #[{ on := 12, ground := Ground.data }, { on := 8, ground := Ground.chain }], guard := none }) rfl (fun K hK => ?_) ?_
              · go_simp
                refine (O2 _).mono ?_
                rintro e w1 ⟨rfl, os7, m7, rfl⟩
                (try go_wp2_with fail)
                refine hK.out _ _ (by (try dsimp only); exact hSO _ (by with_reducible repeat (first | exact IsGr.refl _ | refine IsGr.gr ?_ _ _ | refine IsGr.alloc ?_ _ | refine IsGr.drew ?_ | refine IsGr.drewN ?_ _))) (fun hHeld2 => ?_)
                clear hK K hHeld
                have hHeld := hHeld2
                clear hHeld2
                (try simp only [Act.put, qA, qB, qC])
                refine wpAnyH_ready (rs := [16]) (by kernel_rfl) (by simp) ?_
                refine AllReadyH.cons (o := { dst := some 37, op := Op.call { callee := Callee.value (Operand.func 70), args := #[Operand.tmp 34, Operand.tmp 36], argTypes := #[44, 44] }, type := 44, pos := "cross.go:48", after := #[{ on := 13, ground := Ground.data }, { on := 15, ground := Ground.data }, { on := 13, ground := Ground.chain }], guard := none }) rfl (fun K hK => ?_) ?_
                · go_simp
                  refine (P2 _).mono ?_
                  rintro e w1 ⟨rfl, os8, m8, rfl⟩
                  (try go_wp2_with fail)
                  refine hK.out _ _ (by (try dsimp only); exact hSO _ (by with_reducible repeat (first | exact IsGr.refl _ | refine IsGr.gr ?_ _ _ | refine IsGr.alloc ?_ _ | refine IsGr.drew ?_ | refine IsGr.drewN ?_ _))) (fun hHeld2 => ?_)
                  clear hK K hHeld
                  have hHeld := hHeld2
                  clear hHeld2
                  (try simp only [Act.put, qA, qB, qC])
                  refine wpAnyH_ready (rs := [17]) (by kernel_rfl) (by simp) ?_
                  refine AllReadyH.cons (o := { dst := some 38, op := Op.call { callee := Callee.value (Operand.func 69), args := #[Operand.tmp 31, Operand.tmp 37], argTypes := #[44, 44] }, type := 44, pos := "cross.go:48", after := #[{ on := 10, ground := Ground.data }, { on := 16, ground := Ground.data }, { on := 16, ground := Ground.chain }], guard := none }) rfl (fun K hK => ?_) ?_
                  · go_simp
                    refine (D2 _).mono ?_
                    rintro e w1 ⟨rfl, os9, m9, rfl⟩
                    (try go_wp2_with fail)
                    refine hK.out _ _ (by (try dsimp only); exact hSO _ (by with_reducible repeat (first | exact IsGr.refl _ | refine IsGr.gr ?_ _ _ | refine IsGr.alloc ?_ _ | refine IsGr.drew ?_ | refine IsGr.drewN ?_ _))) (fun hHeld2 => ?_)
                    clear hK K hHeld
                    have hHeld := hHeld2
                    clear hHeld2
                    (try simp only [Act.put, qA, qB, qC])
                    refine wpAnyH_take (i := 18) (oi := { dst := some 39, op := Op.build 98 #[(0, Operand.tmp 29), (1, Operand.tmp 38)], type := 98, pos := "cross.go:46", after := #[{ on := 8, ground := Ground.data }, { on := 17, ground := Ground.data }], guard := none }) (v := ?_) rfl (by kernel_rfl) (by kernel_rfl) (by kernel_rfl) (fun _ _ _ h => h) (Or.inl ⟨by rfl, ?_⟩) (by assumption) ?_
                    rotate_left
                    · (intro w hSw; (try dsimp only at hSw); go_simp <;> with_reducible rfl)
                    (try simp only [Act.put, qA, qB, qC])
                    refine wpAnyH_ready (rs := [20]) (by kernel_rfl) (by simp) ?_
                    refine AllReadyH.cons (o := { dst := none, op := Op.store 98 (Operand.tmp 7) (Operand.tmp 39), type := 0, pos := "cross.go:46", after := #[{ on := 19, ground := Ground.data }, { on := 18, ground := Ground.data }, { on := 17, ground := Ground.chain }, { on := 0, ground := Ground.phase }, { on := 1, ground := Ground.phase }, { on := 2, ground := Ground.phase }, { on := 3, ground := Ground.phase }, { on := 4, ground := Ground.phase }, { on := 5, ground := Ground.phase }, { on := 6, ground := Ground.phase }, { on := 7, ground := Ground.phase }, { on := 8, ground := Ground.phase }, { on := 9, ground := Ground.phase }, { on := 10, ground := Ground.phase }, { on := 11, ground := Ground.phase }, { on := 12, ground := Ground.phase }, { on := 13, ground := Ground.phase }, { on := 14, ground := Ground.phase }, { on := 15, ground := Ground.phase }, { on := 16, ground := Ground.phase }, { on := 17, ground := Ground.phase }, { on := 18, ground := Ground.phase }, { on := 19, ground := Ground.phase }], guard := none }) rfl (fun K hK => ?_) ?_
                    · go_simp
                      refine hK.out _ _ (by (try dsimp only); exact hSO _ (by with_reducible repeat (first | exact IsGr.refl _ | refine IsGr.gr ?_ _ _ | refine IsGr.alloc ?_ _ | refine IsGr.drew ?_ | refine IsGr.drewN ?_ _))) (fun hHeld2 => ?_)
                      clear hK K hHeld
                      have hHeld := hHeld2
                      clear hHeld2
                      (try simp only [Act.put, qA, qB, qC])
                      refine wpAnyH_done (by kernel_rfl) ?_ _
                      go_wp2
                      go_meet
                      case rel =>
                        refine ⟨_, rfl, ?_, ?_, (by with_reducible repeat (first | exact IsGr.refl _ | refine IsGr.gr ?_ _ _ | refine IsGr.alloc ?_ _ | refine IsGr.drew ?_ | refine IsGr.drewN ?_ _))⟩
                        · first | omega | (simp; done) | (simp [Gr.size]; done) | (simp [Gr.size]; omega)
                        · simp [go_sem]
                    exact AllReadyH.nil
                  exact AllReadyH.nil
                exact AllReadyH.nil
              exact AllReadyH.nil
            exact AllReadyH.nil
          exact AllReadyH.nil
        exact AllReadyH.nil
      refine AllReadyH.cons (o := { dst := some 7, op := Op.alloc 98, type := 0, pos := "cross.go:46", after := #[], guard := none }) rfl (fun K hK => ?_) ?_
      · go_simp
        refine hK.out _ _ (by (try dsimp only); exact hSO _ (by with_reducible repeat (first | exact IsGr.refl _ | refine IsGr.gr ?_ _ _ | refine IsGr.alloc ?_ _ | refine IsGr.drew ?_ | refine IsGr.drewN ?_ _))) (fun hHeld2 => ?_)
        clear hK K hHeld
        have hHeld := hHeld2
        clear hHeld2
        (try simp only [Act.put, qA, qB, qC])
        refine wpAnyH_ready (rs := [4]) (by kernel_rfl) (by simp) ?_
        refine AllReadyH.cons (o := { dst := some 25, op := Op.call { callee := Callee.value (Operand.func 38), args := #[Operand.tmp 24], argTypes := #[3] }, type := 44, pos := "cross.go:47", after := #[{ on := 3, ground := Ground.data }], guard := none }) rfl (fun K hK => ?_) ?_
        · go_simp
          refine (O1 _).mono ?_
          rintro e w1 ⟨rfl, os4, m4, rfl⟩
          (try go_wp2_with fail)
          refine hK.out _ _ (by (try dsimp only); exact hSO _ (by with_reducible repeat (first | exact IsGr.refl _ | refine IsGr.gr ?_ _ _ | refine IsGr.alloc ?_ _ | refine IsGr.drew ?_ | refine IsGr.drewN ?_ _))) (fun hHeld2 => ?_)
          clear hK K hHeld
          have hHeld := hHeld2
          clear hHeld2
          (try simp only [Act.put, qA, qB, qC])
          refine wpAnyH_ready (rs := [7]) (by kernel_rfl) (by simp) ?_
          refine AllReadyH.cons (o := { dst := some 28, op := Op.call { callee := Callee.value (Operand.func 70), args := #[Operand.tmp 25, Operand.tmp 27], argTypes := #[44, 44] }, type := 44, pos := "cross.go:47", after := #[{ on := 4, ground := Ground.data }, { on := 6, ground := Ground.data }, { on := 4, ground := Ground.chain }], guard := none }) rfl (fun K hK => ?_) ?_
          · go_simp
            refine (P1 _).mono ?_
            rintro e w1 ⟨rfl, os5, m5, rfl⟩
            (try go_wp2_with fail)
            refine hK.out _ _ (by (try dsimp only); exact hSO _ (by with_reducible repeat (first | exact IsGr.refl _ | refine IsGr.gr ?_ _ _ | refine IsGr.alloc ?_ _ | refine IsGr.drew ?_ | refine IsGr.drewN ?_ _))) (fun hHeld2 => ?_)
            clear hK K hHeld
            have hHeld := hHeld2
            clear hHeld2
            (try simp only [Act.put, qA, qB, qC])
            refine wpAnyH_ready (rs := [8]) (by kernel_rfl) (by simp) ?_
            refine AllReadyH.cons (o := { dst := some 29, op := Op.call { callee := Callee.value (Operand.func 69), args := #[Operand.tmp 22, Operand.tmp 28], argTypes := #[44, 44] }, type := 44, pos := "cross.go:47", after := #[{ on := 1, ground := Ground.data }, { on := 7, ground := Ground.data }, { on := 7, ground := Ground.chain }], guard := none }) rfl (fun K hK => ?_) ?_
            · go_simp
              refine (D1 _).mono ?_
              rintro e w1 ⟨rfl, os6, m6, rfl⟩
              (try go_wp2_with fail)
              refine hK.out _ _ (by (try dsimp only); exact hSO _ (by with_reducible repeat (first | exact IsGr.refl _ | refine IsGr.gr ?_ _ _ | refine IsGr.alloc ?_ _ | refine IsGr.drew ?_ | refine IsGr.drewN ?_ _))) (fun hHeld2 => ?_)
              clear hK K hHeld
              have hHeld := hHeld2
              clear hHeld2
              (try simp only [Act.put, qA, qB, qC])
              refine wpAnyH_ready (rs := [13]) (by kernel_rfl) (by simp) ?_
              refine AllReadyH.cons (o := { dst := some 34, op := Op.call { callee := Callee.value (Operand.func 38), args := #[Operand.tmp 33], argTypes := #[3] }, type := 44, pos := "cross.go:48", after := #[{ on := 12, ground := Ground.data }, { on := 8, ground := Ground.chain }], guard := none }) rfl (fun K hK => ?_) ?_
              · go_simp
                refine (O2 _).mono ?_
                rintro e w1 ⟨rfl, os7, m7, rfl⟩
                (try go_wp2_with fail)
                refine hK.out _ _ (by (try dsimp only); exact hSO _ (by with_reducible repeat (first | exact IsGr.refl _ | refine IsGr.gr ?_ _ _ | refine IsGr.alloc ?_ _ | refine IsGr.drew ?_ | refine IsGr.drewN ?_ _))) (fun hHeld2 => ?_)
                clear hK K hHeld
                have hHeld := hHeld2
                clear hHeld2
                (try simp only [Act.put, qA, qB, qC])
                refine wpAnyH_ready (rs := [16]) (by kernel_rfl) (by simp) ?_
                refine AllReadyH.cons (o := { dst := some 37, op := Op.call { callee := Callee.value (Operand.func 70), args := #[Operand.tmp 34, Operand.tmp 36], argTypes := #[44, 44] }, type := 44, pos := "cross.go:48", after := #[{ on := 13, ground := Ground.data }, { on := 15, ground := Ground.data }, { on := 13, ground := Ground.chain }], guard := none }) rfl (fun K hK => ?_) ?_
                · go_simp
                  refine (P2 _).mono ?_
                  rintro e w1 ⟨rfl, os8, m8, rfl⟩
                  (try go_wp2_with fail)
                  refine hK.out _ _ (by (try dsimp only); exact hSO _ (by with_reducible repeat (first | exact IsGr.refl _ | refine IsGr.gr ?_ _ _ | refine IsGr.alloc ?_ _ | refine IsGr.drew ?_ | refine IsGr.drewN ?_ _))) (fun hHeld2 => ?_)
                  clear hK K hHeld
                  have hHeld := hHeld2
                  clear hHeld2
                  (try simp only [Act.put, qA, qB, qC])
                  refine wpAnyH_ready (rs := [17]) (by kernel_rfl) (by simp) ?_
                  refine AllReadyH.cons (o := { dst := some 38, op := Op.call { callee := Callee.value (Operand.func 69), args := #[Operand.tmp 31, Operand.tmp 37], argTypes := #[44, 44] }, type := 44, pos := "cross.go:48", after := #[{ on := 10, ground := Ground.data }, { on := 16, ground := Ground.data }, { on := 16, ground := Ground.chain }], guard := none }) rfl (fun K hK => ?_) ?_
                  · go_simp
                    refine (D2 _).mono ?_
                    rintro e w1 ⟨rfl, os9, m9, rfl⟩
                    (try go_wp2_with fail)
                    refine hK.out _ _ (by (try dsimp only); exact hSO _ (by with_reducible repeat (first | exact IsGr.refl _ | refine IsGr.gr ?_ _ _ | refine IsGr.alloc ?_ _ | refine IsGr.drew ?_ | refine IsGr.drewN ?_ _))) (fun hHeld2 => ?_)
                    clear hK K hHeld
                    have hHeld := hHeld2
                    clear hHeld2
                    (try simp only [Act.put, qA, qB, qC])
                    refine wpAnyH_take (i := 18) (oi := { dst := some 39, op := Op.build 98 #[(0, Operand.tmp 29), (1, Operand.tmp 38)], type := 98, pos := "cross.go:46", after := #[{ on := 8, ground := Ground.data }, { on := 17, ground := Ground.data }], guard := none }) (v := ?_) rfl (by kernel_rfl) (by kernel_rfl) (by kernel_rfl) (fun _ _ _ h => h) (Or.inl ⟨by rfl, ?_⟩) (by assumption) ?_
                    rotate_left
                    · (intro w hSw; (try dsimp only at hSw); go_simp <;> with_reducible rfl)
                    (try simp only [Act.put, qA, qB, qC])
                    refine wpAnyH_ready (rs := [20]) (by kernel_rfl) (by simp) ?_
                    refine AllReadyH.cons (o := { dst := none, op := Op.store 98 (Operand.tmp 7) (Operand.tmp 39), type := 0, pos := "cross.go:46", after := #[{ on := 19, ground := Ground.data }, { on := 18, ground := Ground.data }, { on := 17, ground := Ground.chain }, { on := 0, ground := Ground.phase }, { on := 1, ground := Ground.phase }, { on := 2, ground := Ground.phase }, { on := 3, ground := Ground.phase }, { on := 4, ground := Ground.phase }, { on := 5, ground := Ground.phase }, { on := 6, ground := Ground.phase }, { on := 7, ground := Ground.phase }, { on := 8, ground := Ground.phase }, { on := 9, ground := Ground.phase }, { on := 10, ground := Ground.phase }, { on := 11, ground := Ground.phase }, { on := 12, ground := Ground.phase }, { on := 13, ground := Ground.phase }, { on := 14, ground := Ground.phase }, { on := 15, ground := Ground.phase }, { on := 16, ground := Ground.phase }, { on := 17, ground := Ground.phase }, { on := 18, ground := Ground.phase }, { on := 19, ground := Ground.phase }], guard := none }) rfl (fun K hK => ?_) ?_
                    · go_simp
                      refine hK.out _ _ (by (try dsimp only); exact hSO _ (by with_reducible repeat (first | exact IsGr.refl _ | refine IsGr.gr ?_ _ _ | refine IsGr.alloc ?_ _ | refine IsGr.drew ?_ | refine IsGr.drewN ?_ _))) (fun hHeld2 => ?_)
                      clear hK K hHeld
                      have hHeld := hHeld2
                      clear hHeld2
                      (try simp only [Act.put, qA, qB, qC])
                      refine wpAnyH_done (by kernel_rfl) ?_ _
                      go_wp2
                      go_meet
                      case rel =>
                        refine ⟨_, rfl, ?_, ?_, (by with_reducible repeat (first | exact IsGr.refl _ | refine IsGr.gr ?_ _ _ | refine IsGr.alloc ?_ _ | refine IsGr.drew ?_ | refine IsGr.drewN ?_ _))⟩
                        · first | omega | (simp; done) | (simp [Gr.size]; done) | (simp [Gr.size]; omega)
                        · simp [go_sem]
                    exact AllReadyH.nil
                  exact AllReadyH.nil
                exact AllReadyH.nil
              exact AllReadyH.nil
            exact AllReadyH.nil
          exact AllReadyH.nil
        exact AllReadyH.nil
      exact AllReadyH.nil
    case rest =>
      obtain ⟨gt, rfl, kt, ht5, hgr⟩ := hcut
      obtain ⟨W2, hW9⟩ : ∃ W2, W2 = wc := ⟨_, rfl⟩
      subst hW9
      replace ha5 := (hSO _ hgr).1
      replace HG : Hid (IsGr w W2) := HG.out.trans hgr
      have hsz := hgr.size
      replace ks : w.heap.size + 2 ≤ W2.heap.size := by omega
      clear hSO hgr hsz k5
      go_upto_region 5 with fail
      obtain ⟨C, hin, hcl, hcells, hgr⟩ : ∃ C : World → Prop, (∀ w', W2.heap.size ≤ w'.heap.size ∧ IsGr W2 w' ∧ (w'.cell? ⟨w.heap.size, 0, none⟩ = some (.int .i64 a1) ∧ w'.cell? ⟨w.heap.size, 1, none⟩ = some (.int .i64 a2) ∧ w'.cell? ⟨w.heap.size, 2, none⟩ = some (.int .i64 b1) ∧ w'.cell? ⟨w.heap.size, 3, none⟩ = some (.int .i64 b2)) ∧ (w'.cell? ⟨gt, 0, none⟩ = some (.int .u64 (wd0 E)) ∧ w'.cell? ⟨gt, 1, none⟩ = some (.int .u64 (wd1 E)) ∧ w'.cell? ⟨gt, 2, none⟩ = some (.int .u64 (wd2 E)) ∧ w'.cell? ⟨gt, 3, none⟩ = some (.int .u64 (wd3 E)) ∧ w'.cell? ⟨gt, 4, none⟩ = some (.int .u64 (wd0 F)) ∧ w'.cell? ⟨gt, 5, none⟩ = some (.int .u64 (wd1 F)) ∧ w'.cell? ⟨gt, 6, none⟩ = some (.int .u64 (wd2 F)) ∧ w'.cell? ⟨gt, 7, none⟩ = some (.int .u64 (wd3 F))) → C w') ∧ (∀ u u', C u → IsGr u u' → C u') ∧ (∀ w', C w' → (w'.cell? ⟨w.heap.size, 0, none⟩ = some (.int .i64 a1) ∧ w'.cell? ⟨w.heap.size, 1, none⟩ = some (.int .i64 a2) ∧ w'.cell? ⟨w.heap.size, 2, none⟩ = some (.int .i64 b1) ∧ w'.cell? ⟨w.heap.size, 3, none⟩ = some (.int .i64 b2)) ∧ (w'.cell? ⟨gt, 0, none⟩ = some (.int .u64 (wd0 E)) ∧ w'.cell? ⟨gt, 1, none⟩ = some (.int .u64 (wd1 E)) ∧ w'.cell? ⟨gt, 2, none⟩ = some (.int .u64 (wd2 E)) ∧ w'.cell? ⟨gt, 3, none⟩ = some (.int .u64 (wd3 E)) ∧ w'.cell? ⟨gt, 4, none⟩ = some (.int .u64 (wd0 F)) ∧ w'.cell? ⟨gt, 5, none⟩ = some (.int .u64 (wd1 F)) ∧ w'.cell? ⟨gt, 6, none⟩ = some (.int .u64 (wd2 F)) ∧ w'.cell? ⟨gt, 7, none⟩ = some (.int .u64 (wd3 F)))) ∧ (∀ w', C w' → IsGr W2 w' ∧ W2.heap.size ≤ w'.heap.size) := by
        refine ⟨fun w' => W2.heap.size ≤ w'.heap.size ∧ IsGr W2 w' ∧ (w'.cell? ⟨w.heap.size, 0, none⟩ = some (.int .i64 a1) ∧ w'.cell? ⟨w.heap.size, 1, none⟩ = some (.int .i64 a2) ∧ w'.cell? ⟨w.heap.size, 2, none⟩ = some (.int .i64 b1) ∧ w'.cell? ⟨w.heap.size, 3, none⟩ = some (.int .i64 b2)) ∧ (w'.cell? ⟨gt, 0, none⟩ = some (.int .u64 (wd0 E)) ∧ w'.cell? ⟨gt, 1, none⟩ = some (.int .u64 (wd1 E)) ∧ w'.cell? ⟨gt, 2, none⟩ = some (.int .u64 (wd2 E)) ∧ w'.cell? ⟨gt, 3, none⟩ = some (.int .u64 (wd3 E)) ∧ w'.cell? ⟨gt, 4, none⟩ = some (.int .u64 (wd0 F)) ∧ w'.cell? ⟨gt, 5, none⟩ = some (.int .u64 (wd1 F)) ∧ w'.cell? ⟨gt, 6, none⟩ = some (.int .u64 (wd2 F)) ∧ w'.cell? ⟨gt, 7, none⟩ = some (.int .u64 (wd3 F))), fun w' h => h, ?_, fun w' h => h.2.2, fun w' h => ⟨h.2.1, h.1⟩⟩
        rintro u u' ⟨h0, h1, h2⟩ hg
        refine ⟨Nat.le_trans h0 hg.size, h1.trans hg, ?_⟩
        exact ⟨⟨hg.cell_at (by omega) h2.1.1, hg.cell_at (by omega) h2.1.2.1, hg.cell_at (by omega) h2.1.2.2.1, hg.cell_at (by omega) h2.1.2.2.2⟩, ⟨hg.cell_at (by omega) h2.2.1, hg.cell_at (by omega) h2.2.2.1, hg.cell_at (by omega) h2.2.2.2.1, hg.cell_at (by omega) h2.2.2.2.2.1, hg.cell_at (by omega) h2.2.2.2.2.2.1, hg.cell_at (by omega) h2.2.2.2.2.2.2.1, hg.cell_at (by omega) h2.2.2.2.2.2.2.2.1, hg.cell_at (by omega) h2.2.2.2.2.2.2.2.2⟩⟩
      refine wp_region_quietV C (by kernel_rfl) (by kernel_rfl) (hin _ ⟨by simp, (by with_reducible repeat (first | exact IsGr.refl _ | refine IsGr.gr ?_ _ _ | refine IsGr.alloc ?_ _ | refine IsGr.drew ?_ | refine IsGr.drewN ?_ _)), ⟨ha5, ht5⟩⟩) (fun K HK => ?_)
      refine QK.take HK ?_ (by rfl) ?_ ?_
      rotate_left
      · (intro w hw; (try have hcs := hcells w hw); (try go_split_ands); go_simp <;> with_reducible rfl)
      (try simp only [Act.put, qA, qB, qC])
      refine QK.call HK 71 #[.agg #[.int .i64 a1, .int .i64 a2, .int .i64 b1, .int .i64 b2]] (.agg #[.int .u64 (wd0 U), .int .u64 (wd1 U), .int .u64 (wd2 U), .int .u64 (wd3 U), .int .u64 (wd0 V), .int .u64 (wd1 V), .int .u64 (wd2 V), .int .u64 (wd3 V)]) hcl (by rfl) (fun w => by go_simp) CW ?_
      (try simp only [Act.put, qA, qB, qC])
      refine QK.take HK ?_ (by rfl) ?_ ?_
      rotate_left
      · (intro w hw; (try have hcs := hcells w hw); (try go_split_ands); go_simp <;> with_reducible rfl)
      (try simp only [Act.put, qA, qB, qC])
      refine QK.call HK 72 #[.agg #[.int .u64 (wd0 U), .int .u64 (wd1 U), .int .u64 (wd2 U), .int .u64 (wd3 U), .int .u64 (wd0 V), .int .u64 (wd1 V), .int .u64 (wd2 V), .int .u64 (wd3 V)], .agg #[.int .u64 (wd0 E), .int .u64 (wd1 E), .int .u64 (wd2 E), .int .u64 (wd3 E), .int .u64 (wd0 F), .int .u64 (wd1 F), .int .u64 (wd2 F), .int .u64 (wd3 F)]] (.agg #[.int .u64 (wd0 T), .int .u64 (wd1 T), .int .u64 (wd2 T), .int .u64 (wd3 T)]) hcl (by rfl) (fun w => by go_simp) CT ?_
      (try simp only [Act.put, qA, qB, qC])
      refine QK.call HK 73 #[.agg #[.int .u64 (wd0 T), .int .u64 (wd1 T), .int .u64 (wd2 T), .int .u64 (wd3 T)]] (.int .i64 R) hcl (by rfl) (fun w => by go_simp) CS ?_
      (try simp only [Act.put, qA, qB, qC])
      refine QK.take HK ?_ (by rfl) ?_ ?_
      rotate_left
      · (intro w hw; (try have hcs := hcells w hw); (try go_split_ands); go_simp <;> with_reducible rfl)
      (try simp only [Act.put, qA, qB, qC])
      refine QK.nil HK ?_
      clear HK K
      intro wq hq
      have hg := (hgr wq hq).1
      clear hcells hin hcl hgr hq
      go_wp2
      go_ret
      exact ⟨rfl, HG.out.trans hg⟩


end Go.Proofs.Ytohhlhoijanjfaa
namespace Go.Proofs.Ytohhlhoijanjfaa
open Go.RowKit Go.Shelf

theorem fDiv (x y : Int) (hx : Fit x) (hy : Fit y) (h0 : 0 < y) (w : World) :
    Calls Try.prog 99 #[.agg #[.int .u64 (wd0 x), .int .u64 (wd1 x), .int .u64 (wd2 x), .int .u64 (wd3 x)], .agg #[.int .u64 (wd0 y), .int .u64 (wd1 y), .int .u64 (wd2 y), .int .u64 (wd3 y)]] w fun e w' => e = .returned (.tuple #[.agg #[.int .u64 (wd0 (x.fdiv y)), .int .u64 (wd1 (x.fdiv y)), .int .u64 (wd2 (x.fdiv y)), .int .u64 (wd3 (x.fdiv y))], .agg #[.int .u64 (wd0 (x.fmod y)), .int .u64 (wd1 (x.fmod y)), .int .u64 (wd2 (x.fmod y)), .int .u64 (wd3 (x.fmod y))], .bool true]) ∧ IsGr w w' := by
  refine (Div_all _ _ _ _ x _ _ _ _ y (wd_is hx) (wd_is hy) w).mono ?_
  rintro e w' ⟨s0, s1, s2, s3, r0, r1, r2, r3, ok, rfl, hD, hg⟩
  rcases hD with ⟨rfl, _, hq, hr⟩ | ⟨_, h, _⟩
  · obtain ⟨rfl, rfl, rfl, rfl⟩ := wd_eq hq
    obtain ⟨rfl, rfl, rfl, rfl⟩ := wd_eq hr
    exact ⟨rfl, hg⟩
  · omega
end Go.Proofs.Ytohhlhoijanjfaa
namespace Go.Proofs.Ytohhlhoijanjfaa
open Go.RowKit Go.Shelf
attribute [local go_sem] Gr.size Gr.cell? Gr.frozen? Gr.setCell Gr.drew Gr.drewN Gr.of_drew Gr.of_drewN Gr.gr Gr.lt_of1 Gr.le_of1 Gr.lt_of2 Gr.le_of2 Gr.lt_of3 Gr.le_of3 Gr.lt_of4 Gr.le_of4 Gr.lt_of5 Gr.le_of5 Gr.lt_of6 Gr.le_of6 Gr.lt_of7 Gr.le_of7 Gr.lt_of8 Gr.le_of8 Gr.lt_of9 Gr.le_of9 Gr.lt_of10 Gr.le_of10 Gr.lt_of11 Gr.le_of11 Gr.lt_of12 Gr.le_of12 Gr.lt_of13 Gr.le_of13 Gr.lt_of14 Gr.le_of14 Gr.lt_of15 Gr.le_of15 Gr.lt_of16 Gr.le_of16 Gr.lt_of17 Gr.le_of17 Gr.lt_of18 Gr.le_of18 Gr.lt_of19 Gr.le_of19 Gr.lt_of20 Gr.le_of20 Gr.lt_of21 Gr.le_of21 Gr.lt_of22 Gr.le_of22 Gr.lt_of23 Gr.le_of23 Gr.lt_of24 Gr.le_of24

theorem fdiv_bound {n z : Int} (hz : 1 ≤ z) (h : -(2199023255552 * z) ≤ n ∧ n ≤ 2199023255552 * z) : -2199023255552 ≤ n.fdiv z ∧ n.fdiv z ≤ 2199023255552 := by
  rw [Int.fdiv_eq_ediv_of_nonneg _ (by omega)]
  constructor
  · apply Int.le_ediv_of_mul_le (by omega)
    have : -2199023255552 * z = -(2199023255552 * z) := by rw [Int.neg_mul]
    omega
  · apply Int.ediv_le_of_le_mul (by omega)
    omega
theorem fmod_bound {n z : Int} (hz : 1 ≤ z) : 0 ≤ n.fmod z ∧ n.fmod z < z := by
  rw [Int.fmod_eq_emod_of_nonneg _ (by omega)]
  exact ⟨Int.emod_nonneg _ (by omega), Int.emod_lt_of_pos _ (by omega)⟩


set_option maxRecDepth 20000 in set_option maxHeartbeats 2000000 in
theorem quotient_any (n z : Int) (hn : Fit n) (hz : Fit z) (h0 : 1 ≤ z) (hb : -(2199023255552 * z) ≤ n ∧ n ≤ 2199023255552 * z) (w : World) :
    Calls Try.prog 77 #[.agg #[.int .u64 (wd0 n), .int .u64 (wd1 n), .int .u64 (wd2 n), .int .u64 (wd3 n)], .agg #[.int .u64 (wd0 z), .int .u64 (wd1 z), .int .u64 (wd2 z), .int .u64 (wd3 z)]] w fun e w' => e = .returned (.tuple #[.int .i64 (if n.fmod z = 0 then n.fdiv z else 0), .bool (decide (n.fmod z = 0))]) ∧ IsGr w w' := by
  have b1 := fdiv_bound h0 hb
  have b2 := fmod_bound (n := n) h0
  have C1 := fun w => fDiv n z hn hz (by omega) w
  have C2 := fun w => fSign (n.fmod z) (by unfold Fit at *; omega) w
  have C3 := fun w => fSmall (n.fdiv z) (by unfold Fit at *; omega) w
  have e1 : small (n.fdiv z) = true := by unfold small; simp; omega
  rw [e1] at C3
  clear hn hz h0 hb b1 b2 e1
  generalize n.fdiv z = Q at *
  generalize n.fmod z = R at *
  by_cases hR : R = 0
  · subst hR
    rw [cmpI_eq rfl] at C2
    rw [if_pos rfl, show decide ((0 : Int) = 0) = true from rfl]
    go_enter Try.func77, Try.ntmps77
    go_wp2_with fail
    refine (C1 _).mono ?_
    rintro e w1 ⟨rfl, os1, m1, rfl⟩
    go_wp2_with fail
    refine (C2 _).mono ?_
    rintro e w1 ⟨rfl, os2, m2, rfl⟩
    go_wp2_with fail
    refine (C3 _).mono ?_
    rintro e w1 ⟨rfl, os3, m3, rfl⟩
    go_wp2
    exact bodyPost_ret (v := .tuple #[.int .i64 Q, .bool true]) (by simp [results, Try.results77, go_sem]) rfl ⟨rfl, (by with_reducible repeat (first | exact IsGr.refl _ | refine IsGr.gr ?_ _ _ | refine IsGr.alloc ?_ _ | refine IsGr.drew ?_ | refine IsGr.drewN ?_ _))⟩
  · have hX : (cmpI R 0 == 0) = false := by
      rcases cmpI_cases R 0 with ⟨e, g⟩ | ⟨e, g⟩ | ⟨e, g⟩
      · rw [e]; rfl
      · exact absurd g hR
      · rw [e]; rfl
    rw [if_neg hR, show decide (R = 0) = false by simp [hR]]
    generalize cmpI R 0 = X at *
    clear hR
    go_enter Try.func77, Try.ntmps77
    go_wp2_with fail
    refine (C1 _).mono ?_
    rintro e w1 ⟨rfl, os1, m1, rfl⟩
    go_wp2_with fail
    refine (C2 _).mono ?_
    rintro e w1 ⟨rfl, os2, m2, rfl⟩
    go_wp2
    exact bodyPost_ret (v := .tuple #[.int .i64 0, .bool false]) (by simp [results, Try.results77, go_sem]) rfl ⟨rfl, (by with_reducible repeat (first | exact IsGr.refl _ | refine IsGr.gr ?_ _ _ | refine IsGr.alloc ?_ _ | refine IsGr.drew ?_ | refine IsGr.drewN ?_ _))⟩

/-- Is the spot a point with whole coordinates? -/
def wholeS (x y z : Int) : Bool := spotR x y z && (decide (x.fmod z = 0) && decide (y.fmod z = 0))
set_option maxRecDepth 20000 in set_option maxHeartbeats 2000000 in
theorem Whole_no (x y z : Int) (hx : Fit x) (hy : Fit y) (hz : Fit z) (h : wholeS x y z = false) (w : World) :
    Calls Try.prog 35 #[.agg #[.int .u64 (wd0 x), .int .u64 (wd1 x), .int .u64 (wd2 x), .int .u64 (wd3 x), .int .u64 (wd0 y), .int .u64 (wd1 y), .int .u64 (wd2 y), .int .u64 (wd3 y), .int .u64 (wd0 z), .int .u64 (wd1 z), .int .u64 (wd2 z), .int .u64 (wd3 z)]] w fun e w' => e = .returned (.tuple #[.agg #[.int .i64 0, .int .i64 0], .bool false]) ∧ IsGr w w' := by
  have C1 := fun w => SpRight_any x y z hx hy hz w
  unfold wholeS at h
  cases h1 : spotR x y z with
  | false =>
    rw [h1] at C1
    clear hx hy hz h h1
    go_enter Try.func35, Try.ntmps35
    go_wp2_with fail
    refine (C1 _).mono ?_
    rintro e w1 ⟨rfl, os1, m1, rfl⟩
    go_wp2
    exact bodyPost_ret (v := .tuple #[.agg #[.int .i64 0, .int .i64 0], .bool false]) (by simp [results, Try.results35, go_sem]) rfl ⟨rfl, (by with_reducible repeat (first | exact IsGr.refl _ | refine IsGr.gr ?_ _ _ | refine IsGr.alloc ?_ _ | refine IsGr.drew ?_ | refine IsGr.drewN ?_ _))⟩
  | true =>
    have r := spotR_t h1
    have C2 := fun w => quotient_any x z hx hz r.1.1 r.2.1 w
    have C3 := fun w => quotient_any y z hy hz r.1.1 r.2.2 w
    rw [h1] at C1 h
    clear hx hy hz h1 r
    generalize decide (x.fmod z = 0) = A at *
    generalize decide (y.fmod z = 0) = B at *
    generalize (if x.fmod z = 0 then x.fdiv z else 0) = P at *
    generalize (if y.fmod z = 0 then y.fdiv z else 0) = Q at *
    cases A
    · clear h
      go_enter Try.func35, Try.ntmps35
      go_wp2_with fail
      refine (C1 _).mono ?_
      rintro e w1 ⟨rfl, os1, m1, rfl⟩
      go_wp2_with fail
      refine (C2 _).mono ?_
      rintro e w1 ⟨rfl, os2, m2, rfl⟩
      go_wp2_with fail
      refine (C3 _).mono ?_
      rintro e w1 ⟨rfl, os3, m3, rfl⟩
      go_wp2
      exact bodyPost_ret (v := .tuple #[.agg #[.int .i64 0, .int .i64 0], .bool false]) (by simp [results, Try.results35, go_sem]) rfl ⟨rfl, (by with_reducible repeat (first | exact IsGr.refl _ | refine IsGr.gr ?_ _ _ | refine IsGr.alloc ?_ _ | refine IsGr.drew ?_ | refine IsGr.drewN ?_ _))⟩
    · obtain rfl : B = false := by simpa using h
      clear h
      go_enter Try.func35, Try.ntmps35
      go_wp2_with fail
      refine (C1 _).mono ?_
      rintro e w1 ⟨rfl, os1, m1, rfl⟩
      go_wp2_with fail
      refine (C2 _).mono ?_
      rintro e w1 ⟨rfl, os2, m2, rfl⟩
      go_wp2_with fail
      refine (C3 _).mono ?_
      rintro e w1 ⟨rfl, os3, m3, rfl⟩
      go_wp2
      exact bodyPost_ret (v := .tuple #[.agg #[.int .i64 0, .int .i64 0], .bool false]) (by simp [results, Try.results35, go_sem]) rfl ⟨rfl, (by with_reducible repeat (first | exact IsGr.refl _ | refine IsGr.gr ?_ _ _ | refine IsGr.alloc ?_ _ | refine IsGr.drew ?_ | refine IsGr.drewN ?_ _))⟩
set_option maxRecDepth 20000 in set_option maxHeartbeats 2000000 in
theorem Whole_yes (x y z : Int) (h : wholeS x y z = true) (w : World) :
    Calls Try.prog 35 #[.agg #[.int .u64 (wd0 x), .int .u64 (wd1 x), .int .u64 (wd2 x), .int .u64 (wd3 x), .int .u64 (wd0 y), .int .u64 (wd1 y), .int .u64 (wd2 y), .int .u64 (wd3 y), .int .u64 (wd0 z), .int .u64 (wd1 z), .int .u64 (wd2 z), .int .u64 (wd3 z)]] w fun e w' => e = .returned (.tuple #[.agg #[.int .i64 (x.fdiv z), .int .i64 (y.fdiv z)], .bool true]) ∧ IsGr w w' := by
  simp only [wholeS, Bool.and_eq_true, decide_eq_true_eq] at h
  obtain ⟨h1, h2, h3⟩ := h
  obtain ⟨hx, hy, hz⟩ := spot_fit h1
  have C1 := fun w => SpRight_any x y z hx hy hz w
  have r := spotR_t h1
  have C2 := fun w => quotient_any x z hx hz r.1.1 r.2.1 w
  have C3 := fun w => quotient_any y z hy hz r.1.1 r.2.2 w
  rw [h1] at C1
  rw [h2] at C2
  rw [h3] at C3
  simp only [if_true, decide_true] at C2 C3
  clear hx hy hz h1 h2 h3 r
  generalize x.fdiv z = P at *
  generalize y.fdiv z = Q at *
  go_enter Try.func35, Try.ntmps35
  go_wp2_with fail
  refine (C1 _).mono ?_
  rintro e w1 ⟨rfl, os1, m1, rfl⟩
  go_wp2_with fail
  refine (C2 _).mono ?_
  rintro e w1 ⟨rfl, os2, m2, rfl⟩
  go_wp2_with fail
  refine (C3 _).mono ?_
  rintro e w1 ⟨rfl, os3, m3, rfl⟩
  go_wp2
  exact bodyPost_ret (v := .tuple #[.agg #[.int .i64 P, .int .i64 Q], .bool true]) (by simp [results, Try.results35, go_sem]) rfl ⟨rfl, (by with_reducible repeat (first | exact IsGr.refl _ | refine IsGr.gr ?_ _ _ | refine IsGr.alloc ?_ _ | refine IsGr.drew ?_ | refine IsGr.drewN ?_ _))⟩

/-- Does the spot lie on the segment from l to h? -/
def holdsS (l1 l2 h1 h2 x y z : Int) : Bool := decide (sideS l1 l2 h1 h2 x y z = 0) && (decide (spotC l1 l2 1 x y z ≤ 0) && decide (spotC x y z h1 h2 1 ≤ 0))
theorem spotC_range (x y z u v t : Int) : spotC x y z u v t = -1 ∨ spotC x y z u v t = 0 ∨ spotC x y z u v t = 1 := by
  unfold spotC
  split
  · split
    · exact cmpI_range _ _
    · exact cmpI_range _ _
  · exact Or.inr (Or.inl rfl)
set_option maxRecDepth 20000 in set_option maxHeartbeats 2000000 in
theorem Holds_yes (a1 a2 b1 b2 l1 l2 h1 h2 x y z : Int) (H : Ends2 a1 a2 b1 b2 l1 l2 h1 h2) (r1 : segR a1 a2 b1 b2 = true) (r2 : spotR x y z = true) (w : World) :
    Calls Try.prog 30 #[.agg #[.int .i64 a1, .int .i64 a2, .int .i64 b1, .int .i64 b2], .agg #[.int .u64 (wd0 x), .int .u64 (wd1 x), .int .u64 (wd2 x), .int .u64 (wd3 x), .int .u64 (wd0 y), .int .u64 (wd1 y), .int .u64 (wd2 y), .int .u64 (wd3 y), .int .u64 (wd0 z), .int .u64 (wd1 z), .int .u64 (wd2 z), .int .u64 (wd3 z)]] w fun e w' => e = .returned (.bool (holdsS l1 l2 h1 h2 x y z)) ∧ IsGr w w' := by
  obtain ⟨hx, hy, hz⟩ := spot_fit r2
  have C1 := fun w => SRight_any a1 a2 b1 b2 w
  have C2 := fun w => SpRight_any x y z hx hy hz w
  have CE := fun w => Ends_any a1 a2 b1 b2 l1 l2 h1 h2 H w
  have CS := fun w => Side_yes a1 a2 b1 b2 l1 l2 h1 h2 x y z H r1 r2 w
  have CA := fun w => At_yes l1 l2 (H.right r1).1 w
  have CB := fun w => At_yes h1 h2 (H.right r1).2 w
  have rl := rightP_t (H.right r1).1
  have rh := rightP_t (H.right r1).2
  have CL := fun w => SpCmp_any l1 l2 1 x y z (by unfold Fit; omega) (by unfold Fit; omega) (by unfold Fit; omega) hx hy hz w
  have CH := fun w => SpCmp_any x y z h1 h2 1 hx hy hz (by unfold Fit; omega) (by unfold Fit; omega) (by unfold Fit; omega) w
  rw [r1] at C1
  rw [r2] at C2
  obtain ⟨B, hB⟩ : ∃ B, B = holdsS l1 l2 h1 h2 x y z := ⟨_, rfl⟩
  rw [← hB]
  unfold holdsS at hB
  clear H r1 r2 hx hy hz rl rh
  generalize sideS l1 l2 h1 h2 x y z = T at *
  by_cases hT : T = 0
  · subst hT
    rw [cmpI_eq rfl] at CS
    have hl := spotC_range l1 l2 1 x y z
    generalize spotC l1 l2 1 x y z = X at *
    generalize spotC x y z h1 h2 1 = Y at *
    rcases hl with rfl | rfl | rfl
    · have HR : Hid (decide (Y ≤ 0) = B) := by unfold Hid; rw [hB]; simp
      clear hB
      go_enter Try.func30, Try.ntmps30
      go_wp2_with fail
      refine (C1 _).mono ?_
      rintro e w1 ⟨rfl, os1, m1, rfl⟩
      go_wp2_with fail
      refine (C2 _).mono ?_
      rintro e w1 ⟨rfl, os2, m2, rfl⟩
      go_wp2_with fail
      refine (CS _).mono ?_
      rintro e w1 ⟨rfl, os3, m3, rfl⟩
      go_upto_region 3 with fail
      go_cut [5, 6] (fun t5 t6 wr => ∃ g5 g6 : Nat, t5 = .pointer (some ⟨g5, 0, none⟩) ∧ t6 = .pointer (some ⟨g6, 0, none⟩) ∧ g5 < wr.heap.size ∧ g6 < wr.heap.size ∧ (wr.cell? ⟨g5, 0, none⟩ = some (.int .i64 l1) ∧ wr.cell? ⟨g5, 1, none⟩ = some (.int .i64 l2)) ∧ (wr.cell? ⟨g6, 0, none⟩ = some (.int .i64 h1) ∧ wr.cell? ⟨g6, 1, none⟩ = some (.int .i64 h2)) ∧ (wr.cell? ⟨w.heap.size + 1, 0, none⟩ = some (.int .u64 (wd0 x)) ∧ wr.cell? ⟨w.heap.size + 1, 1, none⟩ = some (.int .u64 (wd1 x)) ∧ wr.cell? ⟨w.heap.size + 1, 2, none⟩ = some (.int .u64 (wd2 x)) ∧ wr.cell? ⟨w.heap.size + 1, 3, none⟩ = some (.int .u64 (wd3 x)) ∧ wr.cell? ⟨w.heap.size + 1, 4, none⟩ = some (.int .u64 (wd0 y)) ∧ wr.cell? ⟨w.heap.size + 1, 5, none⟩ = some (.int .u64 (wd1 y)) ∧ wr.cell? ⟨w.heap.size + 1, 6, none⟩ = some (.int .u64 (wd2 y)) ∧ wr.cell? ⟨w.heap.size + 1, 7, none⟩ = some (.int .u64 (wd3 y)) ∧ wr.cell? ⟨w.heap.size + 1, 8, none⟩ = some (.int .u64 (wd0 z)) ∧ wr.cell? ⟨w.heap.size + 1, 9, none⟩ = some (.int .u64 (wd1 z)) ∧ wr.cell? ⟨w.heap.size + 1, 10, none⟩ = some (.int .u64 (wd2 z)) ∧ wr.cell? ⟨w.heap.size + 1, 11, none⟩ = some (.int .u64 (wd3 z))) ∧ w.heap.size + 2 ≤ wr.heap.size ∧ IsGr w wr)
      case first =>
        go_wp2_with fail
        refine (CE _).mono ?_
        rintro e w1 ⟨rfl, os4, m4, rfl⟩
        go_wp2
        go_meet
        case rel =>
          refine ⟨_, _, rfl, rfl, ?_, ?_, ?_, ?_, ?_, ?_, (by with_reducible repeat (first | exact IsGr.refl _ | refine IsGr.gr ?_ _ _ | refine IsGr.alloc ?_ _ | refine IsGr.drew ?_ | refine IsGr.drewN ?_ _))⟩
          · first | omega | (simp; done) | (simp; omega) | (simp [Gr.size]; done) | (simp [Gr.size]; omega)
          · first | omega | (simp; done) | (simp; omega) | (simp [Gr.size]; done) | (simp [Gr.size]; omega)
          · simp [go_sem]
          · simp [go_sem]
          · simp [go_sem]
          · first | omega | (simp; done) | (simp; omega) | (simp [Gr.size]; done) | (simp [Gr.size]; omega)
      case rest =>
        obtain ⟨g5, g6, rfl, rfl, k5, k6, hl5, hh6, hx5, ks, hg1⟩ := hcut
        obtain ⟨W1, hW9⟩ : ∃ W1, W1 = wc := ⟨_, rfl⟩
        subst hW9
        have HG : Hid (IsGr w W1) := hg1
        clear hg1
        go_upto_region 4 with fail
        obtain ⟨C, hin, hcl, hcells, hgr⟩ : ∃ C : World → Prop, (∀ w', W1.heap.size ≤ w'.heap.size ∧ IsGr W1 w' ∧ (w'.cell? ⟨w.heap.size + 1, 0, none⟩ = some (.int .u64 (wd0 x)) ∧ w'.cell? ⟨w.heap.size + 1, 1, none⟩ = some (.int .u64 (wd1 x)) ∧ w'.cell? ⟨w.heap.size + 1, 2, none⟩ = some (.int .u64 (wd2 x)) ∧ w'.cell? ⟨w.heap.size + 1, 3, none⟩ = some (.int .u64 (wd3 x)) ∧ w'.cell? ⟨w.heap.size + 1, 4, none⟩ = some (.int .u64 (wd0 y)) ∧ w'.cell? ⟨w.heap.size + 1, 5, none⟩ = some (.int .u64 (wd1 y)) ∧ w'.cell? ⟨w.heap.size + 1, 6, none⟩ = some (.int .u64 (wd2 y)) ∧ w'.cell? ⟨w.heap.size + 1, 7, none⟩ = some (.int .u64 (wd3 y)) ∧ w'.cell? ⟨w.heap.size + 1, 8, none⟩ = some (.int .u64 (wd0 z)) ∧ w'.cell? ⟨w.heap.size + 1, 9, none⟩ = some (.int .u64 (wd1 z)) ∧ w'.cell? ⟨w.heap.size + 1, 10, none⟩ = some (.int .u64 (wd2 z)) ∧ w'.cell? ⟨w.heap.size + 1, 11, none⟩ = some (.int .u64 (wd3 z))) ∧ (w'.cell? ⟨g5, 0, none⟩ = some (.int .i64 l1) ∧ w'.cell? ⟨g5, 1, none⟩ = some (.int .i64 l2)) ∧ (w'.cell? ⟨g6, 0, none⟩ = some (.int .i64 h1) ∧ w'.cell? ⟨g6, 1, none⟩ = some (.int .i64 h2)) → C w') ∧ (∀ u u', C u → IsGr u u' → C u') ∧ (∀ w', C w' → (w'.cell? ⟨w.heap.size + 1, 0, none⟩ = some (.int .u64 (wd0 x)) ∧ w'.cell? ⟨w.heap.size + 1, 1, none⟩ = some (.int .u64 (wd1 x)) ∧ w'.cell? ⟨w.heap.size + 1, 2, none⟩ = some (.int .u64 (wd2 x)) ∧ w'.cell? ⟨w.heap.size + 1, 3, none⟩ = some (.int .u64 (wd3 x)) ∧ w'.cell? ⟨w.heap.size + 1, 4, none⟩ = some (.int .u64 (wd0 y)) ∧ w'.cell? ⟨w.heap.size + 1, 5, none⟩ = some (.int .u64 (wd1 y)) ∧ w'.cell? ⟨w.heap.size + 1, 6, none⟩ = some (.int .u64 (wd2 y)) ∧ w'.cell? ⟨w.heap.size + 1, 7, none⟩ = some (.int .u64 (wd3 y)) ∧ w'.cell? ⟨w.heap.size + 1, 8, none⟩ = some (.int .u64 (wd0 z)) ∧ w'.cell? ⟨w.heap.size + 1, 9, none⟩ = some (.int .u64 (wd1 z)) ∧ w'.cell? ⟨w.heap.size + 1, 10, none⟩ = some (.int .u64 (wd2 z)) ∧ w'.cell? ⟨w.heap.size + 1, 11, none⟩ = some (.int .u64 (wd3 z))) ∧ (w'.cell? ⟨g5, 0, none⟩ = some (.int .i64 l1) ∧ w'.cell? ⟨g5, 1, none⟩ = some (.int .i64 l2)) ∧ (w'.cell? ⟨g6, 0, none⟩ = some (.int .i64 h1) ∧ w'.cell? ⟨g6, 1, none⟩ = some (.int .i64 h2))) ∧ (∀ w', C w' → IsGr W1 w' ∧ W1.heap.size ≤ w'.heap.size) := by
          refine ⟨fun w' => W1.heap.size ≤ w'.heap.size ∧ IsGr W1 w' ∧ (w'.cell? ⟨w.heap.size + 1, 0, none⟩ = some (.int .u64 (wd0 x)) ∧ w'.cell? ⟨w.heap.size + 1, 1, none⟩ = some (.int .u64 (wd1 x)) ∧ w'.cell? ⟨w.heap.size + 1, 2, none⟩ = some (.int .u64 (wd2 x)) ∧ w'.cell? ⟨w.heap.size + 1, 3, none⟩ = some (.int .u64 (wd3 x)) ∧ w'.cell? ⟨w.heap.size + 1, 4, none⟩ = some (.int .u64 (wd0 y)) ∧ w'.cell? ⟨w.heap.size + 1, 5, none⟩ = some (.int .u64 (wd1 y)) ∧ w'.cell? ⟨w.heap.size + 1, 6, none⟩ = some (.int .u64 (wd2 y)) ∧ w'.cell? ⟨w.heap.size + 1, 7, none⟩ = some (.int .u64 (wd3 y)) ∧ w'.cell? ⟨w.heap.size + 1, 8, none⟩ = some (.int .u64 (wd0 z)) ∧ w'.cell? ⟨w.heap.size + 1, 9, none⟩ = some (.int .u64 (wd1 z)) ∧ w'.cell? ⟨w.heap.size + 1, 10, none⟩ = some (.int .u64 (wd2 z)) ∧ w'.cell? ⟨w.heap.size + 1, 11, none⟩ = some (.int .u64 (wd3 z))) ∧ (w'.cell? ⟨g5, 0, none⟩ = some (.int .i64 l1) ∧ w'.cell? ⟨g5, 1, none⟩ = some (.int .i64 l2)) ∧ (w'.cell? ⟨g6, 0, none⟩ = some (.int .i64 h1) ∧ w'.cell? ⟨g6, 1, none⟩ = some (.int .i64 h2)), fun w' h => h, ?_, fun w' h => h.2.2, fun w' h => ⟨h.2.1, h.1⟩⟩
          rintro u u' ⟨h0, h1, h2⟩ hg
          refine ⟨Nat.le_trans h0 hg.size, h1.trans hg, ?_⟩
          exact ⟨⟨hg.cell_at (by omega) h2.1.1, hg.cell_at (by omega) h2.1.2.1, hg.cell_at (by omega) h2.1.2.2.1, hg.cell_at (by omega) h2.1.2.2.2.1, hg.cell_at (by omega) h2.1.2.2.2.2.1, hg.cell_at (by omega) h2.1.2.2.2.2.2.1, hg.cell_at (by omega) h2.1.2.2.2.2.2.2.1, hg.cell_at (by omega) h2.1.2.2.2.2.2.2.2.1, hg.cell_at (by omega) h2.1.2.2.2.2.2.2.2.2.1, hg.cell_at (by omega) h2.1.2.2.2.2.2.2.2.2.2.1, hg.cell_at (by omega) h2.1.2.2.2.2.2.2.2.2.2.2.1, hg.cell_at (by omega) h2.1.2.2.2.2.2.2.2.2.2.2.2⟩, ⟨hg.cell_at (by omega) h2.2.1.1, hg.cell_at (by omega) h2.2.1.2⟩, ⟨hg.cell_at (by omega) h2.2.2.1, hg.cell_at (by omega) h2.2.2.2⟩⟩
        refine wp_region_quietV C (by kernel_rfl) (by kernel_rfl) (hin _ ⟨by simp, (by with_reducible repeat (first | exact IsGr.refl _ | refine IsGr.gr ?_ _ _ | refine IsGr.alloc ?_ _ | refine IsGr.drew ?_ | refine IsGr.drewN ?_ _)), ⟨hx5, hl5, hh6⟩⟩) (fun K HK => ?_)
        refine QK.take HK ?_ (by rfl) ?_ ?_
        rotate_left
        · (intro w hw; (try have hcs := hcells w hw); (try go_split_ands); go_simp <;> with_reducible rfl)
        (try simp only [Act.put, qA, qB, qC])
        refine QK.call HK 37 #[.agg #[.int .i64 l1, .int .i64 l2]] (.agg #[.int .u64 (wd0 l1), .int .u64 (wd1 l1), .int .u64 (wd2 l1), .int .u64 (wd3 l1), .int .u64 (wd0 l2), .int .u64 (wd1 l2), .int .u64 (wd2 l2), .int .u64 (wd3 l2), .int .u64 (wd0 (1)), .int .u64 (wd1 (1)), .int .u64 (wd2 (1)), .int .u64 (wd3 (1))]) hcl (by rfl) (fun w => by go_simp) CA ?_
        (try simp only [Act.put, qA, qB, qC])
        refine QK.take HK ?_ (by rfl) ?_ ?_
        rotate_left
        · (intro w hw; (try have hcs := hcells w hw); (try go_split_ands); go_simp <;> with_reducible rfl)
        (try simp only [Act.put, qA, qB, qC])
        refine QK.call HK 34 #[.agg #[.int .u64 (wd0 l1), .int .u64 (wd1 l1), .int .u64 (wd2 l1), .int .u64 (wd3 l1), .int .u64 (wd0 l2), .int .u64 (wd1 l2), .int .u64 (wd2 l2), .int .u64 (wd3 l2), .int .u64 (wd0 (1)), .int .u64 (wd1 (1)), .int .u64 (wd2 (1)), .int .u64 (wd3 (1))], .agg #[.int .u64 (wd0 x), .int .u64 (wd1 x), .int .u64 (wd2 x), .int .u64 (wd3 x), .int .u64 (wd0 y), .int .u64 (wd1 y), .int .u64 (wd2 y), .int .u64 (wd3 y), .int .u64 (wd0 z), .int .u64 (wd1 z), .int .u64 (wd2 z), .int .u64 (wd3 z)]] (.int .i64 (-1)) hcl (by rfl) (fun w => by go_simp) CL ?_
        (try simp only [Act.put, qA, qB, qC])
        refine QK.take HK ?_ (by rfl) ?_ ?_
        rotate_left
        · (intro w hw; (try have hcs := hcells w hw); (try go_split_ands); go_simp <;> with_reducible rfl)
        (try simp only [Act.put, qA, qB, qC])
        refine QK.take HK ?_ (by rfl) ?_ ?_
        rotate_left
        · (intro w hw; (try have hcs := hcells w hw); (try go_split_ands); go_simp <;> with_reducible rfl)
        (try simp only [Act.put, qA, qB, qC])
        refine QK.take HK ?_ (by rfl) ?_ ?_
        rotate_left
        · (intro w hw; (try have hcs := hcells w hw); (try go_split_ands); go_simp <;> with_reducible rfl)
        (try simp only [Act.put, qA, qB, qC])
        refine QK.take HK ?_ (by rfl) ?_ ?_
        rotate_left
        · (intro w hw; (try have hcs := hcells w hw); (try go_split_ands); go_simp <;> with_reducible rfl)
        (try simp only [Act.put, qA, qB, qC])
        refine QK.call HK 37 #[.agg #[.int .i64 h1, .int .i64 h2]] (.agg #[.int .u64 (wd0 h1), .int .u64 (wd1 h1), .int .u64 (wd2 h1), .int .u64 (wd3 h1), .int .u64 (wd0 h2), .int .u64 (wd1 h2), .int .u64 (wd2 h2), .int .u64 (wd3 h2), .int .u64 (wd0 (1)), .int .u64 (wd1 (1)), .int .u64 (wd2 (1)), .int .u64 (wd3 (1))]) hcl (by rfl) (fun w => by go_simp) CB ?_
        (try simp only [Act.put, qA, qB, qC])
        refine QK.call HK 34 #[.agg #[.int .u64 (wd0 x), .int .u64 (wd1 x), .int .u64 (wd2 x), .int .u64 (wd3 x), .int .u64 (wd0 y), .int .u64 (wd1 y), .int .u64 (wd2 y), .int .u64 (wd3 y), .int .u64 (wd0 z), .int .u64 (wd1 z), .int .u64 (wd2 z), .int .u64 (wd3 z)], .agg #[.int .u64 (wd0 h1), .int .u64 (wd1 h1), .int .u64 (wd2 h1), .int .u64 (wd3 h1), .int .u64 (wd0 h2), .int .u64 (wd1 h2), .int .u64 (wd2 h2), .int .u64 (wd3 h2), .int .u64 (wd0 (1)), .int .u64 (wd1 (1)), .int .u64 (wd2 (1)), .int .u64 (wd3 (1))]] (.int .i64 Y) hcl (by rfl) (fun w => by go_simp) CH ?_
        (try simp only [Act.put, qA, qB, qC])
        refine QK.take HK ?_ (by rfl) ?_ ?_
        rotate_left
        · (intro w hw; (try have hcs := hcells w hw); (try go_split_ands); go_simp <;> with_reducible rfl)
        (try simp only [Act.put, qA, qB, qC])
        refine QK.take HK ?_ (by rfl) ?_ ?_
        rotate_left
        · (intro w hw; (try have hcs := hcells w hw); (try go_split_ands); go_simp <;> with_reducible rfl)
        (try simp only [Act.put, qA, qB, qC])
        refine QK.take HK ?_ (by rfl) ?_ ?_
        rotate_left
        · (intro w hw; (try have hcs := hcells w hw); (try go_split_ands); go_simp <;> with_reducible rfl)
        (try simp only [Act.put, qA, qB, qC])
        refine QK.nil HK ?_
        clear HK K
        intro wq hq
        have hg := (hgr wq hq).1
        clear hcells hin hcl hgr hq
        go_wp2
        go_ret
        exact ⟨ret_bool HR.out, HG.out.trans hg⟩
    · have HR : Hid (decide (Y ≤ 0) = B) := by unfold Hid; rw [hB]; simp
      clear hB
      go_enter Try.func30, Try.ntmps30
      go_wp2_with fail
      refine (C1 _).mono ?_
      rintro e w1 ⟨rfl, os1, m1, rfl⟩
      go_wp2_with fail
      refine (C2 _).mono ?_
      rintro e w1 ⟨rfl, os2, m2, rfl⟩
      go_wp2_with fail
      refine (CS _).mono ?_
      rintro e w1 ⟨rfl, os3, m3, rfl⟩
      go_upto_region 3 with fail
      go_cut [5, 6] (fun t5 t6 wr => ∃ g5 g6 : Nat, t5 = .pointer (some ⟨g5, 0, none⟩) ∧ t6 = .pointer (some ⟨g6, 0, none⟩) ∧ g5 < wr.heap.size ∧ g6 < wr.heap.size ∧ (wr.cell? ⟨g5, 0, none⟩ = some (.int .i64 l1) ∧ wr.cell? ⟨g5, 1, none⟩ = some (.int .i64 l2)) ∧ (wr.cell? ⟨g6, 0, none⟩ = some (.int .i64 h1) ∧ wr.cell? ⟨g6, 1, none⟩ = some (.int .i64 h2)) ∧ (wr.cell? ⟨w.heap.size + 1, 0, none⟩ = some (.int .u64 (wd0 x)) ∧ wr.cell? ⟨w.heap.size + 1, 1, none⟩ = some (.int .u64 (wd1 x)) ∧ wr.cell? ⟨w.heap.size + 1, 2, none⟩ = some (.int .u64 (wd2 x)) ∧ wr.cell? ⟨w.heap.size + 1, 3, none⟩ = some (.int .u64 (wd3 x)) ∧ wr.cell? ⟨w.heap.size + 1, 4, none⟩ = some (.int .u64 (wd0 y)) ∧ wr.cell? ⟨w.heap.size + 1, 5, none⟩ = some (.int .u64 (wd1 y)) ∧ wr.cell? ⟨w.heap.size + 1, 6, none⟩ = some (.int .u64 (wd2 y)) ∧ wr.cell? ⟨w.heap.size + 1, 7, none⟩ = some (.int .u64 (wd3 y)) ∧ wr.cell? ⟨w.heap.size + 1, 8, none⟩ = some (.int .u64 (wd0 z)) ∧ wr.cell? ⟨w.heap.size + 1, 9, none⟩ = some (.int .u64 (wd1 z)) ∧ wr.cell? ⟨w.heap.size + 1, 10, none⟩ = some (.int .u64 (wd2 z)) ∧ wr.cell? ⟨w.heap.size + 1, 11, none⟩ = some (.int .u64 (wd3 z))) ∧ w.heap.size + 2 ≤ wr.heap.size ∧ IsGr w wr)
      case first =>
        go_wp2_with fail
        refine (CE _).mono ?_
        rintro e w1 ⟨rfl, os4, m4, rfl⟩
        go_wp2
        go_meet
        case rel =>
          refine ⟨_, _, rfl, rfl, ?_, ?_, ?_, ?_, ?_, ?_, (by with_reducible repeat (first | exact IsGr.refl _ | refine IsGr.gr ?_ _ _ | refine IsGr.alloc ?_ _ | refine IsGr.drew ?_ | refine IsGr.drewN ?_ _))⟩
          · first | omega | (simp; done) | (simp; omega) | (simp [Gr.size]; done) | (simp [Gr.size]; omega)
          · first | omega | (simp; done) | (simp; omega) | (simp [Gr.size]; done) | (simp [Gr.size]; omega)
          · simp [go_sem]
          · simp [go_sem]
          · simp [go_sem]
          · first | omega | (simp; done) | (simp; omega) | (simp [Gr.size]; done) | (simp [Gr.size]; omega)
      case rest =>
        obtain ⟨g5, g6, rfl, rfl, k5, k6, hl5, hh6, hx5, ks, hg1⟩ := hcut
        obtain ⟨W1, hW9⟩ : ∃ W1, W1 = wc := ⟨_, rfl⟩
        subst hW9
        have HG : Hid (IsGr w W1) := hg1
        clear hg1
        go_upto_region 4 with fail
        obtain ⟨C, hin, hcl, hcells, hgr⟩ : ∃ C : World → Prop, (∀ w', W1.heap.size ≤ w'.heap.size ∧ IsGr W1 w' ∧ (w'.cell? ⟨w.heap.size + 1, 0, none⟩ = some (.int .u64 (wd0 x)) ∧ w'.cell? ⟨w.heap.size + 1, 1, none⟩ = some (.int .u64 (wd1 x)) ∧ w'.cell? ⟨w.heap.size + 1, 2, none⟩ = some (.int .u64 (wd2 x)) ∧ w'.cell? ⟨w.heap.size + 1, 3, none⟩ = some (.int .u64 (wd3 x)) ∧ w'.cell? ⟨w.heap.size + 1, 4, none⟩ = some (.int .u64 (wd0 y)) ∧ w'.cell? ⟨w.heap.size + 1, 5, none⟩ = some (.int .u64 (wd1 y)) ∧ w'.cell? ⟨w.heap.size + 1, 6, none⟩ = some (.int .u64 (wd2 y)) ∧ w'.cell? ⟨w.heap.size + 1, 7, none⟩ = some (.int .u64 (wd3 y)) ∧ w'.cell? ⟨w.heap.size + 1, 8, none⟩ = some (.int .u64 (wd0 z)) ∧ w'.cell? ⟨w.heap.size + 1, 9, none⟩ = some (.int .u64 (wd1 z)) ∧ w'.cell? ⟨w.heap.size + 1, 10, none⟩ = some (.int .u64 (wd2 z)) ∧ w'.cell? ⟨w.heap.size + 1, 11, none⟩ = some (.int .u64 (wd3 z))) ∧ (w'.cell? ⟨g5, 0, none⟩ = some (.int .i64 l1) ∧ w'.cell? ⟨g5, 1, none⟩ = some (.int .i64 l2)) ∧ (w'.cell? ⟨g6, 0, none⟩ = some (.int .i64 h1) ∧ w'.cell? ⟨g6, 1, none⟩ = some (.int .i64 h2)) → C w') ∧ (∀ u u', C u → IsGr u u' → C u') ∧ (∀ w', C w' → (w'.cell? ⟨w.heap.size + 1, 0, none⟩ = some (.int .u64 (wd0 x)) ∧ w'.cell? ⟨w.heap.size + 1, 1, none⟩ = some (.int .u64 (wd1 x)) ∧ w'.cell? ⟨w.heap.size + 1, 2, none⟩ = some (.int .u64 (wd2 x)) ∧ w'.cell? ⟨w.heap.size + 1, 3, none⟩ = some (.int .u64 (wd3 x)) ∧ w'.cell? ⟨w.heap.size + 1, 4, none⟩ = some (.int .u64 (wd0 y)) ∧ w'.cell? ⟨w.heap.size + 1, 5, none⟩ = some (.int .u64 (wd1 y)) ∧ w'.cell? ⟨w.heap.size + 1, 6, none⟩ = some (.int .u64 (wd2 y)) ∧ w'.cell? ⟨w.heap.size + 1, 7, none⟩ = some (.int .u64 (wd3 y)) ∧ w'.cell? ⟨w.heap.size + 1, 8, none⟩ = some (.int .u64 (wd0 z)) ∧ w'.cell? ⟨w.heap.size + 1, 9, none⟩ = some (.int .u64 (wd1 z)) ∧ w'.cell? ⟨w.heap.size + 1, 10, none⟩ = some (.int .u64 (wd2 z)) ∧ w'.cell? ⟨w.heap.size + 1, 11, none⟩ = some (.int .u64 (wd3 z))) ∧ (w'.cell? ⟨g5, 0, none⟩ = some (.int .i64 l1) ∧ w'.cell? ⟨g5, 1, none⟩ = some (.int .i64 l2)) ∧ (w'.cell? ⟨g6, 0, none⟩ = some (.int .i64 h1) ∧ w'.cell? ⟨g6, 1, none⟩ = some (.int .i64 h2))) ∧ (∀ w', C w' → IsGr W1 w' ∧ W1.heap.size ≤ w'.heap.size) := by
          refine ⟨fun w' => W1.heap.size ≤ w'.heap.size ∧ IsGr W1 w' ∧ (w'.cell? ⟨w.heap.size + 1, 0, none⟩ = some (.int .u64 (wd0 x)) ∧ w'.cell? ⟨w.heap.size + 1, 1, none⟩ = some (.int .u64 (wd1 x)) ∧ w'.cell? ⟨w.heap.size + 1, 2, none⟩ = some (.int .u64 (wd2 x)) ∧ w'.cell? ⟨w.heap.size + 1, 3, none⟩ = some (.int .u64 (wd3 x)) ∧ w'.cell? ⟨w.heap.size + 1, 4, none⟩ = some (.int .u64 (wd0 y)) ∧ w'.cell? ⟨w.heap.size + 1, 5, none⟩ = some (.int .u64 (wd1 y)) ∧ w'.cell? ⟨w.heap.size + 1, 6, none⟩ = some (.int .u64 (wd2 y)) ∧ w'.cell? ⟨w.heap.size + 1, 7, none⟩ = some (.int .u64 (wd3 y)) ∧ w'.cell? ⟨w.heap.size + 1, 8, none⟩ = some (.int .u64 (wd0 z)) ∧ w'.cell? ⟨w.heap.size + 1, 9, none⟩ = some (.int .u64 (wd1 z)) ∧ w'.cell? ⟨w.heap.size + 1, 10, none⟩ = some (.int .u64 (wd2 z)) ∧ w'.cell? ⟨w.heap.size + 1, 11, none⟩ = some (.int .u64 (wd3 z))) ∧ (w'.cell? ⟨g5, 0, none⟩ = some (.int .i64 l1) ∧ w'.cell? ⟨g5, 1, none⟩ = some (.int .i64 l2)) ∧ (w'.cell? ⟨g6, 0, none⟩ = some (.int .i64 h1) ∧ w'.cell? ⟨g6, 1, none⟩ = some (.int .i64 h2)), fun w' h => h, ?_, fun w' h => h.2.2, fun w' h => ⟨h.2.1, h.1⟩⟩
          rintro u u' ⟨h0, h1, h2⟩ hg
          refine ⟨Nat.le_trans h0 hg.size, h1.trans hg, ?_⟩
          exact ⟨⟨hg.cell_at (by omega) h2.1.1, hg.cell_at (by omega) h2.1.2.1, hg.cell_at (by omega) h2.1.2.2.1, hg.cell_at (by omega) h2.1.2.2.2.1, hg.cell_at (by omega) h2.1.2.2.2.2.1, hg.cell_at (by omega) h2.1.2.2.2.2.2.1, hg.cell_at (by omega) h2.1.2.2.2.2.2.2.1, hg.cell_at (by omega) h2.1.2.2.2.2.2.2.2.1, hg.cell_at (by omega) h2.1.2.2.2.2.2.2.2.2.1, hg.cell_at (by omega) h2.1.2.2.2.2.2.2.2.2.2.1, hg.cell_at (by omega) h2.1.2.2.2.2.2.2.2.2.2.2.1, hg.cell_at (by omega) h2.1.2.2.2.2.2.2.2.2.2.2.2⟩, ⟨hg.cell_at (by omega) h2.2.1.1, hg.cell_at (by omega) h2.2.1.2⟩, ⟨hg.cell_at (by omega) h2.2.2.1, hg.cell_at (by omega) h2.2.2.2⟩⟩
        refine wp_region_quietV C (by kernel_rfl) (by kernel_rfl) (hin _ ⟨by simp, (by with_reducible repeat (first | exact IsGr.refl _ | refine IsGr.gr ?_ _ _ | refine IsGr.alloc ?_ _ | refine IsGr.drew ?_ | refine IsGr.drewN ?_ _)), ⟨hx5, hl5, hh6⟩⟩) (fun K HK => ?_)
        refine QK.take HK ?_ (by rfl) ?_ ?_
        rotate_left
        · (intro w hw; (try have hcs := hcells w hw); (try go_split_ands); go_simp <;> with_reducible rfl)
        (try simp only [Act.put, qA, qB, qC])
        refine QK.call HK 37 #[.agg #[.int .i64 l1, .int .i64 l2]] (.agg #[.int .u64 (wd0 l1), .int .u64 (wd1 l1), .int .u64 (wd2 l1), .int .u64 (wd3 l1), .int .u64 (wd0 l2), .int .u64 (wd1 l2), .int .u64 (wd2 l2), .int .u64 (wd3 l2), .int .u64 (wd0 (1)), .int .u64 (wd1 (1)), .int .u64 (wd2 (1)), .int .u64 (wd3 (1))]) hcl (by rfl) (fun w => by go_simp) CA ?_
        (try simp only [Act.put, qA, qB, qC])
        refine QK.take HK ?_ (by rfl) ?_ ?_
        rotate_left
        · (intro w hw; (try have hcs := hcells w hw); (try go_split_ands); go_simp <;> with_reducible rfl)
        (try simp only [Act.put, qA, qB, qC])
        refine QK.call HK 34 #[.agg #[.int .u64 (wd0 l1), .int .u64 (wd1 l1), .int .u64 (wd2 l1), .int .u64 (wd3 l1), .int .u64 (wd0 l2), .int .u64 (wd1 l2), .int .u64 (wd2 l2), .int .u64 (wd3 l2), .int .u64 (wd0 (1)), .int .u64 (wd1 (1)), .int .u64 (wd2 (1)), .int .u64 (wd3 (1))], .agg #[.int .u64 (wd0 x), .int .u64 (wd1 x), .int .u64 (wd2 x), .int .u64 (wd3 x), .int .u64 (wd0 y), .int .u64 (wd1 y), .int .u64 (wd2 y), .int .u64 (wd3 y), .int .u64 (wd0 z), .int .u64 (wd1 z), .int .u64 (wd2 z), .int .u64 (wd3 z)]] (.int .i64 (0)) hcl (by rfl) (fun w => by go_simp) CL ?_
        (try simp only [Act.put, qA, qB, qC])
        refine QK.take HK ?_ (by rfl) ?_ ?_
        rotate_left
        · (intro w hw; (try have hcs := hcells w hw); (try go_split_ands); go_simp <;> with_reducible rfl)
        (try simp only [Act.put, qA, qB, qC])
        refine QK.take HK ?_ (by rfl) ?_ ?_
        rotate_left
        · (intro w hw; (try have hcs := hcells w hw); (try go_split_ands); go_simp <;> with_reducible rfl)
        (try simp only [Act.put, qA, qB, qC])
        refine QK.take HK ?_ (by rfl) ?_ ?_
        rotate_left
        · (intro w hw; (try have hcs := hcells w hw); (try go_split_ands); go_simp <;> with_reducible rfl)
        (try simp only [Act.put, qA, qB, qC])
        refine QK.take HK ?_ (by rfl) ?_ ?_
        rotate_left
        · (intro w hw; (try have hcs := hcells w hw); (try go_split_ands); go_simp <;> with_reducible rfl)
        (try simp only [Act.put, qA, qB, qC])
        refine QK.call HK 37 #[.agg #[.int .i64 h1, .int .i64 h2]] (.agg #[.int .u64 (wd0 h1), .int .u64 (wd1 h1), .int .u64 (wd2 h1), .int .u64 (wd3 h1), .int .u64 (wd0 h2), .int .u64 (wd1 h2), .int .u64 (wd2 h2), .int .u64 (wd3 h2), .int .u64 (wd0 (1)), .int .u64 (wd1 (1)), .int .u64 (wd2 (1)), .int .u64 (wd3 (1))]) hcl (by rfl) (fun w => by go_simp) CB ?_
        (try simp only [Act.put, qA, qB, qC])
        refine QK.call HK 34 #[.agg #[.int .u64 (wd0 x), .int .u64 (wd1 x), .int .u64 (wd2 x), .int .u64 (wd3 x), .int .u64 (wd0 y), .int .u64 (wd1 y), .int .u64 (wd2 y), .int .u64 (wd3 y), .int .u64 (wd0 z), .int .u64 (wd1 z), .int .u64 (wd2 z), .int .u64 (wd3 z)], .agg #[.int .u64 (wd0 h1), .int .u64 (wd1 h1), .int .u64 (wd2 h1), .int .u64 (wd3 h1), .int .u64 (wd0 h2), .int .u64 (wd1 h2), .int .u64 (wd2 h2), .int .u64 (wd3 h2), .int .u64 (wd0 (1)), .int .u64 (wd1 (1)), .int .u64 (wd2 (1)), .int .u64 (wd3 (1))]] (.int .i64 Y) hcl (by rfl) (fun w => by go_simp) CH ?_
        (try simp only [Act.put, qA, qB, qC])
        refine QK.take HK ?_ (by rfl) ?_ ?_
        rotate_left
        · (intro w hw; (try have hcs := hcells w hw); (try go_split_ands); go_simp <;> with_reducible rfl)
        (try simp only [Act.put, qA, qB, qC])
        refine QK.take HK ?_ (by rfl) ?_ ?_
        rotate_left
        · (intro w hw; (try have hcs := hcells w hw); (try go_split_ands); go_simp <;> with_reducible rfl)
        (try simp only [Act.put, qA, qB, qC])
        refine QK.take HK ?_ (by rfl) ?_ ?_
        rotate_left
        · (intro w hw; (try have hcs := hcells w hw); (try go_split_ands); go_simp <;> with_reducible rfl)
        (try simp only [Act.put, qA, qB, qC])
        refine QK.nil HK ?_
        clear HK K
        intro wq hq
        have hg := (hgr wq hq).1
        clear hcells hin hcl hgr hq
        go_wp2
        go_ret
        exact ⟨ret_bool HR.out, HG.out.trans hg⟩
    · have HR : Hid (false = B) := by unfold Hid; rw [hB]; simp
      clear hB
      go_enter Try.func30, Try.ntmps30
      go_wp2_with fail
      refine (C1 _).mono ?_
      rintro e w1 ⟨rfl, os1, m1, rfl⟩
      go_wp2_with fail
      refine (C2 _).mono ?_
      rintro e w1 ⟨rfl, os2, m2, rfl⟩
      go_wp2_with fail
      refine (CS _).mono ?_
      rintro e w1 ⟨rfl, os3, m3, rfl⟩
      go_upto_region 3 with fail
      go_cut [5, 6] (fun t5 t6 wr => ∃ g5 g6 : Nat, t5 = .pointer (some ⟨g5, 0, none⟩) ∧ t6 = .pointer (some ⟨g6, 0, none⟩) ∧ g5 < wr.heap.size ∧ g6 < wr.heap.size ∧ (wr.cell? ⟨g5, 0, none⟩ = some (.int .i64 l1) ∧ wr.cell? ⟨g5, 1, none⟩ = some (.int .i64 l2)) ∧ (wr.cell? ⟨g6, 0, none⟩ = some (.int .i64 h1) ∧ wr.cell? ⟨g6, 1, none⟩ = some (.int .i64 h2)) ∧ (wr.cell? ⟨w.heap.size + 1, 0, none⟩ = some (.int .u64 (wd0 x)) ∧ wr.cell? ⟨w.heap.size + 1, 1, none⟩ = some (.int .u64 (wd1 x)) ∧ wr.cell? ⟨w.heap.size + 1, 2, none⟩ = some (.int .u64 (wd2 x)) ∧ wr.cell? ⟨w.heap.size + 1, 3, none⟩ = some (.int .u64 (wd3 x)) ∧ wr.cell? ⟨w.heap.size + 1, 4, none⟩ = some (.int .u64 (wd0 y)) ∧ wr.cell? ⟨w.heap.size + 1, 5, none⟩ = some (.int .u64 (wd1 y)) ∧ wr.cell? ⟨w.heap.size + 1, 6, none⟩ = some (.int .u64 (wd2 y)) ∧ wr.cell? ⟨w.heap.size + 1, 7, none⟩ = some (.int .u64 (wd3 y)) ∧ wr.cell? ⟨w.heap.size + 1, 8, none⟩ = some (.int .u64 (wd0 z)) ∧ wr.cell? ⟨w.heap.size + 1, 9, none⟩ = some (.int .u64 (wd1 z)) ∧ wr.cell? ⟨w.heap.size + 1, 10, none⟩ = some (.int .u64 (wd2 z)) ∧ wr.cell? ⟨w.heap.size + 1, 11, none⟩ = some (.int .u64 (wd3 z))) ∧ w.heap.size + 2 ≤ wr.heap.size ∧ IsGr w wr)
      case first =>
        go_wp2_with fail
        refine (CE _).mono ?_
        rintro e w1 ⟨rfl, os4, m4, rfl⟩
        go_wp2
        go_meet
        case rel =>
          refine ⟨_, _, rfl, rfl, ?_, ?_, ?_, ?_, ?_, ?_, (by with_reducible repeat (first | exact IsGr.refl _ | refine IsGr.gr ?_ _ _ | refine IsGr.alloc ?_ _ | refine IsGr.drew ?_ | refine IsGr.drewN ?_ _))⟩
          · first | omega | (simp; done) | (simp; omega) | (simp [Gr.size]; done) | (simp [Gr.size]; omega)
          · first | omega | (simp; done) | (simp; omega) | (simp [Gr.size]; done) | (simp [Gr.size]; omega)
          · simp [go_sem]
          · simp [go_sem]
          · simp [go_sem]
          · first | omega | (simp; done) | (simp; omega) | (simp [Gr.size]; done) | (simp [Gr.size]; omega)
      case rest =>
        obtain ⟨g5, g6, rfl, rfl, k5, k6, hl5, hh6, hx5, ks, hg1⟩ := hcut
        obtain ⟨W1, hW9⟩ : ∃ W1, W1 = wc := ⟨_, rfl⟩
        subst hW9
        have HG : Hid (IsGr w W1) := hg1
        clear hg1
        go_upto_region 4 with fail
        obtain ⟨C, hin, hcl, hcells, hgr⟩ : ∃ C : World → Prop, (∀ w', W1.heap.size ≤ w'.heap.size ∧ IsGr W1 w' ∧ (w'.cell? ⟨w.heap.size + 1, 0, none⟩ = some (.int .u64 (wd0 x)) ∧ w'.cell? ⟨w.heap.size + 1, 1, none⟩ = some (.int .u64 (wd1 x)) ∧ w'.cell? ⟨w.heap.size + 1, 2, none⟩ = some (.int .u64 (wd2 x)) ∧ w'.cell? ⟨w.heap.size + 1, 3, none⟩ = some (.int .u64 (wd3 x)) ∧ w'.cell? ⟨w.heap.size + 1, 4, none⟩ = some (.int .u64 (wd0 y)) ∧ w'.cell? ⟨w.heap.size + 1, 5, none⟩ = some (.int .u64 (wd1 y)) ∧ w'.cell? ⟨w.heap.size + 1, 6, none⟩ = some (.int .u64 (wd2 y)) ∧ w'.cell? ⟨w.heap.size + 1, 7, none⟩ = some (.int .u64 (wd3 y)) ∧ w'.cell? ⟨w.heap.size + 1, 8, none⟩ = some (.int .u64 (wd0 z)) ∧ w'.cell? ⟨w.heap.size + 1, 9, none⟩ = some (.int .u64 (wd1 z)) ∧ w'.cell? ⟨w.heap.size + 1, 10, none⟩ = some (.int .u64 (wd2 z)) ∧ w'.cell? ⟨w.heap.size + 1, 11, none⟩ = some (.int .u64 (wd3 z))) ∧ (w'.cell? ⟨g5, 0, none⟩ = some (.int .i64 l1) ∧ w'.cell? ⟨g5, 1, none⟩ = some (.int .i64 l2)) ∧ (w'.cell? ⟨g6, 0, none⟩ = some (.int .i64 h1) ∧ w'.cell? ⟨g6, 1, none⟩ = some (.int .i64 h2)) → C w') ∧ (∀ u u', C u → IsGr u u' → C u') ∧ (∀ w', C w' → (w'.cell? ⟨w.heap.size + 1, 0, none⟩ = some (.int .u64 (wd0 x)) ∧ w'.cell? ⟨w.heap.size + 1, 1, none⟩ = some (.int .u64 (wd1 x)) ∧ w'.cell? ⟨w.heap.size + 1, 2, none⟩ = some (.int .u64 (wd2 x)) ∧ w'.cell? ⟨w.heap.size + 1, 3, none⟩ = some (.int .u64 (wd3 x)) ∧ w'.cell? ⟨w.heap.size + 1, 4, none⟩ = some (.int .u64 (wd0 y)) ∧ w'.cell? ⟨w.heap.size + 1, 5, none⟩ = some (.int .u64 (wd1 y)) ∧ w'.cell? ⟨w.heap.size + 1, 6, none⟩ = some (.int .u64 (wd2 y)) ∧ w'.cell? ⟨w.heap.size + 1, 7, none⟩ = some (.int .u64 (wd3 y)) ∧ w'.cell? ⟨w.heap.size + 1, 8, none⟩ = some (.int .u64 (wd0 z)) ∧ w'.cell? ⟨w.heap.size + 1, 9, none⟩ = some (.int .u64 (wd1 z)) ∧ w'.cell? ⟨w.heap.size + 1, 10, none⟩ = some (.int .u64 (wd2 z)) ∧ w'.cell? ⟨w.heap.size + 1, 11, none⟩ = some (.int .u64 (wd3 z))) ∧ (w'.cell? ⟨g5, 0, none⟩ = some (.int .i64 l1) ∧ w'.cell? ⟨g5, 1, none⟩ = some (.int .i64 l2)) ∧ (w'.cell? ⟨g6, 0, none⟩ = some (.int .i64 h1) ∧ w'.cell? ⟨g6, 1, none⟩ = some (.int .i64 h2))) ∧ (∀ w', C w' → IsGr W1 w' ∧ W1.heap.size ≤ w'.heap.size) := by
          refine ⟨fun w' => W1.heap.size ≤ w'.heap.size ∧ IsGr W1 w' ∧ (w'.cell? ⟨w.heap.size + 1, 0, none⟩ = some (.int .u64 (wd0 x)) ∧ w'.cell? ⟨w.heap.size + 1, 1, none⟩ = some (.int .u64 (wd1 x)) ∧ w'.cell? ⟨w.heap.size + 1, 2, none⟩ = some (.int .u64 (wd2 x)) ∧ w'.cell? ⟨w.heap.size + 1, 3, none⟩ = some (.int .u64 (wd3 x)) ∧ w'.cell? ⟨w.heap.size + 1, 4, none⟩ = some (.int .u64 (wd0 y)) ∧ w'.cell? ⟨w.heap.size + 1, 5, none⟩ = some (.int .u64 (wd1 y)) ∧ w'.cell? ⟨w.heap.size + 1, 6, none⟩ = some (.int .u64 (wd2 y)) ∧ w'.cell? ⟨w.heap.size + 1, 7, none⟩ = some (.int .u64 (wd3 y)) ∧ w'.cell? ⟨w.heap.size + 1, 8, none⟩ = some (.int .u64 (wd0 z)) ∧ w'.cell? ⟨w.heap.size + 1, 9, none⟩ = some (.int .u64 (wd1 z)) ∧ w'.cell? ⟨w.heap.size + 1, 10, none⟩ = some (.int .u64 (wd2 z)) ∧ w'.cell? ⟨w.heap.size + 1, 11, none⟩ = some (.int .u64 (wd3 z))) ∧ (w'.cell? ⟨g5, 0, none⟩ = some (.int .i64 l1) ∧ w'.cell? ⟨g5, 1, none⟩ = some (.int .i64 l2)) ∧ (w'.cell? ⟨g6, 0, none⟩ = some (.int .i64 h1) ∧ w'.cell? ⟨g6, 1, none⟩ = some (.int .i64 h2)), fun w' h => h, ?_, fun w' h => h.2.2, fun w' h => ⟨h.2.1, h.1⟩⟩
          rintro u u' ⟨h0, h1, h2⟩ hg
          refine ⟨Nat.le_trans h0 hg.size, h1.trans hg, ?_⟩
          exact ⟨⟨hg.cell_at (by omega) h2.1.1, hg.cell_at (by omega) h2.1.2.1, hg.cell_at (by omega) h2.1.2.2.1, hg.cell_at (by omega) h2.1.2.2.2.1, hg.cell_at (by omega) h2.1.2.2.2.2.1, hg.cell_at (by omega) h2.1.2.2.2.2.2.1, hg.cell_at (by omega) h2.1.2.2.2.2.2.2.1, hg.cell_at (by omega) h2.1.2.2.2.2.2.2.2.1, hg.cell_at (by omega) h2.1.2.2.2.2.2.2.2.2.1, hg.cell_at (by omega) h2.1.2.2.2.2.2.2.2.2.2.1, hg.cell_at (by omega) h2.1.2.2.2.2.2.2.2.2.2.2.1, hg.cell_at (by omega) h2.1.2.2.2.2.2.2.2.2.2.2.2⟩, ⟨hg.cell_at (by omega) h2.2.1.1, hg.cell_at (by omega) h2.2.1.2⟩, ⟨hg.cell_at (by omega) h2.2.2.1, hg.cell_at (by omega) h2.2.2.2⟩⟩
        refine wp_region_quietV C (by kernel_rfl) (by kernel_rfl) (hin _ ⟨by simp, (by with_reducible repeat (first | exact IsGr.refl _ | refine IsGr.gr ?_ _ _ | refine IsGr.alloc ?_ _ | refine IsGr.drew ?_ | refine IsGr.drewN ?_ _)), ⟨hx5, hl5, hh6⟩⟩) (fun K HK => ?_)
        refine QK.take HK ?_ (by rfl) ?_ ?_
        rotate_left
        · (intro w hw; (try have hcs := hcells w hw); (try go_split_ands); go_simp <;> with_reducible rfl)
        (try simp only [Act.put, qA, qB, qC])
        refine QK.call HK 37 #[.agg #[.int .i64 l1, .int .i64 l2]] (.agg #[.int .u64 (wd0 l1), .int .u64 (wd1 l1), .int .u64 (wd2 l1), .int .u64 (wd3 l1), .int .u64 (wd0 l2), .int .u64 (wd1 l2), .int .u64 (wd2 l2), .int .u64 (wd3 l2), .int .u64 (wd0 (1)), .int .u64 (wd1 (1)), .int .u64 (wd2 (1)), .int .u64 (wd3 (1))]) hcl (by rfl) (fun w => by go_simp) CA ?_
        (try simp only [Act.put, qA, qB, qC])
        refine QK.take HK ?_ (by rfl) ?_ ?_
        rotate_left
        · (intro w hw; (try have hcs := hcells w hw); (try go_split_ands); go_simp <;> with_reducible rfl)
        (try simp only [Act.put, qA, qB, qC])
        refine QK.call HK 34 #[.agg #[.int .u64 (wd0 l1), .int .u64 (wd1 l1), .int .u64 (wd2 l1), .int .u64 (wd3 l1), .int .u64 (wd0 l2), .int .u64 (wd1 l2), .int .u64 (wd2 l2), .int .u64 (wd3 l2), .int .u64 (wd0 (1)), .int .u64 (wd1 (1)), .int .u64 (wd2 (1)), .int .u64 (wd3 (1))], .agg #[.int .u64 (wd0 x), .int .u64 (wd1 x), .int .u64 (wd2 x), .int .u64 (wd3 x), .int .u64 (wd0 y), .int .u64 (wd1 y), .int .u64 (wd2 y), .int .u64 (wd3 y), .int .u64 (wd0 z), .int .u64 (wd1 z), .int .u64 (wd2 z), .int .u64 (wd3 z)]] (.int .i64 (1)) hcl (by rfl) (fun w => by go_simp) CL ?_
        (try simp only [Act.put, qA, qB, qC])
        refine QK.take HK ?_ (by rfl) ?_ ?_
        rotate_left
        · (intro w hw; (try have hcs := hcells w hw); (try go_split_ands); go_simp <;> with_reducible rfl)
        (try simp only [Act.put, qA, qB, qC])
        refine QK.take HK ?_ (by rfl) ?_ ?_
        rotate_left
        · (intro w hw; (try have hcs := hcells w hw); (try go_split_ands); go_simp <;> with_reducible rfl)
        (try simp only [Act.put, qA, qB, qC])
        refine QK.skip HK (by rfl) ?_
        (try simp only [Act.put, qA, qB, qC])
        refine QK.skip HK (by rfl) ?_
        (try simp only [Act.put, qA, qB, qC])
        refine QK.skip HK (by rfl) ?_
        (try simp only [Act.put, qA, qB, qC])
        refine QK.skip HK (by rfl) ?_
        (try simp only [Act.put, qA, qB, qC])
        refine QK.skip HK (by rfl) ?_
        (try simp only [Act.put, qA, qB, qC])
        refine QK.take HK ?_ (by rfl) ?_ ?_
        rotate_left
        · (intro w hw; (try have hcs := hcells w hw); (try go_split_ands); go_simp <;> with_reducible rfl)
        (try simp only [Act.put, qA, qB, qC])
        refine QK.take HK ?_ (by rfl) ?_ ?_
        rotate_left
        · (intro w hw; (try have hcs := hcells w hw); (try go_split_ands); go_simp <;> with_reducible rfl)
        (try simp only [Act.put, qA, qB, qC])
        refine QK.nil HK ?_
        clear HK K
        intro wq hq
        have hg := (hgr wq hq).1
        clear hcells hin hcl hgr hq
        go_wp2
        go_ret
        exact ⟨ret_bool HR.out, HG.out.trans hg⟩
  · have hX : (cmpI T 0 == 0) = false := by
      rcases cmpI_cases T 0 with ⟨e, g⟩ | ⟨e, g⟩ | ⟨e, g⟩
      · rw [e]; rfl
      · exact absurd g hT
      · rw [e]; rfl
    have HR : Hid (false = B) := by unfold Hid; rw [hB]; simp [hT]
    generalize cmpI T 0 = X at *
    clear hB hT
    go_enter Try.func30, Try.ntmps30
    go_wp2_with fail
    refine (C1 _).mono ?_
    rintro e w1 ⟨rfl, os1, m1, rfl⟩
    go_wp2_with fail
    refine (C2 _).mono ?_
    rintro e w1 ⟨rfl, os2, m2, rfl⟩
    go_wp2_with fail
    refine (CS _).mono ?_
    rintro e w1 ⟨rfl, os3, m3, rfl⟩
    go_wp2
    go_ret
    exact ⟨ret_bool HR.out, (by with_reducible repeat (first | exact IsGr.refl _ | refine IsGr.gr ?_ _ _ | refine IsGr.alloc ?_ _ | refine IsGr.drew ?_ | refine IsGr.drewN ?_ _))⟩

theorem onP_right {a1 a2 b1 b2 p1 p2 : Int} (h : onP a1 a2 b1 b2 p1 p2 = true) : rightP a1 a2 = true ∧ rightP b1 b2 = true ∧ rightP p1 p2 = true := by
  simp only [onP, Bool.and_eq_true] at h
  exact right3_t h.1.1
set_option maxRecDepth 20000 in set_option maxHeartbeats 2000000 in
theorem meetPoint_no (a1 a2 b1 b2 p1 p2 : Int) (h : onP a1 a2 b1 b2 p1 p2 = false) (w : World) :
    Calls Try.prog 60 #[.agg #[.int .i64 a1, .int .i64 a2, .int .i64 b1, .int .i64 b2], .agg #[.int .i64 p1, .int .i64 p2]] w fun e w' => e = .returned (.tuple #[.int .i64 0, .agg #[.int .u64 0, .int .u64 0, .int .u64 0, .int .u64 0, .int .u64 0, .int .u64 0, .int .u64 0, .int .u64 0, .int .u64 0, .int .u64 0, .int .u64 0, .int .u64 0]]) ∧ IsGr w w' := by
  have C1 := fun w => On_any a1 a2 b1 b2 p1 p2 w
  rw [h] at C1
  go_enter Try.func60, Try.ntmps60
  go_wp2_with fail
  refine (C1 _).mono ?_
  rintro e w1 ⟨rfl, os1, m1, rfl⟩
  go_wp2
  exact bodyPost_ret (v := .tuple #[.int .i64 0, .agg #[.int .u64 0, .int .u64 0, .int .u64 0, .int .u64 0, .int .u64 0, .int .u64 0, .int .u64 0, .int .u64 0, .int .u64 0, .int .u64 0, .int .u64 0, .int .u64 0]]) (by simp [results, Try.results60, go_sem]) rfl ⟨rfl, (by with_reducible repeat (first | exact IsGr.refl _ | refine IsGr.gr ?_ _ _ | refine IsGr.alloc ?_ _ | refine IsGr.drew ?_ | refine IsGr.drewN ?_ _))⟩

set_option maxRecDepth 20000 in set_option maxHeartbeats 2000000 in
theorem meetPoint_yes (a1 a2 b1 b2 p1 p2 : Int) (h : onP a1 a2 b1 b2 p1 p2 = true) (w : World) :
    Calls Try.prog 60 #[.agg #[.int .i64 a1, .int .i64 a2, .int .i64 b1, .int .i64 b2], .agg #[.int .i64 p1, .int .i64 p2]] w fun e w' => e = .returned (.tuple #[.int .i64 1, .agg #[.int .u64 (wd0 p1), .int .u64 (wd1 p1), .int .u64 (wd2 p1), .int .u64 (wd3 p1), .int .u64 (wd0 p2), .int .u64 (wd1 p2), .int .u64 (wd2 p2), .int .u64 (wd3 p2), .int .u64 (wd0 1), .int .u64 (wd1 1), .int .u64 (wd2 1), .int .u64 (wd3 1)]]) ∧ IsGr w w' := by
  have C1 := fun w => On_any a1 a2 b1 b2 p1 p2 w
  have C2 := fun w => At_yes p1 p2 (onP_right h).2.2 w
  rw [h] at C1
  clear h
  go_enter Try.func60, Try.ntmps60
  go_wp2_with fail
  refine (C1 _).mono ?_
  rintro e w1 ⟨rfl, os1, m1, rfl⟩
  go_wp2_with fail
  refine (C2 _).mono ?_
  rintro e w1 ⟨rfl, os2, m2, rfl⟩
  go_wp2
  exact bodyPost_ret (v := .tuple #[.int .i64 1, .agg #[.int .u64 (wd0 p1), .int .u64 (wd1 p1), .int .u64 (wd2 p1), .int .u64 (wd3 p1), .int .u64 (wd0 p2), .int .u64 (wd1 p2), .int .u64 (wd2 p2), .int .u64 (wd3 p2), .int .u64 (wd0 1), .int .u64 (wd1 1), .int .u64 (wd2 1), .int .u64 (wd3 1)]]) (by simp [results, Try.results60, go_sem]) rfl ⟨rfl, (by with_reducible repeat (first | exact IsGr.refl _ | refine IsGr.gr ?_ _ _ | refine IsGr.alloc ?_ _ | refine IsGr.drew ?_ | refine IsGr.drewN ?_ _))⟩

end Go.Proofs.Ytohhlhoijanjfaa
