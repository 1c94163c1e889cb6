/- Contracts of package gromaref03 over the loaded program: square, lift. -/
import Derived.Test.YtecohcgcffhlnaaU5
namespace Go.Proofs.Ytecohcgcffhlnaa
open Go.RowKit Go.Shelf
attribute [local go_sem] Gr.size Gr.cell? Gr.frozen? Gr.setCell Gr.drew Gr.drewN Gr.of_drew Gr.of_drewN Gr.gr Gr.lt_of1 Gr.le_of1 Gr.lt_of2 Gr.le_of2 Gr.lt_of3 Gr.le_of3 Gr.lt_of4 Gr.le_of4 Gr.lt_of5 Gr.le_of5 Gr.lt_of6 Gr.le_of6 Gr.lt_of7 Gr.le_of7 Gr.lt_of8 Gr.le_of8 Gr.lt_of9 Gr.le_of9 Gr.lt_of10 Gr.le_of10 Gr.lt_of11 Gr.le_of11 Gr.lt_of12 Gr.le_of12 Gr.lt_of13 Gr.le_of13 Gr.lt_of14 Gr.le_of14 Gr.lt_of15 Gr.le_of15 Gr.lt_of16 Gr.le_of16 Gr.lt_of17 Gr.le_of17 Gr.lt_of18 Gr.le_of18 Gr.lt_of19 Gr.le_of19 Gr.lt_of20 Gr.le_of20 Gr.lt_of21 Gr.le_of21 Gr.lt_of22 Gr.le_of22 Gr.lt_of23 Gr.le_of23 Gr.lt_of24 Gr.le_of24

theorem bd_sq {x : Int} (h : -2199023255552 ≤ x ∧ x ≤ 2199023255552) : 0 ≤ x * x ∧ x * x ≤ 4835703278458516698824704 := by
  have h1 : 0 ≤ x * x := by
    rcases Int.le_total 0 x with h0 | h0
    · exact Int.mul_nonneg h0 h0
    · exact Int.mul_nonneg_of_nonpos_of_nonpos h0 h0
  refine ⟨h1, ?_⟩
  rcases Int.le_total 0 x with h0 | h0
  · have := Int.mul_le_mul h.2 h.2 h0 (by omega)
    omega
  · have h2 : 0 ≤ -x := by omega
    have h3 : -x ≤ 2199023255552 := by omega
    have := Int.mul_le_mul h3 h3 h2 (by omega)
    rw [Int.neg_mul_neg] at this
    omega

set_option maxRecDepth 20000 in set_option maxHeartbeats 2000000 in
theorem RefSquare_any (n : Int) (n0 : -2199023255552 ≤ n) (n1 : n ≤ 2199023255552) (w : World) :
    Calls Try.prog 92 #[.int .i64 n] w fun e w' => ∃ z, e = .returned z ∧ IsBig w' z (n * n) ∧ IsGr w w' := by
  have O := fun w => BigOf_any n (by omega) (by omega) w
  have sn : Sm n := by unfold Sm; omega
  clear n0 n1
  go_enter Try.func92, Try.ntmps92
  go_wp2_with fail
  refine (O _).mono ?_
  rintro e w1 ⟨x, rfl, hx, os1, m1, rfl⟩
  (try simp only [Gr.of_drew] at hx); (try simp only [Gr.gr] at hx); (try simp only [Array.append_assoc] at hx)
  obtain ⟨xs, xa, xn, xc, rfl⟩ := hx.shape
  go_wp2_with fail
  refine (O _).mono ?_
  rintro e w1 ⟨y, rfl, hy, os2, m2, rfl⟩
  (try simp only [Gr.of_drew] at hy); (try simp only [Gr.gr] at hy); (try simp only [Array.append_assoc] at hy)
  obtain ⟨ys, ya, yn, yc, rfl⟩ := hy.shape
  go_wp2_with fail
  refine (BigMul_any _ _ n n _ (hx.gr ?_) (hy.gr ?_) sn sn).mono ?_
  · exact (by with_reducible repeat (first | exact IsGr.refl _ | exact IsGr.app0 _ _ _ _ | exact IsGr.app1 _ _ _ _ _ | exact IsGr.app2 _ _ _ _ _ _ | exact IsGr.app3 _ _ _ _ _ _ _ | refine IsGr.gr ?_ _ _ | refine IsGr.alloc ?_ _ | refine IsGr.drew ?_))
  · exact (by with_reducible repeat (first | exact IsGr.refl _ | exact IsGr.app0 _ _ _ _ | exact IsGr.app1 _ _ _ _ _ | exact IsGr.app2 _ _ _ _ _ _ | exact IsGr.app3 _ _ _ _ _ _ _ | refine IsGr.gr ?_ _ _ | refine IsGr.alloc ?_ _ | refine IsGr.drew ?_))
  rintro e w1 ⟨r, rfl, hr, os3, m3, rfl⟩
  (try simp only [Gr.of_drew] at hr); (try simp only [Gr.gr] at hr); (try simp only [Array.append_assoc] at hr)
  obtain ⟨rs, ra, rn, rc, rfl⟩ := hr.shape
  go_wp2
  refine bodyPost_ret (v := .agg #[.bool rs, .slice ra rn rc]) (by simp [results, Try.results92, go_sem]) rfl ⟨_, rfl, hr.kb ?_, (by with_reducible repeat (first | exact IsGr.refl _ | refine IsGr.gr ?_ _ _ | refine IsGr.alloc ?_ _ | refine IsGr.drew ?_ | refine IsGr.drewN ?_ _))⟩
  with_reducible repeat (first | exact Kb.refl _ | refine Kb.gr ?_ (by first | (simp; done) | simp [Gr.size]) _ _ _ | refine Kb.gr_app ?_ (by first | (simp; done) | simp [Gr.size]) _ _ _ _ | refine Kb.box ?_ (by first | (simp; done) | simp [Gr.size]) _ _ _ _ _ _ _ _ _ | refine Kb.alloc ?_ (by first | (simp; done) | simp [Gr.size]) _ | refine Kb.drew_l ?_ | refine Kb.drew_r ?_ | refine Kb.lay ?_ _ | refine Kb.grow ?_ _ _)


/-- The sum of the squares of both coordinates. -/
def liftQ (a1 a2 : Int) : Int := a1 * a1 + a2 * a2
set_option maxRecDepth 20000 in set_option maxHeartbeats 2000000 in
theorem RefLift_any (a1 a2 : Int) (ha : rightP a1 a2 = true) (w : World) :
    Calls Try.prog 67 #[.agg #[.int .i64 a1, .int .i64 a2]] w fun e w' => ∃ z, e = .returned z ∧ IsBig w' z (liftQ a1 a2) ∧ IsGr w w' := by
  have ra := rightP_t ha
  have C1 := fun w => RefSquare_any a1 (by omega) (by omega) w
  have C2 := fun w => RefSquare_any a2 (by omega) (by omega) w
  have b1 := bd_sq (x := a1) (by omega)
  have b2 := bd_sq (x := a2) (by omega)
  have s1 : Sm (a1 * a1) := by unfold Sm; omega
  have s2 : Sm (a2 * a2) := by unfold Sm; omega
  have CA := fun u v w hu hv => BigAdd_any u v (a1 * a1) (a2 * a2) w hu hv s1 s2
  rw [show a1 * a1 + a2 * a2 = liftQ a1 a2 from rfl] at CA
  generalize a1 * a1 = X at C1 CA
  generalize a2 * a2 = Y at C2 CA
  clear ra ha b1 b2 s1 s2
  go_enter Try.func67, Try.ntmps67
  go_upto_region 1 with fail
  go_region_held3 (fun w' => w'.cell? ⟨w.heap.size, 0, none⟩ = some (.int .i64 a1) ∧ w'.cell? ⟨w.heap.size, 1, none⟩ = some (.int .i64 a2)) (simp [go_sem])
    ((first | (go_at_call_of 92 (Value.int IntKind.i64 a1); refine (C1 _).mono ?_; rintro e w1 ⟨x, rfl, hx, os1, m1, rfl⟩; (try simp only [Gr.of_drew] at hx); (try simp only [Gr.gr] at hx); (try simp only [Array.append_assoc] at hx); obtain ⟨xs, xa, xn, xc, rfl⟩ := hx.shape) | (go_at_call_of 92 (Value.int IntKind.i64 a2); refine (C2 _).mono ?_; rintro e w1 ⟨y, rfl, hy, os2, m2, rfl⟩; (try simp only [Gr.of_drew] at hy); (try simp only [Gr.gr] at hy); (try simp only [Array.append_assoc] at hy); obtain ⟨ys, ya, yn, yc, rfl⟩ := hy.shape) | (go_at_call 24; refine (CA _ _ _ (hx.gr ?_) (hy.gr ?_)).mono ?_; exact (by with_reducible repeat (first | exact IsGr.refl _ | exact IsGr.app0 _ _ _ _ | exact IsGr.app1 _ _ _ _ _ | exact IsGr.app2 _ _ _ _ _ _ | exact IsGr.app3 _ _ _ _ _ _ _ | refine IsGr.gr ?_ _ _ | refine IsGr.alloc ?_ _ | refine IsGr.drew ?_)); exact (by with_reducible repeat (first | exact IsGr.refl _ | exact IsGr.app0 _ _ _ _ | exact IsGr.app1 _ _ _ _ _ | exact IsGr.app2 _ _ _ _ _ _ | exact IsGr.app3 _ _ _ _ _ _ _ | refine IsGr.gr ?_ _ _ | refine IsGr.alloc ?_ _ | refine IsGr.drew ?_)); rintro e w1 ⟨r, rfl, hr, os3, m3, rfl⟩; (try simp only [Gr.of_drew] at hr); (try simp only [Gr.gr] at hr); (try simp only [Array.append_assoc] at hr); obtain ⟨rs, ra, rn, rc, rfl⟩ := hr.shape)))
  all_goals
    go_wp2
    refine bodyPost_ret (v := .agg #[.bool rs, .slice ra rn rc]) (by simp [results, Try.results67, go_sem]) rfl ⟨_, rfl, hr.kb ?_, (by with_reducible repeat (first | exact IsGr.refl _ | refine IsGr.gr ?_ _ _ | refine IsGr.alloc ?_ _ | refine IsGr.drew ?_ | refine IsGr.drewN ?_ _))⟩
    with_reducible repeat (first | exact Kb.refl _ | refine Kb.gr ?_ (by first | (simp; done) | simp [Gr.size]) _ _ _ | refine Kb.gr_app ?_ (by first | (simp; done) | simp [Gr.size]) _ _ _ _ | refine Kb.box ?_ (by first | (simp; done) | simp [Gr.size]) _ _ _ _ _ _ _ _ _ | refine Kb.alloc ?_ (by first | (simp; done) | simp [Gr.size]) _ | refine Kb.drew_l ?_ | refine Kb.drew_r ?_ | refine Kb.lay ?_ _ | refine Kb.grow ?_ _ _)
end Go.Proofs.Ytecohcgcffhlnaa
