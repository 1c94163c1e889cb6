/- Helpers of the statements of layer 1: is. -/
import Derived.Test.YtpdpofgmedoelaaR9
import Derived.Test.YtpdpofgmedoelaaW11
namespace Go.Proofs.Ytpdpofgmedoelaa
open Go.RowKit
attribute [local go_sem] Gr.size Gr.cell? Gr.frozen? Gr.setCell Gr.drew Gr.drewN Gr.of_drew Gr.of_drewN Gr.gr Gr.lt_of1 Gr.le_of1 Gr.lt_of2 Gr.le_of2 Gr.lt_of3 Gr.le_of3 Gr.lt_of4 Gr.le_of4 Gr.lt_of5 Gr.le_of5 Gr.lt_of6 Gr.le_of6 Gr.lt_of7 Gr.le_of7 Gr.lt_of8 Gr.le_of8

/-- Are they the same number? -/
def same (x y : Int) : Bool := cmpI x y == 0
theorem same_eq {x y : Int} : same x y = decide (x = y) := by
  unfold same cmpI
  repeat' split
  all_goals simp
  all_goals omega

set_option maxHeartbeats 2000000 in
theorem is_any {x0 x1 x2 x3 x : Int} (hx : IsI x0 x1 x2 x3 x) (v : Value) (y : Int) (w : World) (hv : IsBig w v y) (sy : Sm y) :
    Calls Try.prog 76 #[.agg #[.int .u64 x0, .int .u64 x1, .int .u64 x2, .int .u64 x3], v] w fun e w' => e = .returned (.bool (same x y)) ∧ IsGr w w' := by
  obtain ⟨s, a, n, c, rfl⟩ := hv.shape
  have RX := fun w => Read_any hx.1 hx.2.1 hx.2.2 w
  have sx : Sm x := by have := hx.2; unfold Sm; omega
  have CC := fun w1 (hg : IsGr w w1) u (hu : IsBig w1 u x) => BigCmp_any u _ x y w1 hu (hv.gr hg) sx sy
  have hf : Hid (same x y = (cmpI x y == 0)) := rfl
  generalize cmpI x y = C at CC hf
  clear hx hv
  go_enter Try.func76, Try.ntmps76
  go_upto_region 1 with fail
  go_region_held3 (fun w' => (w'.cell? ⟨w.heap.size, 0, none⟩ = some (.int .u64 x0) ∧ w'.cell? ⟨w.heap.size, 1, none⟩ = some (.int .u64 x1) ∧ w'.cell? ⟨w.heap.size, 2, none⟩ = some (.int .u64 x2) ∧ w'.cell? ⟨w.heap.size, 3, none⟩ = some (.int .u64 x3)) ∧ w'.cell? ⟨w.heap.size + 1, 0, none⟩ = some (.bool s) ∧ w'.cell? ⟨w.heap.size + 1, 1, none⟩ = some (.slice a n c)) (simp [go_sem])
    ((first | (go_at_call 15; refine (RX _).mono ?_; rintro e w1 ⟨u, rfl, hu, os2, n2, rfl⟩; obtain ⟨us, ua, un, uc, rfl⟩ := hu.shape) | (go_at_call 19; refine (CC _ ?_ _ ?_).mono ?_; exact (by with_reducible repeat (first | exact IsGr.refl _ | refine IsGr.gr ?_ _ _ | refine IsGr.alloc ?_ _ | refine IsGr.drew ?_ | refine IsGr.drewN ?_ _)); (simpa only [Gr.gr, Gr.of_drew, Array.append_assoc] using hu); rintro e w1 ⟨rfl, os3, d3, rfl⟩)))
  all_goals
    go_wp2
    go_ret
    exact ⟨ret_bool' hf.out, (by with_reducible repeat (first | exact IsGr.refl _ | refine IsGr.gr ?_ _ _ | refine IsGr.alloc ?_ _ | refine IsGr.drew ?_ | refine IsGr.drewN ?_ _))⟩

theorem fits_t {x : Int} (h : -57896044618658097711785492504343953926634992332820282019728792003956564819968 ≤ x ∧ x < 57896044618658097711785492504343953926634992332820282019728792003956564819968) : fits x = true := by unfold fits; simp; exact ⟨h.1, h.2⟩
theorem fits_f {x : Int} (h : ¬ (-57896044618658097711785492504343953926634992332820282019728792003956564819968 ≤ x ∧ x < 57896044618658097711785492504343953926634992332820282019728792003956564819968)) : fits x = false := by unfold fits; simp; omega

set_option maxHeartbeats 2000000 in
theorem told_any {s0 s1 s2 s3 z : Int} {ok : Bool} (h : Told z s0 s1 s2 s3 ok) (v : Value) (w : World) (hv : IsBig w v z) (sz : Sm z) :
    Calls Try.prog 28 #[.agg #[.int .u64 s0, .int .u64 s1, .int .u64 s2, .int .u64 s3], .bool ok, v] w fun e w' => e = .returned (.bool true) ∧ IsGr w w' := by
  obtain ⟨t, a, n, c, rfl⟩ := hv.shape
  have CF := fun w1 (hg : IsGr w w1) => Fits_any _ z w1 (hv.gr hg) sz
  rcases h with ⟨rfl, hi⟩ | ⟨rfl, hn, rfl, rfl, rfl, rfl⟩
  · rw [fits_t hi.2] at CF
    have CI := fun w1 (hg : IsGr w w1) => is_any hi _ z w1 (hv.gr hg) sz
    rw [show same z z = true by rw [same_eq]; simp] at CI
    clear hv hi
    go_enter Try.func28, Try.ntmps28
    go_wp2_with fail
    refine (CF _ ?_).mono ?_
    exact (by with_reducible repeat (first | exact IsGr.refl _ | refine IsGr.gr ?_ _ _ | refine IsGr.alloc ?_ _ | refine IsGr.drew ?_ | refine IsGr.drewN ?_ _))
    rintro e w1 ⟨rfl, os1, n1, rfl⟩
    go_wp2_with fail
    refine (CI _ ?_).mono ?_
    exact (by with_reducible repeat (first | exact IsGr.refl _ | refine IsGr.gr ?_ _ _ | refine IsGr.alloc ?_ _ | refine IsGr.drew ?_ | refine IsGr.drewN ?_ _))
    rintro e w1 ⟨rfl, os2, n2, rfl⟩
    go_wp2
    go_ret
    exact ⟨rfl, (by with_reducible repeat (first | exact IsGr.refl _ | refine IsGr.gr ?_ _ _ | refine IsGr.alloc ?_ _ | refine IsGr.drew ?_ | refine IsGr.drewN ?_ _))⟩
  · rw [fits_f hn] at CF
    have he := fun w => eqI_t Is.zero Is.zero rfl w
    clear hv
    go_enter Try.func28, Try.ntmps28
    go_wp2_with fail
    refine (CF _ ?_).mono ?_
    exact (by with_reducible repeat (first | exact IsGr.refl _ | refine IsGr.gr ?_ _ _ | refine IsGr.alloc ?_ _ | refine IsGr.drew ?_ | refine IsGr.drewN ?_ _))
    rintro e w1 ⟨rfl, os1, n1, rfl⟩
    go_wp2
    go_ret
    exact ⟨rfl, (by with_reducible repeat (first | exact IsGr.refl _ | refine IsGr.gr ?_ _ _ | refine IsGr.alloc ?_ _ | refine IsGr.drew ?_ | refine IsGr.drewN ?_ _))⟩
end Go.Proofs.Ytpdpofgmedoelaa
