/- Fractions of package gromaref02 held against each other; even numbers. -/
import Derived.Test.YtpdpofgmedoelaaR11
import Derived.Test.YtpdpofgmedoelaaG2
namespace Go.Proofs.Ytpdpofgmedoelaa
open Go.RowKit
attribute [local go_sem] Gr.size Gr.cell? Gr.frozen? Gr.setCell Gr.drew Gr.drewN Gr.of_drew Gr.of_drewN Gr.gr Gr.lt_of1 Gr.le_of1 Gr.lt_of2 Gr.le_of2 Gr.lt_of3 Gr.le_of3 Gr.lt_of4 Gr.le_of4 Gr.lt_of5 Gr.le_of5 Gr.lt_of6 Gr.le_of6 Gr.lt_of7 Gr.le_of7 Gr.lt_of8 Gr.le_of8 Gr.lt_of9 Gr.le_of9 Gr.lt_of10 Gr.le_of10 Gr.lt_of11 Gr.le_of11 Gr.lt_of12 Gr.le_of12 Gr.lt_of13 Gr.le_of13 Gr.lt_of14 Gr.le_of14 Gr.lt_of15 Gr.le_of15 Gr.lt_of16 Gr.le_of16 Gr.lt_of17 Gr.le_of17 Gr.lt_of18 Gr.le_of18 Gr.lt_of19 Gr.le_of19 Gr.lt_of20 Gr.le_of20 Gr.lt_of21 Gr.le_of21 Gr.lt_of22 Gr.le_of22 Gr.lt_of23 Gr.le_of23 Gr.lt_of24 Gr.le_of24

set_option maxRecDepth 20000 in set_option maxHeartbeats 4000000 in
theorem RefCmp_any (s1 t1 s2 t2 : Bool) (a1 b1 a2 b2 : Option Addr) (k1 c1 i1 j1 k2 c2 i2 j2 : Nat) (n1 d1 n2 d2 : Int) (w : World)
    (h1 : IsBig w (.agg #[.bool s1, .slice a1 k1 c1]) n1) (g1 : IsBig w (.agg #[.bool t1, .slice b1 i1 j1]) d1) (h2 : IsBig w (.agg #[.bool s2, .slice a2 k2 c2]) n2) (g2 : IsBig w (.agg #[.bool t2, .slice b2 i2 j2]) d2)
    (x1 : Sm n1) (y1 : Sm d1) (x2 : Sm n2) (y2 : Sm d2) (p1 : Sm (n1 * d2)) (p2 : Sm (n2 * d1)) :
    Calls Try.prog 38 #[.agg #[.bool s1, .slice a1 k1 c1, .bool t1, .slice b1 i1 j1], .agg #[.bool s2, .slice a2 k2 c2, .bool t2, .slice b2 i2 j2]] w fun e w' => e = .returned (.int .i64 (cmpI (n1 * d2) (n2 * d1))) ∧ IsGr w w' := by
  have M1 := fun w1 (hg : IsGr w w1) => BigMul_any _ _ n1 d2 w1 (h1.gr hg) (g2.gr hg) x1 y2
  have M2 := fun w1 (hg : IsGr w w1) => BigMul_any _ _ n2 d1 w1 (h2.gr hg) (g1.gr hg) x2 y1
  have CC := fun w1 u v (hu : IsBig w1 u (n1 * d2)) (hv : IsBig w1 v (n2 * d1)) => BigCmp_any u v (n1 * d2) (n2 * d1) w1 hu hv p1 p2
  generalize cmpI (n1 * d2) (n2 * d1) = K at CC
  have tok1 : True := trivial
  clear h1 g1 h2 g2
  go_enter Try.func38, Try.ntmps38
  go_upto_region 1 with fail
  go_region_held3 (fun w' => (w'.cell? ⟨w.heap.size, 0, none⟩ = some (.bool s1) ∧ w'.cell? ⟨w.heap.size, 1, none⟩ = some (.slice a1 k1 c1) ∧ w'.cell? ⟨w.heap.size, 2, none⟩ = some (.bool t1) ∧ w'.cell? ⟨w.heap.size, 3, none⟩ = some (.slice b1 i1 j1)) ∧ (w'.cell? ⟨w.heap.size + 1, 0, none⟩ = some (.bool s2) ∧ w'.cell? ⟨w.heap.size + 1, 1, none⟩ = some (.slice a2 k2 c2) ∧ w'.cell? ⟨w.heap.size + 1, 2, none⟩ = some (.bool t2) ∧ w'.cell? ⟨w.heap.size + 1, 3, none⟩ = some (.slice b2 i2 j2))) (simp [go_sem])
    ((first | (go_at_call 24; have _t := tok1; refine (M1 _ ?_).mono ?_; exact (by with_reducible repeat (first | exact IsGr.refl _ | refine IsGr.gr ?_ _ _ | refine IsGr.alloc ?_ _ | refine IsGr.drew ?_ | refine IsGr.drewN ?_ _)); rintro e w1 ⟨u, rfl, hu, os2, m2, rfl⟩; obtain ⟨us, ua, un, uc, rfl⟩ := hu.shape; clear tok1) | (go_at_call 24; refine (M2 _ ?_).mono ?_; exact (by with_reducible repeat (first | exact IsGr.refl _ | refine IsGr.gr ?_ _ _ | refine IsGr.alloc ?_ _ | refine IsGr.drew ?_ | refine IsGr.drewN ?_ _)); rintro e w1 ⟨v, rfl, hv, os3, m3, rfl⟩; obtain ⟨vs, va, vn, vc, rfl⟩ := hv.shape) | (go_at_call 19; refine (CC _ _ _ (hu.gr ?_) (hv.gr ?_)).mono ?_; exact (by repeat (first | with_reducible exact IsGr.refl _ | (refine ⟨os3, m3, ?_⟩; (try simp only [Gr.of_drew]); (try simp only [Gr.gr]); (try simp only [Array.append_assoc]); (try simp only [Array.append_empty]); (try with_reducible rfl); done) | with_reducible refine IsGr.alloc ?_ _ | with_reducible refine IsGr.gr ?_ _ _ | with_reducible refine IsGr.drew ?_ | with_reducible refine IsGr.drewN ?_ _)); exact (by repeat (first | with_reducible exact IsGr.refl _ | (refine ⟨#[], m3, ?_⟩; (try simp only [Gr.of_drew]); (try simp only [Gr.gr]); (try simp only [Array.append_assoc]); (try simp only [Array.append_empty]); (try with_reducible rfl); done) | with_reducible refine IsGr.alloc ?_ _ | with_reducible refine IsGr.gr ?_ _ _ | with_reducible refine IsGr.drew ?_ | with_reducible refine IsGr.drewN ?_ _)); rintro e w1 ⟨rfl, os4, m4, rfl⟩)))
  all_goals
    go_wp2
    go_ret
    exact ⟨rfl, (by with_reducible repeat (first | exact IsGr.refl _ | refine IsGr.gr ?_ _ _ | refine IsGr.alloc ?_ _ | refine IsGr.drew ?_ | refine IsGr.drewN ?_ _))⟩

theorem vl_even {l : List Int} : vl 32768 l % 2 = l.getD 0 0 % 2 := by
  match l with
  | [] => rfl
  | d :: r => simp [vl]; omega

end Go.Proofs.Ytpdpofgmedoelaa
