/- Fits of package gromaref01. -/
import Derived.Test.YtecohcgcffhlnaaR8
namespace Go.Proofs.Ytecohcgcffhlnaa
open Go.RowKit
attribute [local go_sem] Gr.size Gr.cell? Gr.frozen? Gr.setCell Gr.drew Gr.drewN Gr.of_drew Gr.of_drewN Gr.gr Gr.lt_of1 Gr.le_of1 Gr.lt_of2 Gr.le_of2 Gr.lt_of3 Gr.le_of3 Gr.lt_of4 Gr.le_of4 Gr.lt_of5 Gr.le_of5 Gr.lt_of6 Gr.le_of6 Gr.lt_of7 Gr.le_of7 Gr.lt_of8 Gr.le_of8

/-- Is it from -2^255 to 2^255 - 1? -/
def fits (x : Int) : Bool := decide (-57896044618658097711785492504343953926634992332820282019728792003956564819968 ≤ x) && decide (x < 57896044618658097711785492504343953926634992332820282019728792003956564819968)

theorem ret_bool' {a b : Bool} (h : b = a) : Ending.returned (.bool a) = .returned (.bool b) := by rw [h]
set_option maxHeartbeats 2000000 in
theorem Fits_any (v : Value) (x : Int) (w : World) (hv : IsBig w v x) (sx : Sm x) :
    Calls Try.prog 26 #[v] w fun e w' => e = .returned (.bool (fits x)) ∧ IsGr w w' := by
  obtain ⟨s, a, n, c, rfl⟩ := hv.shape
  have CP := fun w1 => Power_any 255 w1 (by omega) (by omega)
  rw [show (2 : Int) ^ (255 : Int).toNat = 57896044618658097711785492504343953926634992332820282019728792003956564819968 by decide] at CP
  have sH : Sm 57896044618658097711785492504343953926634992332820282019728792003956564819968 := by unfold Sm; omega
  have sN : Sm (0 - 57896044618658097711785492504343953926634992332820282019728792003956564819968) := by unfold Sm; omega
  have CB := fun w1 (hg : IsGr w w1) t (ht : IsBig w1 t (0 - 57896044618658097711785492504343953926634992332820282019728792003956564819968)) => BigCmp_any _ t x (0 - 57896044618658097711785492504343953926634992332820282019728792003956564819968) w1 (hv.gr hg) ht sx sN
  have CC := fun w1 (hg : IsGr w w1) t (ht : IsBig w1 t 57896044618658097711785492504343953926634992332820282019728792003956564819968) => BigCmp_any _ t x 57896044618658097711785492504343953926634992332820282019728792003956564819968 w1 (hv.gr hg) ht sx sH
  generalize hA : cmpI x (0 - 57896044618658097711785492504343953926634992332820282019728792003956564819968) = A at CB
  generalize hB : cmpI x 57896044618658097711785492504343953926634992332820282019728792003956564819968 = B at CC
  have hf : Hid (fits x = (decide (0 ≤ A) && decide (B < 0))) := by
    subst hA hB
    unfold Hid fits cmpI
    repeat' split
    all_goals simp
    all_goals omega
  clear hA hB hv
  have Q : (decide (0 ≤ A) = true ∧ decide (B < 0) = true) ∨ (decide (0 ≤ A) = true ∧ decide (B < 0) = false) ∨ decide (0 ≤ A) = false := by
    cases decide (0 ≤ A) <;> cases decide (B < 0) <;> simp
  rcases Q with ⟨qa, qb⟩ | ⟨qa, qb⟩ | qa
  · rw [qa, qb] at hf
    have pa := of_decide_eq_true qa
    have pb := of_decide_eq_true qb
    go_enter Try.func26, Try.ntmps26
    go_wp2_with fail
    refine (CP _).mono ?_
    rintro e w1 ⟨t, rfl, ht, os1, d1, rfl⟩
    obtain ⟨ts, ta, tn, tc, rfl⟩ := ht.shape
    have HT := fun w2 (hg : IsGr ((Gr (w.alloc (.cells #[.bool s, .slice a n c] 31)) os1 d1).alloc (.cells #[.bool ts, .slice ta tn tc] 31)) w2) => ht.gr ((IsGr.alloc (IsGr.refl _) _).trans hg)
    have tok1 : True := trivial
    go_upto_region 2 with fail
    go_region_held3 (fun w' => w'.cell? ⟨w.heap.size, 0, none⟩ = some (.bool s) ∧ w'.cell? ⟨w.heap.size, 1, none⟩ = some (.slice a n c) ∧ w'.cell? ⟨w.heap.size + 1 + os1.size, 0, none⟩ = some (.bool ts) ∧ w'.cell? ⟨w.heap.size + 1 + os1.size, 1, none⟩ = some (.slice ta tn tc)) (simp [go_sem])
      ((first | (go_at_call 12; refine (Minus_any _ 57896044618658097711785492504343953926634992332820282019728792003956564819968 _ (HT _ ?_) sH).mono ?_; exact (by with_reducible repeat (first | exact IsGr.refl _ | refine IsGr.gr ?_ _ _ | refine IsGr.alloc ?_ _ | refine IsGr.drew ?_ | refine IsGr.drewN ?_ _)); rintro e w1 ⟨u, rfl, hu, os2, d2, rfl⟩; obtain ⟨us, ua, un, uc, rfl⟩ := hu.shape) | (go_at_call 15; have _t := tok1; refine (CB _ ?_ _ ?_).mono ?_; exact (by with_reducible repeat (first | exact IsGr.refl _ | refine IsGr.gr ?_ _ _ | refine IsGr.alloc ?_ _ | refine IsGr.drew ?_ | refine IsGr.drewN ?_ _)); (simpa only [Gr.gr, Gr.of_drew, Array.append_assoc] using hu); rintro e w1 ⟨rfl, os3, d3, rfl⟩; clear tok1) | (go_at_call 15; refine (CC _ ?_ _ (HT _ ?_)).mono ?_; exact (by with_reducible repeat (first | exact IsGr.refl _ | refine IsGr.gr ?_ _ _ | refine IsGr.alloc ?_ _ | refine IsGr.drew ?_ | refine IsGr.drewN ?_ _)); exact (by with_reducible repeat (first | exact IsGr.refl _ | refine IsGr.gr ?_ _ _ | refine IsGr.alloc ?_ _ | refine IsGr.drew ?_ | refine IsGr.drewN ?_ _)); rintro e w1 ⟨rfl, os4, d4, rfl⟩)))
    all_goals
      go_wp2
      go_ret
      exact ⟨ret_bool' hf.out, (by with_reducible repeat (first | exact IsGr.refl _ | refine IsGr.gr ?_ _ _ | refine IsGr.alloc ?_ _ | refine IsGr.drew ?_ | refine IsGr.drewN ?_ _))⟩
  · rw [qa, qb] at hf
    have pa := of_decide_eq_true qa
    have pb := of_decide_eq_false qb
    go_enter Try.func26, Try.ntmps26
    go_wp2_with fail
    refine (CP _).mono ?_
    rintro e w1 ⟨t, rfl, ht, os1, d1, rfl⟩
    obtain ⟨ts, ta, tn, tc, rfl⟩ := ht.shape
    have HT := fun w2 (hg : IsGr ((Gr (w.alloc (.cells #[.bool s, .slice a n c] 31)) os1 d1).alloc (.cells #[.bool ts, .slice ta tn tc] 31)) w2) => ht.gr ((IsGr.alloc (IsGr.refl _) _).trans hg)
    have tok1 : True := trivial
    go_upto_region 2 with fail
    go_region_held3 (fun w' => w'.cell? ⟨w.heap.size, 0, none⟩ = some (.bool s) ∧ w'.cell? ⟨w.heap.size, 1, none⟩ = some (.slice a n c) ∧ w'.cell? ⟨w.heap.size + 1 + os1.size, 0, none⟩ = some (.bool ts) ∧ w'.cell? ⟨w.heap.size + 1 + os1.size, 1, none⟩ = some (.slice ta tn tc)) (simp [go_sem])
      ((first | (go_at_call 12; refine (Minus_any _ 57896044618658097711785492504343953926634992332820282019728792003956564819968 _ (HT _ ?_) sH).mono ?_; exact (by with_reducible repeat (first | exact IsGr.refl _ | refine IsGr.gr ?_ _ _ | refine IsGr.alloc ?_ _ | refine IsGr.drew ?_ | refine IsGr.drewN ?_ _)); rintro e w1 ⟨u, rfl, hu, os2, d2, rfl⟩; obtain ⟨us, ua, un, uc, rfl⟩ := hu.shape) | (go_at_call 15; have _t := tok1; refine (CB _ ?_ _ ?_).mono ?_; exact (by with_reducible repeat (first | exact IsGr.refl _ | refine IsGr.gr ?_ _ _ | refine IsGr.alloc ?_ _ | refine IsGr.drew ?_ | refine IsGr.drewN ?_ _)); (simpa only [Gr.gr, Gr.of_drew, Array.append_assoc] using hu); rintro e w1 ⟨rfl, os3, d3, rfl⟩; clear tok1) | (go_at_call 15; refine (CC _ ?_ _ (HT _ ?_)).mono ?_; exact (by with_reducible repeat (first | exact IsGr.refl _ | refine IsGr.gr ?_ _ _ | refine IsGr.alloc ?_ _ | refine IsGr.drew ?_ | refine IsGr.drewN ?_ _)); exact (by with_reducible repeat (first | exact IsGr.refl _ | refine IsGr.gr ?_ _ _ | refine IsGr.alloc ?_ _ | refine IsGr.drew ?_ | refine IsGr.drewN ?_ _)); rintro e w1 ⟨rfl, os4, d4, rfl⟩)))
    all_goals
      go_wp2
      go_ret
      exact ⟨ret_bool' hf.out, (by with_reducible repeat (first | exact IsGr.refl _ | refine IsGr.gr ?_ _ _ | refine IsGr.alloc ?_ _ | refine IsGr.drew ?_ | refine IsGr.drewN ?_ _))⟩
  · rw [qa] at hf
    have pa := of_decide_eq_false qa
    go_enter Try.func26, Try.ntmps26
    go_wp2_with fail
    refine (CP _).mono ?_
    rintro e w1 ⟨t, rfl, ht, os1, d1, rfl⟩
    obtain ⟨ts, ta, tn, tc, rfl⟩ := ht.shape
    have HT := fun w2 (hg : IsGr ((Gr (w.alloc (.cells #[.bool s, .slice a n c] 31)) os1 d1).alloc (.cells #[.bool ts, .slice ta tn tc] 31)) w2) => ht.gr ((IsGr.alloc (IsGr.refl _) _).trans hg)
    have tok1 : True := trivial
    go_upto_region 2 with fail
    go_region_with (first | (go_at_call 12; refine (Minus_any _ 57896044618658097711785492504343953926634992332820282019728792003956564819968 _ (HT _ ?_) sH).mono ?_; exact (by with_reducible repeat (first | exact IsGr.refl _ | refine IsGr.gr ?_ _ _ | refine IsGr.alloc ?_ _ | refine IsGr.drew ?_ | refine IsGr.drewN ?_ _)); rintro e w1 ⟨u, rfl, hu, os2, d2, rfl⟩; obtain ⟨us, ua, un, uc, rfl⟩ := hu.shape) | (go_at_call 15; refine (CB _ ?_ _ ?_).mono ?_; exact (by with_reducible repeat (first | exact IsGr.refl _ | refine IsGr.gr ?_ _ _ | refine IsGr.alloc ?_ _ | refine IsGr.drew ?_ | refine IsGr.drewN ?_ _)); (simpa only [Gr.gr, Gr.of_drew, Array.append_assoc] using hu); rintro e w1 ⟨rfl, os3, d3, rfl⟩))
    all_goals
      go_wp2
      go_ret
      exact ⟨ret_bool' hf.out, (by with_reducible repeat (first | exact IsGr.refl _ | refine IsGr.gr ?_ _ _ | refine IsGr.alloc ?_ _ | refine IsGr.drew ?_ | refine IsGr.drewN ?_ _))⟩
end Go.Proofs.Ytecohcgcffhlnaa
