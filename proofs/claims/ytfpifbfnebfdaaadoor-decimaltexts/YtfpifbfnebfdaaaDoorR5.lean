/- Differences, order and powers of two of package gromaref01. -/
import Derived.Test.YtfpifbfnebfdaaaDoorR4
namespace Go.Proofs.YtfpifbfnebfdaaaDoor
open Go.RowKit
attribute [local go_sem] Gr.size Gr.cell? Gr.frozen? Gr.setCell Gr.drew Gr.drewN Gr.of_drew Gr.of_drewN Gr.gr Gr.lt_of1 Gr.le_of1 Gr.lt_of2 Gr.le_of2 Gr.lt_of3 Gr.le_of3 Gr.lt_of4 Gr.le_of4 Gr.lt_of5 Gr.le_of5 Gr.lt_of6 Gr.le_of6 Gr.lt_of7 Gr.le_of7 Gr.lt_of8 Gr.le_of8

theorem sgn_zero {s : Bool} {ds : List Int} (h : ds = [] → s = false) (d : Dg 32768 ds) (t : Trim ds) : (s = true → sgn s (vl 32768 ds) < 0) ∧ (s = false → 0 ≤ sgn s (vl 32768 ds)) := by
  have h0 := vl_nonneg (by decide : (0 : Int) ≤ 32768) d
  refine ⟨fun hs => ?_, fun hs => ?_⟩
  · have hne : ds ≠ [] := fun e => by rw [h e] at hs; cases hs
    have h1 := vl_lower (by decide : (1 : Int) < 32768) d t hne
    have h2 : (0 : Int) < 32768 ^ (ds.length - 1) := Int.pow_pos (by decide)
    subst hs; unfold sgn; simp; omega
  · subst hs; unfold sgn; simpa using h0

set_option maxHeartbeats 1000000 in
theorem BigCmp_any (u v : Value) (x y : Int) (w : World) (hu : IsBig w u x) (hv : IsBig w v y) (sx : Sm x) (sy : Sm y) :
    Calls Tryd.prog 15 #[u, v] w fun e w' => e = .returned (.int .i64 (cmpI x y)) ∧ IsGr w w' := by
  obtain ⟨s, a, n, c, ds, rfl, hd, dd, td, hn, hl, hs, hz⟩ := hu.open sx
  obtain ⟨s2, a2, n2, c2, ds2, rfl, hd2, dd2, td2, hn2, hl2, hs2, hz2⟩ := hv.open sy
  have z1 := sgn_zero hs dd td
  have z2 := sgn_zero hs2 dd2 td2
  rw [← hz] at z1; rw [← hz2] at z2
  have CS := fun w1 (hg : IsGr w w1) => sizes_any a a2 n c n2 c2 ds ds2 w1 (hd.gr hg) (hd2.gr hg) dd dd2 td td2 (by omega) (by omega)
  have CR := fun w1 (hg : IsGr w w1) => sizes_any a2 a n2 c2 n c ds2 ds w1 (hd2.gr hg) (hd.gr hg) dd2 dd td2 td (by omega) (by omega)
  cases s <;> cases s2
  · have e : cmpI (vl 32768 ds) (vl 32768 ds2) = cmpI x y := by rw [hz, hz2]; simp [sgn]
    rw [e] at CS
    clear hz hz2 hn hn2 hs hs2 hu hv z1 z2 e CR
    go_enter Tryd.func15, Tryd.ntmps15
    go_wp2_with fail
    refine (CS _ ?_).mono ?_
    exact (by with_reducible repeat (first | exact IsGr.refl _ | refine IsGr.gr ?_ _ _ | refine IsGr.alloc ?_ _ | refine IsGr.drew ?_ | refine IsGr.drewN ?_ _))
    rintro e w1 ⟨rfl, os0, n0, rfl⟩
    go_wp2
    go_ret
    exact ⟨rfl, (by with_reducible repeat (first | exact IsGr.refl _ | refine IsGr.gr ?_ _ _ | refine IsGr.alloc ?_ _ | refine IsGr.drew ?_ | refine IsGr.drewN ?_ _))⟩
  · have HR : Hid (1 = cmpI x y) := (cmpI_gt (by have := z1.2 rfl; have := z2.1 rfl; omega)).symm
    clear hz hz2 hn hn2 hs hs2 hu hv z1 z2 CR CS
    go_enter Tryd.func15, Tryd.ntmps15
    go_wp2
    go_ret
    exact ⟨ret_int' HR.out, (by with_reducible repeat (first | exact IsGr.refl _ | refine IsGr.gr ?_ _ _ | refine IsGr.alloc ?_ _ | refine IsGr.drew ?_ | refine IsGr.drewN ?_ _))⟩
  · have HR : Hid (-1 = cmpI x y) := (cmpI_lt (by have := z1.1 rfl; have := z2.2 rfl; omega)).symm
    clear hz hz2 hn hn2 hs hs2 hu hv z1 z2 CR CS
    go_enter Tryd.func15, Tryd.ntmps15
    go_wp2
    go_ret
    exact ⟨ret_int' HR.out, (by with_reducible repeat (first | exact IsGr.refl _ | refine IsGr.gr ?_ _ _ | refine IsGr.alloc ?_ _ | refine IsGr.drew ?_ | refine IsGr.drewN ?_ _))⟩
  · have e : cmpI (vl 32768 ds2) (vl 32768 ds) = cmpI x y := by
      rw [hz, hz2]; simp only [sgn, if_true]
      generalize vl 32768 ds = P
      generalize vl 32768 ds2 = Q
      unfold cmpI
      repeat' split
      all_goals omega
    rw [e] at CR
    clear hz hz2 hn hn2 hs hs2 hu hv z1 z2 e CS
    go_enter Tryd.func15, Tryd.ntmps15
    go_wp2_with fail
    refine (CR _ ?_).mono ?_
    exact (by with_reducible repeat (first | exact IsGr.refl _ | refine IsGr.gr ?_ _ _ | refine IsGr.alloc ?_ _ | refine IsGr.drew ?_ | refine IsGr.drewN ?_ _))
    rintro e w1 ⟨rfl, os0, n0, rfl⟩
    go_wp2
    go_ret
    exact ⟨rfl, (by with_reducible repeat (first | exact IsGr.refl _ | refine IsGr.gr ?_ _ _ | refine IsGr.alloc ?_ _ | refine IsGr.drew ?_ | refine IsGr.drewN ?_ _))⟩

theorem IsBig.zero (w : World) : IsBig w (.agg #[.bool false, .slice none 0 0]) 0 :=
  ⟨false, .slice none 0 0, [], rfl, Digs.nil w, fun d hd => by simp at hd, fun h => absurd rfl h, fun _ => rfl, by simp [sgn, vl]⟩
theorem Sm.zero : Sm 0 := by unfold Sm; omega

set_option maxHeartbeats 1000000 in
theorem BigSign_any (u : Value) (x : Int) (w : World) (hu : IsBig w u x) (sx : Sm x) :
    Calls Tryd.prog 20 #[u] w fun e w' => e = .returned (.int .i64 (cmpI x 0)) ∧ IsGr w w' := by
  obtain ⟨s, a, n, c, rfl⟩ := hu.shape
  have CC := fun w1 (hg : IsGr w w1) => BigCmp_any _ _ x 0 w1 (hu.gr hg) (IsBig.zero w1) sx Sm.zero
  clear hu
  go_enter Tryd.func20, Tryd.ntmps20
  go_wp2_with fail
  refine (CC _ ?_).mono ?_
  exact (by with_reducible repeat (first | exact IsGr.refl _ | refine IsGr.gr ?_ _ _ | refine IsGr.alloc ?_ _ | refine IsGr.drew ?_ | refine IsGr.drewN ?_ _))
  rintro e w1 ⟨rfl, os0, n0, rfl⟩
  go_wp2
  go_ret
  exact ⟨rfl, (by with_reducible repeat (first | exact IsGr.refl _ | refine IsGr.gr ?_ _ _ | refine IsGr.alloc ?_ _ | refine IsGr.drew ?_ | refine IsGr.drewN ?_ _))⟩

set_option maxHeartbeats 1000000 in
theorem BigSub_any (u v : Value) (x y : Int) (w : World) (hu : IsBig w u x) (hv : IsBig w v y) (sx : Sm x) (sy : Sm y) :
    Calls Tryd.prog 29 #[u, v] w fun e w' => ∃ z, e = .returned z ∧ IsBig w' z (x - y) ∧ IsGr w w' := by
  obtain ⟨s, a, n, c, rfl⟩ := hu.shape
  obtain ⟨s2, a2, n2, c2, rfl⟩ := hv.shape
  have CM := fun w1 (hg : IsGr w w1) => Minus_any _ y w1 (hv.gr hg) sy
  have sy' : Sm (0 - y) := by unfold Sm at sy ⊢; omega
  have HZ : Hid (x + (0 - y) = x - y) := by unfold Hid; omega
  go_enter Tryd.func29, Tryd.ntmps29
  go_upto_region 1 with fail
  go_region_held3 (fun w' => w'.cell? ⟨w.heap.size, 0, none⟩ = some (.bool s) ∧ w'.cell? ⟨w.heap.size, 1, none⟩ = some (.slice a n c) ∧ w'.cell? ⟨w.heap.size + 1, 0, none⟩ = some (.bool s2) ∧ w'.cell? ⟨w.heap.size + 1, 1, none⟩ = some (.slice a2 n2 c2)) (simp [go_sem])
    ((first | (go_at_call 17; refine (CM _ ?_).mono ?_; exact (by with_reducible repeat (first | exact IsGr.refl _ | refine IsGr.gr ?_ _ _ | refine IsGr.alloc ?_ _ | refine IsGr.drew ?_ | refine IsGr.drewN ?_ _)); rintro e w1 ⟨t, rfl, ht, os1, n1, rfl⟩; obtain ⟨ts, ta, tn, tc, rfl⟩ := ht.shape) | (go_at_call 25; refine (BigAdd_any _ _ x (0 - y) _ (hu.gr ?_) ?_ sx sy').mono ?_; exact (by with_reducible repeat (first | exact IsGr.refl _ | refine IsGr.gr ?_ _ _ | refine IsGr.alloc ?_ _ | refine IsGr.drew ?_ | refine IsGr.drewN ?_ _)); (simpa only [Gr.gr, Gr.of_drew, Array.append_assoc] using ht); rintro e w1 ⟨r, rfl, hr, os2, n2', rfl⟩; obtain ⟨rs, ra, rn, rc, rfl⟩ := hr.shape)))
  all_goals
    go_wp2
    refine bodyPost_ret (v := .agg #[.bool rs, .slice ra rn rc]) (by simp [results, Tryd.results29, go_sem]) rfl ⟨_, rfl, ?_, (by with_reducible repeat (first | exact IsGr.refl _ | refine IsGr.gr ?_ _ _ | refine IsGr.alloc ?_ _ | refine IsGr.drew ?_ | refine IsGr.drewN ?_ _))⟩
    rw [← HZ.out]
    simp only [Gr.gr] at hr
    exact IsBig.ret hr
end Go.Proofs.YtfpifbfnebfdaaaDoor
