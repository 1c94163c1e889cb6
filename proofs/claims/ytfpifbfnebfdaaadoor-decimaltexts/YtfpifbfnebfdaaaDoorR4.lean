/- Sums, differences and order of numbers of package gromaref01. -/
import Derived.Test.YtfpifbfnebfdaaaDoorR3
namespace Go.Proofs.YtfpifbfnebfdaaaDoor
open Go.RowKit
attribute [local go_sem] Gr.size Gr.cell? Gr.frozen? Gr.setCell Gr.drew Gr.drewN Gr.of_drew Gr.of_drewN Gr.gr Gr.lt_of1 Gr.le_of1 Gr.lt_of2 Gr.le_of2 Gr.lt_of3 Gr.le_of3 Gr.lt_of4 Gr.le_of4 Gr.lt_of5 Gr.le_of5 Gr.lt_of6 Gr.le_of6 Gr.lt_of7 Gr.le_of7 Gr.lt_of8 Gr.le_of8

/-- Numbers of at most 600 bits. -/
def Sm (z : Int) : Prop := -4149515568880992958512407863691161151012446232242436899995657329690652811412908146399707048947103794288197886611300789182395151075411775307886874834113963687061181803401509523685376 ≤ z ∧ z ≤ 4149515568880992958512407863691161151012446232242436899995657329690652811412908146399707048947103794288197886611300789182395151075411775307886874834113963687061181803401509523685376

theorem IsBig.open {w : World} {v : Value} {z : Int} (h : IsBig w v z) (hz : Sm z) : ∃ (s : Bool) (a : Option Addr) (n c : Nat) (ds : List Int), v = .agg #[.bool s, .slice a n c] ∧ Digs w (.slice a n c) ds ∧ Dg 32768 ds ∧ Trim ds ∧ n = ds.length ∧ n ≤ 41 ∧ (ds = [] → s = false) ∧ z = sgn s (vl 32768 ds) := by
  obtain ⟨s, d, ds, h1, h2, h3, h4, h6, h7⟩ := h
  obtain ⟨a, c, rfl, _⟩ := h2.open
  refine ⟨s, a, ds.length, c, ds, h1, h2, h3, h4, rfl, ?_, h6, h7⟩
  rcases Nat.lt_or_ge 41 ds.length with hl | hl
  · exfalso
    have h8 := vl_lower (by decide : (1 : Int) < 32768) h3 h4 (by intro e; subst e; simp at hl)
    have h9 := pow_le_pow' (by decide : (1 : Int) ≤ 32768) (show 41 ≤ ds.length - 1 by omega)
    rw [show (32768 : Int) ^ 41 = 32768 * 4149515568880992958512407863691161151012446232242436899995657329690652811412908146399707048947103794288197886611300789182395151075411775307886874834113963687061181803401509523685376 by decide +kernel] at h9
    unfold Sm at hz
    rw [h7] at hz
    unfold sgn at hz
    split at hz <;> omega
  · exact hl

theorem IsBig.shape {w : World} {v : Value} {z : Int} (h : IsBig w v z) : ∃ (s : Bool) (a : Option Addr) (n c : Nat), v = .agg #[.bool s, .slice a n c] := by
  obtain ⟨s, d, ds, h1, h2, _⟩ := h
  obtain ⟨a, c, rfl, _⟩ := h2.open
  exact ⟨s, a, ds.length, c, h1⟩

set_option maxHeartbeats 1000000 in
theorem Minus_any (v : Value) (z : Int) (w : World) (h : IsBig w v z) (hsm : Sm z) :
    Calls Tryd.prog 17 #[v] w fun e w' => ∃ u, e = .returned u ∧ IsBig w' u (0 - z) ∧ IsGr w w' := by
  obtain ⟨s, a, n, c, ds, rfl, hd, dd, td, hn, hl, hs, hz⟩ := h.open hsm
  by_cases h0 : n = 0
  · have hds : ds = [] := List.length_eq_zero_iff.1 (by omega)
    have HZ : Hid (0 - z = z) := by rw [hz, hds]; unfold Hid sgn; simp [vl]
    clear hn hz hs hds
    subst h0
    go_enter Tryd.func17, Tryd.ntmps17
    go_wp2
    refine bodyPost_ret (v := .agg #[.bool s, .slice a 0 c]) (by simp [results, Tryd.results17, go_sem]) rfl ⟨_, rfl, ?_, (by with_reducible repeat (first | exact IsGr.refl _ | refine IsGr.gr ?_ _ _ | refine IsGr.alloc ?_ _ | refine IsGr.drew ?_ | refine IsGr.drewN ?_ _))⟩
    rw [HZ.out]; exact h.gr (by with_reducible repeat (first | exact IsGr.refl _ | refine IsGr.gr ?_ _ _ | refine IsGr.alloc ?_ _ | refine IsGr.drew ?_ | refine IsGr.drewN ?_ _))
  · have hne : ds ≠ [] := fun e => by subst e; simp at hn; omega
    have HB : Hid (∀ w', IsGr w w' → IsBig w' (.agg #[.bool (!s), .slice a n c]) (0 - z)) := by
      intro w' hg
      refine ⟨!s, .slice a n c, ds, rfl, hd.gr hg, dd, td, fun e => absurd e hne, ?_⟩
      rw [hz]; unfold sgn; cases s <;> simp
    have hq : ((n : Int) == 0) = false := by simp; omega
    have hn0 : (0 : Int) < (n : Int) := by omega
    clear hn hz hs hne h0 h
    go_enter Tryd.func17, Tryd.ntmps17
    go_wp2
    exact bodyPost_ret (v := .agg #[.bool (!s), .slice a n c]) (by simp [results, Tryd.results17, go_sem]) rfl ⟨_, rfl, HB.out _ (by with_reducible repeat (first | exact IsGr.refl _ | refine IsGr.gr ?_ _ _ | refine IsGr.alloc ?_ _ | refine IsGr.drew ?_ | refine IsGr.drewN ?_ _)), (by with_reducible repeat (first | exact IsGr.refl _ | refine IsGr.gr ?_ _ _ | refine IsGr.alloc ?_ _ | refine IsGr.drew ?_ | refine IsGr.drewN ?_ _))⟩

theorem Trim.len_le {xs ys : List Int} (dx : Dg 32768 xs) (dy : Dg 32768 ys) (ty : Trim ys) (h : vl 32768 ys ≤ vl 32768 xs) : ys.length ≤ xs.length := by
  rcases Nat.lt_or_ge xs.length ys.length with hl | hl
  · have := vl_shorter (by decide : (1 : Int) < 32768) dx dy ty hl; omega
  · exact hl

/-- The box of a result may be filled: it holds no digits. -/
theorem Digs.ret {W : World} {os : Array Obj} {n : Nat} {s s' : Bool} {a a' : Option Addr} {k k' c c' : Nat} {T : TypeId} {v : Value} {ds : List Int}
    (h : Digs (Gr (W.alloc (.cells #[.bool s, .slice a k c] T)) os n) v ds) : Digs (Gr (W.alloc (.cells #[.bool s', .slice a' k' c'] T)) os n) v ds := by
  obtain ⟨x, y, h1, h2, h3, h4⟩ := h
  refine ⟨x, y, h1, h2, h3, ?_⟩
  rcases h4 with h4 | ⟨g, o, rfl, h5, h6⟩
  · exact Or.inl h4
  · refine Or.inr ⟨g, o, rfl, by simpa [Gr.size] using h5, fun i hi => ?_⟩
    rw [← h6 i hi]
    have h6i := h6 i hi
    by_cases hg : g = W.heap.size
    · exfalso
      subst hg
      rw [Gr.cell? _ _ _ _ _ (by simp), World.cell?_alloc_at _ _ _ _ rfl] at h6i
      match hoi : o + i with
      | 0 => rw [hoi] at h6i; simp at h6i
      | 1 => rw [hoi] at h6i; simp at h6i
      | m + 2 => rw [hoi] at h6i; simp at h6i
    · apply World.cell?_of_block
      simp only [Gr, World.alloc, Array.getElem?_append, Array.getElem?_push, Array.size_push]
      by_cases hlt : g < W.heap.size + 1
      · rw [if_pos hlt, if_pos hlt, if_neg hg, if_neg hg]
      · rw [if_neg hlt, if_neg hlt]
theorem IsBig.ret {W : World} {os : Array Obj} {n : Nat} {s s' : Bool} {a a' : Option Addr} {k k' c c' : Nat} {T : TypeId} {v : Value} {z : Int}
    (h : IsBig (Gr (W.alloc (.cells #[.bool s, .slice a k c] T)) os n) v z) : IsBig (Gr (W.alloc (.cells #[.bool s', .slice a' k' c'] T)) os n) v z := by
  obtain ⟨t, d, ds, h1, h2, h3⟩ := h; exact ⟨t, d, ds, h1, h2.ret, h3⟩


set_option maxHeartbeats 1000000 in
theorem BigAdd_any (u v : Value) (x y : Int) (w : World) (hu : IsBig w u x) (hv : IsBig w v y) (sx : Sm x) (sy : Sm y) :
    Calls Tryd.prog 25 #[u, v] w fun e w' => ∃ z, e = .returned z ∧ IsBig w' z (x + y) ∧ IsGr w w' := by
  obtain ⟨s, a, n, c, ds, rfl, hd, dd, td, hn, hl, hs, hz⟩ := hu.open sx
  obtain ⟨s2, a2, n2, c2, ds2, rfl, hd2, dd2, td2, hn2, hl2, hs2, hz2⟩ := hv.open sy
  by_cases hss : s = s2
  · subst hss
    have HZ : Hid (sgn s (vl 32768 ds + vl 32768 ds2) = x + y) := by rw [hz, hz2]; unfold Hid sgn; split <;> omega
    have CM := fun w1 (hg : IsGr w w1) => more_any a a2 n c n2 c2 ds ds2 w1 (hd.gr hg) (hd2.gr hg) dd dd2 (by omega) (by omega)
    have hqq : (s == s) = true := by simp
    clear hz hz2 hn hn2 hs hs2 hu hv
    go_enter Tryd.func25, Tryd.ntmps25
    go_upto_region 2 with fail
    go_region_held3 (fun w' => w'.cell? ⟨w.heap.size, 0, none⟩ = some (.bool s) ∧ w'.cell? ⟨w.heap.size, 1, none⟩ = some (.slice a n c) ∧ w'.cell? ⟨w.heap.size + 1, 0, none⟩ = some (.bool s) ∧ w'.cell? ⟨w.heap.size + 1, 1, none⟩ = some (.slice a2 n2 c2)) (simp [go_sem])
      ((first | (go_at_call 40; refine (CM _ ?_).mono ?_; exact (by with_reducible repeat (first | exact IsGr.refl _ | refine IsGr.gr ?_ _ _ | refine IsGr.alloc ?_ _ | refine IsGr.drew ?_ | refine IsGr.drewN ?_ _)); rintro e w1 ⟨t, zs, rfl, ht, dt, lt, et, os1, n1, rfl⟩; obtain ⟨ta, tc, rfl, tl1, tl2⟩ := ht.open) | (go_at_call 27; refine (trim_any s ta zs.length tc zs _ ?_ dt (by omega)).mono ?_; (simpa only [Gr.gr, Gr.of_drew] using ht); rintro e w1 ⟨r, rfl, hr, os2, n2', rfl⟩; obtain ⟨rs, ra, rn, rc, rfl⟩ := hr.shape)))
    all_goals
      go_wp2
      refine bodyPost_ret (v := .agg #[.bool rs, .slice ra rn rc]) (by simp [results, Tryd.results25, go_sem]) rfl ⟨_, rfl, ?_, (by with_reducible repeat (first | exact IsGr.refl _ | refine IsGr.gr ?_ _ _ | refine IsGr.alloc ?_ _ | refine IsGr.drew ?_ | refine IsGr.drewN ?_ _))⟩
      rw [← HZ.out, ← et]
      simp only [Gr.gr] at hr
      exact IsBig.ret hr
  · have hqq : (s == s2) = false := by simp [hss]
    by_cases hge : vl 32768 ds2 ≤ vl 32768 ds
    · have HZ : Hid (sgn s (vl 32768 ds - vl 32768 ds2) = x + y) := by rw [hz, hz2]; unfold Hid sgn; cases s <;> cases s2 <;> simp at hss ⊢ <;> omega
      have CS := fun w1 (hg : IsGr w w1) => sizes_any a a2 n c n2 c2 ds ds2 w1 (hd.gr hg) (hd2.gr hg) dd dd2 td td2 (by omega) (by omega)
      have hcm : 0 ≤ cmpI (vl 32768 ds) (vl 32768 ds2) := by unfold cmpI; rw [if_neg (by omega)]; split <;> decide
      have hln := Trim.len_le dd dd2 td2 hge
      have CM := fun w1 (hg : IsGr w w1) => less_digits a a2 n c n2 c2 ds ds2 w1 (hd.gr hg) (hd2.gr hg) dd dd2 (by omega) (by omega) hge
      generalize cmpI (vl 32768 ds) (vl 32768 ds2) = K at CS hcm
      clear hz hz2 hn hn2 hs hs2 hu hv hss hge
      go_enter Tryd.func25, Tryd.ntmps25
      go_wp2_with fail
      refine (CS _ ?_).mono ?_
      exact (by with_reducible repeat (first | exact IsGr.refl _ | refine IsGr.gr ?_ _ _ | refine IsGr.alloc ?_ _ | refine IsGr.drew ?_ | refine IsGr.drewN ?_ _))
      rintro e w1 ⟨rfl, os0, n0, rfl⟩
      go_upto_region 4 with fail
      go_region_held3 (fun w' => w'.cell? ⟨w.heap.size, 0, none⟩ = some (.bool s) ∧ w'.cell? ⟨w.heap.size, 1, none⟩ = some (.slice a n c) ∧ w'.cell? ⟨w.heap.size + 1, 0, none⟩ = some (.bool s2) ∧ w'.cell? ⟨w.heap.size + 1, 1, none⟩ = some (.slice a2 n2 c2)) (simp [go_sem])
        ((first | (go_at_call 41; refine (CM _ ?_).mono ?_; exact (by with_reducible repeat (first | exact IsGr.refl _ | refine IsGr.gr ?_ _ _ | refine IsGr.alloc ?_ _ | refine IsGr.drew ?_ | refine IsGr.drewN ?_ _)); rintro e w1 ⟨t, zs, rfl, ht, dt, lt, et, os1, n1, rfl⟩; obtain ⟨ta, tc, rfl, tl1, tl2⟩ := ht.open) | (go_at_call 27; refine (trim_any s ta zs.length tc zs _ ?_ dt (by omega)).mono ?_; (simpa only [Gr.gr, Gr.of_drew] using ht); rintro e w1 ⟨r, rfl, hr, os2, n2', rfl⟩; obtain ⟨rs, ra, rn, rc, rfl⟩ := hr.shape)))
      all_goals
        go_wp2
        refine bodyPost_ret (v := .agg #[.bool rs, .slice ra rn rc]) (by simp [results, Tryd.results25, go_sem]) rfl ⟨_, rfl, ?_, (by with_reducible repeat (first | exact IsGr.refl _ | refine IsGr.gr ?_ _ _ | refine IsGr.alloc ?_ _ | refine IsGr.drew ?_ | refine IsGr.drewN ?_ _))⟩
        rw [← HZ.out, ← et]
        simp only [Gr.gr, Array.append_assoc] at hr
        exact IsBig.ret hr
    · have HZ : Hid (sgn s2 (vl 32768 ds2 - vl 32768 ds) = x + y) := by rw [hz, hz2]; unfold Hid sgn; cases s <;> cases s2 <;> simp at hss ⊢ <;> omega
      have CS := fun w1 (hg : IsGr w w1) => sizes_any a a2 n c n2 c2 ds ds2 w1 (hd.gr hg) (hd2.gr hg) dd dd2 td td2 (by omega) (by omega)
      have hcm : cmpI (vl 32768 ds) (vl 32768 ds2) < 0 := by unfold cmpI; rw [if_pos (by omega)]; decide
      have hln := Trim.len_le dd2 dd td (by omega)
      have CM := fun w1 (hg : IsGr w w1) => less_digits a2 a n2 c2 n c ds2 ds w1 (hd2.gr hg) (hd.gr hg) dd2 dd (by omega) (by omega) (by omega)
      generalize cmpI (vl 32768 ds) (vl 32768 ds2) = K at CS hcm
      clear hz hz2 hn hn2 hs hs2 hu hv hss hge
      go_enter Tryd.func25, Tryd.ntmps25
      go_wp2_with fail
      refine (CS _ ?_).mono ?_
      exact (by with_reducible repeat (first | exact IsGr.refl _ | refine IsGr.gr ?_ _ _ | refine IsGr.alloc ?_ _ | refine IsGr.drew ?_ | refine IsGr.drewN ?_ _))
      rintro e w1 ⟨rfl, os0, n0, rfl⟩
      go_upto_region 5 with fail
      go_region_held3 (fun w' => w'.cell? ⟨w.heap.size, 0, none⟩ = some (.bool s) ∧ w'.cell? ⟨w.heap.size, 1, none⟩ = some (.slice a n c) ∧ w'.cell? ⟨w.heap.size + 1, 0, none⟩ = some (.bool s2) ∧ w'.cell? ⟨w.heap.size + 1, 1, none⟩ = some (.slice a2 n2 c2)) (simp [go_sem])
        ((first | (go_at_call 41; refine (CM _ ?_).mono ?_; exact (by with_reducible repeat (first | exact IsGr.refl _ | refine IsGr.gr ?_ _ _ | refine IsGr.alloc ?_ _ | refine IsGr.drew ?_ | refine IsGr.drewN ?_ _)); rintro e w1 ⟨t, zs, rfl, ht, dt, lt, et, os1, n1, rfl⟩; obtain ⟨ta, tc, rfl, tl1, tl2⟩ := ht.open) | (go_at_call 27; refine (trim_any s2 ta zs.length tc zs _ ?_ dt (by omega)).mono ?_; (simpa only [Gr.gr, Gr.of_drew] using ht); rintro e w1 ⟨r, rfl, hr, os2, n2', rfl⟩; obtain ⟨rs, ra, rn, rc, rfl⟩ := hr.shape)))
      all_goals
        go_wp2
        refine bodyPost_ret (v := .agg #[.bool rs, .slice ra rn rc]) (by simp [results, Tryd.results25, go_sem]) rfl ⟨_, rfl, ?_, (by with_reducible repeat (first | exact IsGr.refl _ | refine IsGr.gr ?_ _ _ | refine IsGr.alloc ?_ _ | refine IsGr.drew ?_ | refine IsGr.drewN ?_ _))⟩
        rw [← HZ.out, ← et]
        simp only [Gr.gr, Array.append_assoc] at hr
        exact IsBig.ret hr
end Go.Proofs.YtfpifbfnebfdaaaDoor
