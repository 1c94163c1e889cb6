/- Helpers of the statements of layer 2: right, ref. -/
import Derived.Test.YtecohcgcffhlnaaT1
import Derived.Test.YtecohcgcffhlnaaR8
namespace Go.Proofs.Ytecohcgcffhlnaa
open Go.RowKit Go.Shelf
attribute [local go_sem] Gr.size Gr.cell? Gr.frozen? Gr.setCell Gr.drew Gr.drewN Gr.of_drew Gr.of_drewN Gr.gr Gr.lt_of1 Gr.le_of1 Gr.lt_of2 Gr.le_of2 Gr.lt_of3 Gr.le_of3 Gr.lt_of4 Gr.le_of4 Gr.lt_of5 Gr.le_of5 Gr.lt_of6 Gr.le_of6 Gr.lt_of7 Gr.le_of7 Gr.lt_of8 Gr.le_of8 Gr.lt_of9 Gr.le_of9 Gr.lt_of10 Gr.le_of10 Gr.lt_of11 Gr.le_of11 Gr.lt_of12 Gr.le_of12 Gr.lt_of13 Gr.le_of13 Gr.lt_of14 Gr.le_of14 Gr.lt_of15 Gr.le_of15 Gr.lt_of16 Gr.le_of16 Gr.lt_of17 Gr.le_of17 Gr.lt_of18 Gr.le_of18 Gr.lt_of19 Gr.le_of19 Gr.lt_of20 Gr.le_of20 Gr.lt_of21 Gr.le_of21 Gr.lt_of22 Gr.le_of22 Gr.lt_of23 Gr.le_of23 Gr.lt_of24 Gr.le_of24

set_option maxRecDepth 20000 in set_option maxHeartbeats 4000000 in
theorem right_any (n0 n1 n2 n3 d0 d1 d2 d3 d : Int) (hd : IsI d0 d1 d2 d3 d) (w : World) :
    Calls Try.prog 25 #[.agg #[.int .u64 n0, .int .u64 n1, .int .u64 n2, .int .u64 n3, .int .u64 d0, .int .u64 d1, .int .u64 d2, .int .u64 d3]] w fun e w' => e = .returned (.bool (decide (0 < d))) ∧ IsGr w w' := by
  have RD := fun w => Read_any hd.1 hd.2.1 hd.2.2 w
  have sd : Sm d := by have := hd.2; unfold Sm; omega
  have BS := fun w1 v (h : IsBig w1 v d) => BigSign_any v d w1 h sd
  obtain ⟨K, hK, hK2⟩ : ∃ K, cmpI d 0 = K ∧ Hid (decide (0 < K) = decide (0 < d)) := by
    refine ⟨_, rfl, ?_⟩
    unfold Hid cmpI
    rw [decide_eq_decide]
    repeat' split
    all_goals omega
  rw [hK] at BS
  clear hK
  go_enter Try.func25, Try.ntmps25
  go_wp2_with fail
  refine (RD _).mono ?_
  rintro e w1 ⟨u, rfl, hu, os1, n1, rfl⟩
  obtain ⟨us, ua, un, uc, rfl⟩ := hu.shape
  go_wp2_with fail
  refine (BS _ _ hu).mono ?_
  rintro e w1 ⟨rfl, os2, n2, rfl⟩
  go_wp2
  go_ret
  exact ⟨ret_bool hK2.out, (by with_reducible repeat (first | exact IsGr.refl _ | refine IsGr.gr ?_ _ _ | refine IsGr.alloc ?_ _ | refine IsGr.drew ?_ | refine IsGr.drewN ?_ _))⟩

/-- A box of two Bigs holds no int: it may be filled otherwise. -/
theorem Kb.box4 {A B : World} (h : Kb A B) (hs : A.heap.size = B.heap.size) (s s' t t' : Bool) (a a' b b' : Option Addr) (k k' c c' i i' j j' : Nat) (T : TypeId) : Kb (A.alloc (.cells #[.bool s, .slice a k c, .bool t, .slice b i j] T)) (B.alloc (.cells #[.bool s', .slice a' k' c', .bool t', .slice b' i' j'] T)) := by
  refine ⟨by simp [hs], fun g o n e => ?_⟩
  by_cases hg : g < A.heap.size
  · rw [World.cell?_alloc_past _ _ _ hg] at e
    rw [World.cell?_alloc_past _ _ _ (by omega)]
    exact h.2 _ _ _ e
  · exfalso
    rw [cell_alloc_ge (by omega)] at e
    split at e
    · match o with
      | 0 => simp at e
      | 1 => simp at e
      | 2 => simp at e
      | 3 => simp at e
      | m + 4 => simp at e
    · cases e

set_option maxRecDepth 20000 in set_option maxHeartbeats 4000000 in
theorem ref_any (n0 n1 n2 n3 n d0 d1 d2 d3 d : Int) (hn : IsI n0 n1 n2 n3 n) (hd : IsI d0 d1 d2 d3 d) (w : World) :
    Calls Try.prog 22 #[.agg #[.int .u64 n0, .int .u64 n1, .int .u64 n2, .int .u64 n3, .int .u64 d0, .int .u64 d1, .int .u64 d2, .int .u64 d3]] w fun e w' => ∃ (s t : Bool) (a b : Option Addr) (k c i j : Nat), e = .returned (.agg #[.bool s, .slice a k c, .bool t, .slice b i j]) ∧ IsBig w' (.agg #[.bool s, .slice a k c]) n ∧ IsBig w' (.agg #[.bool t, .slice b i j]) d ∧ IsGr w w' := by
  have RN := fun w => Read_any hn.1 hn.2.1 hn.2.2 w
  have RD := fun w => Read_any hd.1 hd.2.1 hd.2.2 w
  have tok1 : True := trivial
  clear hn hd
  go_enter Try.func22, Try.ntmps22
  go_upto_region 1 with fail
  go_region_held3 (fun w' => w'.cell? ⟨w.heap.size, 0, none⟩ = some (.int .u64 n0) ∧ w'.cell? ⟨w.heap.size, 1, none⟩ = some (.int .u64 n1) ∧ w'.cell? ⟨w.heap.size, 2, none⟩ = some (.int .u64 n2) ∧ w'.cell? ⟨w.heap.size, 3, none⟩ = some (.int .u64 n3) ∧ w'.cell? ⟨w.heap.size, 4, none⟩ = some (.int .u64 d0) ∧ w'.cell? ⟨w.heap.size, 5, none⟩ = some (.int .u64 d1) ∧ w'.cell? ⟨w.heap.size, 6, none⟩ = some (.int .u64 d2) ∧ w'.cell? ⟨w.heap.size, 7, none⟩ = some (.int .u64 d3)) (simp [go_sem])
    ((first | (go_at_call 11; have _t := tok1; refine (RN _).mono ?_; rintro e w1 ⟨u, rfl, hu, os2, n2, rfl⟩; obtain ⟨us, ua, un, uc, rfl⟩ := hu.shape; clear tok1) | (go_at_call 11; refine (RD _).mono ?_; rintro e w1 ⟨v, rfl, hv, os3, n3, rfl⟩; obtain ⟨vs, va, vn, vc, rfl⟩ := hv.shape)))
  all_goals
    (try simp only [Gr.of_drew] at hu)
    (try simp only [Gr.of_drew] at hv)
    (try simp only [Gr.gr] at hv)
    go_wp2
    refine bodyPost_ret (v := .agg #[.bool us, .slice ua un uc, .bool vs, .slice va vn vc]) (by simp [results, Try.results22, go_sem]) rfl ⟨us, vs, ua, va, un, uc, vn, vc, rfl, hu.kb ?_, hv.kb ?_, (by with_reducible repeat (first | exact IsGr.refl _ | refine IsGr.gr ?_ _ _ | refine IsGr.alloc ?_ _ | refine IsGr.drew ?_ | refine IsGr.drewN ?_ _))⟩
    · with_reducible refine Kb.gr_app (Kb.box4 (Kb.refl _) rfl _ _ _ _ _ _ _ _ _ _ _ _ _ _ _ _ _) (by simp) _ _ _ _
    · with_reducible refine Kb.gr (Kb.box4 (Kb.refl _) rfl _ _ _ _ _ _ _ _ _ _ _ _ _ _ _ _ _) (by simp) _ _ _
end Go.Proofs.Ytecohcgcffhlnaa
