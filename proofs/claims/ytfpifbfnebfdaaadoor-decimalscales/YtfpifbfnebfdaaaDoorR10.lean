/- An int as a number of package gromaref01. -/
import Derived.Test.YtfpifbfnebfdaaaDoorR8
namespace Go.Proofs.YtfpifbfnebfdaaaDoor
open Go.RowKit
attribute [local go_sem] Gr.size Gr.cell? Gr.frozen? Gr.setCell Gr.drew Gr.drewN Gr.of_drew Gr.of_drewN Gr.gr Gr.lt_of1 Gr.le_of1 Gr.lt_of2 Gr.le_of2 Gr.lt_of3 Gr.le_of3 Gr.lt_of4 Gr.le_of4 Gr.lt_of5 Gr.le_of5 Gr.lt_of6 Gr.le_of6 Gr.lt_of7 Gr.le_of7 Gr.lt_of8 Gr.le_of8

theorem wds_one {W : World} {g : Nat} {m : Int} (hs : W.heap.size = g) (m0 : 0 ≤ m) (m1 : m < 18446744073709551616) : Wds (W.alloc (.cells #[.int .u64 m] 52)) g 0 1 [m] := by
  refine ⟨rfl, by simp [hs], fun d hd => by simp at hd; omega, fun i hi => ?_⟩
  obtain rfl : i = 0 := by omega
  rw [World.cell?_alloc_at _ _ _ _ (by simp [hs])]
  rfl

set_option maxHeartbeats 2000000 in
theorem BigOf_any (n : Int) (n0 : -9223372036854775808 ≤ n) (n1 : n < 9223372036854775808) (w : World) :
    Calls Tryd.prog 12 #[.int .i64 n] w fun e w' => ∃ v, e = .returned v ∧ IsBig w' v n ∧ IsGr w w' := by
  by_cases h : 0 ≤ n
  · obtain ⟨m, hm, HM, m0, m1⟩ : ∃ m, IntKind.u64.wrap n = m ∧ Hid (n = m) ∧ 0 ≤ m ∧ m < 18446744073709551616 := ⟨_, rfl, by unfold Hid; rw [IntKind.wrap_u64]; omega, by rw [IntKind.wrap_u64]; omega, by rw [IntKind.wrap_u64]; omega⟩
    have hW : Wds ((w.alloc (.cells #[.bool false, .slice none 0 0] 29)).alloc (.cells #[.int .u64 m] 52)) (w.heap.size + 1) 0 1 [m] := wds_one (by simp) m0 m1
    have CW := Words_any (w.heap.size + 1) 0 1 1 [m] _ hW (by omega) (by omega)
    rw [show vl 18446744073709551616 [m] = m by simp [vl]] at CW
    clear hW
    go_enter Tryd.func12, Tryd.ntmps12
    go_wp2_with fail
    refine CW.mono ?_
    rintro e w1 ⟨r, rfl, hr, os1, d1, rfl⟩
    obtain ⟨rs, ra, rn, rc, rfl⟩ := hr.shape
    go_wp2
    refine bodyPost_ret (v := .agg #[.bool rs, .slice ra rn rc]) (by simp [results, Tryd.results12, go_sem]) rfl ⟨_, rfl, ?_, (by with_reducible repeat (first | exact IsGr.refl _ | refine IsGr.gr ?_ _ _ | refine IsGr.alloc ?_ _ | refine IsGr.drew ?_ | refine IsGr.drewN ?_ _))⟩
    rw [HM.out]
    refine hr.kb ?_
    with_reducible repeat (first | exact Kb.refl _ | refine Kb.gr ?_ (by first | (simp; done) | simp [Gr.size]) _ _ _ | refine Kb.gr_app ?_ (by first | (simp; done) | simp [Gr.size]) _ _ _ _ | refine Kb.box ?_ (by first | (simp; done) | simp [Gr.size]) _ _ _ _ _ _ _ _ _ | refine Kb.alloc ?_ (by first | (simp; done) | simp [Gr.size]) _ | refine Kb.drew_l ?_ | refine Kb.drew_r ?_ | refine Kb.lay ?_ _ | refine Kb.grow ?_ _ _)
  · obtain ⟨m, hm, HM, m0, m1⟩ : ∃ m, IntKind.u64.wrap (-(n + 1)) = m ∧ Hid (0 - (m + 1) = n) ∧ 0 ≤ m ∧ m < 9223372036854775808 := ⟨_, rfl, by unfold Hid; rw [IntKind.wrap_u64]; omega, by rw [IntKind.wrap_u64]; omega, by rw [IntKind.wrap_u64]; omega⟩
    have hW : Wds ((w.alloc (.cells #[.bool false, .slice none 0 0] 29)).alloc (.cells #[.int .u64 (m + 1)] 52)) (w.heap.size + 1) 0 1 [m + 1] := wds_one (by simp) (by omega) (by omega)
    have CW := Words_any (w.heap.size + 1) 0 1 1 [m + 1] _ hW (by omega) (by omega)
    rw [show vl 18446744073709551616 [m + 1] = m + 1 by simp [vl]] at CW
    have sm : Sm (m + 1) := by unfold Sm; omega
    clear hW
    go_enter Tryd.func12, Tryd.ntmps12
    go_wp2_with fail
    refine CW.mono ?_
    rintro e w1 ⟨r, rfl, hr, os1, d1, rfl⟩
    obtain ⟨rs, ra, rn, rc, rfl⟩ := hr.shape
    go_wp2_with fail
    refine (Minus_any _ _ _ hr sm).mono ?_
    rintro e w1 ⟨t, rfl, ht, os2, d2, rfl⟩
    obtain ⟨ts, ta, tn, tc, rfl⟩ := ht.shape
    go_wp2
    refine bodyPost_ret (v := .agg #[.bool ts, .slice ta tn tc]) (by simp [results, Tryd.results12, go_sem]) rfl ⟨_, rfl, ?_, (by with_reducible repeat (first | exact IsGr.refl _ | refine IsGr.gr ?_ _ _ | refine IsGr.alloc ?_ _ | refine IsGr.drew ?_ | refine IsGr.drewN ?_ _))⟩
    rw [← HM.out]
    simp only [Gr.gr] at ht
    refine ht.kb ?_
    with_reducible repeat (first | exact Kb.refl _ | refine Kb.gr ?_ (by first | (simp; done) | simp [Gr.size]) _ _ _ | refine Kb.gr_app ?_ (by first | (simp; done) | simp [Gr.size]) _ _ _ _ | refine Kb.box ?_ (by first | (simp; done) | simp [Gr.size]) _ _ _ _ _ _ _ _ _ | refine Kb.alloc ?_ (by first | (simp; done) | simp [Gr.size]) _ | refine Kb.drew_l ?_ | refine Kb.drew_r ?_ | refine Kb.lay ?_ _ | refine Kb.grow ?_ _ _)
end Go.Proofs.YtfpifbfnebfdaaaDoor
