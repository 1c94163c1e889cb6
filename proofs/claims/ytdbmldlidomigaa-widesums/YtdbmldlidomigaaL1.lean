/- gromalaw01.WideOrders: for every two Ints the law answers true. -/
import Derived.Test.YtdbmldlidomigaaA1
import Derived.Test.YtdbmldlidomigaaR8
namespace Go.Proofs.Ytdbmldlidomigaa
open Go.RowKit Go.Shelf
attribute [local go_sem] Gr.size Gr.cell? Gr.frozen? Gr.setCell Gr.drew Gr.drewN Gr.of_drew Gr.of_drewN Gr.gr Gr.lt_of1 Gr.le_of1 Gr.lt_of2 Gr.le_of2 Gr.lt_of3 Gr.le_of3 Gr.lt_of4 Gr.le_of4 Gr.lt_of5 Gr.le_of5 Gr.lt_of6 Gr.le_of6 Gr.lt_of7 Gr.le_of7 Gr.lt_of8 Gr.le_of8

set_option maxHeartbeats 8000000 in
theorem law_orders (x0 x1 x2 x3 x y0 y1 y2 y3 y : Int) (hx : IsI x0 x1 x2 x3 x) (hy : IsI y0 y1 y2 y3 y) (w : World) :
    Calls Try.prog 6 #[.agg #[.int .u64 x0, .int .u64 x1, .int .u64 x2, .int .u64 x3], .agg #[.int .u64 y0, .int .u64 y1, .int .u64 y2, .int .u64 y3]] w fun e w' => e = .returned (.bool true) ∧ IsGr w w' := by
  have RX := fun w => Read_any hx.1 hx.2.1 hx.2.2 w
  have RY := fun w => Read_any hy.1 hy.2.1 hy.2.2 w
  have C1 := fun w => Cmp_any x0 x1 x2 x3 x y0 y1 y2 y3 y hx hy w
  have C2 := fun w => Cmp_any y0 y1 y2 y3 y x0 x1 x2 x3 x hy hx w
  have C3 := fun w => Sign_any x0 x1 x2 x3 x hx w
  have sx : Sm x := by have := hx.2; unfold Sm; omega
  have sy : Sm y := by have := hy.2; unfold Sm; omega
  have CA := fun w => awake_any w
  clear hx hy
  go_enter Try.func6, Try.ntmps6
  go_upto_region 1 with fail
  go_cut [5, 6] (fun t5 t6 wr => ∃ (g5 g6 : Nat) (us vs : Bool) (ua va : Option Addr) (un uc vn vc : Nat), t5 = .pointer (some ⟨g5, 0, none⟩) ∧ t6 = .pointer (some ⟨g6, 0, none⟩) ∧ w.heap.size + 1 + 1 ≤ wr.heap.size ∧ g5 < wr.heap.size ∧ g6 < wr.heap.size ∧
      (wr.cell? ⟨g5, 0, none⟩ = some (.bool us) ∧ wr.cell? ⟨g5, 1, none⟩ = some (.slice ua un uc) ∧ wr.cell? ⟨g6, 0, none⟩ = some (.bool vs) ∧ wr.cell? ⟨g6, 1, none⟩ = some (.slice va vn vc)) ∧ (wr.cell? ⟨w.heap.size, 0, none⟩ = some (.int .u64 x0) ∧ wr.cell? ⟨w.heap.size, 1, none⟩ = some (.int .u64 x1) ∧ wr.cell? ⟨w.heap.size, 2, none⟩ = some (.int .u64 x2) ∧ wr.cell? ⟨w.heap.size, 3, none⟩ = some (.int .u64 x3) ∧ wr.cell? ⟨w.heap.size + 1, 0, none⟩ = some (.int .u64 y0) ∧ wr.cell? ⟨w.heap.size + 1, 1, none⟩ = some (.int .u64 y1) ∧ wr.cell? ⟨w.heap.size + 1, 2, none⟩ = some (.int .u64 y2) ∧ wr.cell? ⟨w.heap.size + 1, 3, none⟩ = some (.int .u64 y3)) ∧ 
      IsBig wr (.agg #[.bool us, .slice ua un uc]) x ∧ IsBig wr (.agg #[.bool vs, .slice va vn vc]) y ∧ IsGr w wr)
  case first =>
    go_region_held3 (fun w' => (w'.cell? ⟨w.heap.size, 0, none⟩ = some (.int .u64 x0) ∧ w'.cell? ⟨w.heap.size, 1, none⟩ = some (.int .u64 x1) ∧ w'.cell? ⟨w.heap.size, 2, none⟩ = some (.int .u64 x2) ∧ w'.cell? ⟨w.heap.size, 3, none⟩ = some (.int .u64 x3)) ∧ (w'.cell? ⟨w.heap.size + 1, 0, none⟩ = some (.int .u64 y0) ∧ w'.cell? ⟨w.heap.size + 1, 1, none⟩ = some (.int .u64 y1) ∧ w'.cell? ⟨w.heap.size + 1, 2, none⟩ = some (.int .u64 y2) ∧ w'.cell? ⟨w.heap.size + 1, 3, none⟩ = some (.int .u64 y3))) (simp [go_sem])
      ((first | (go_at_call_of 12 (Value.int IntKind.u64 x0); refine (RX _).mono ?_; rintro e w1 ⟨u, rfl, hu, os2, n2, rfl⟩; obtain ⟨us, ua, un, uc, rfl⟩ := hu.shape) | (go_at_call_of 12 (Value.int IntKind.u64 y0); refine (RY _).mono ?_; rintro e w1 ⟨v, rfl, hv, os3, n3, rfl⟩; obtain ⟨vs, va, vn, vc, rfl⟩ := hv.shape)))
    all_goals
      go_wp2
      go_meet
      case rel =>
        simp only [Gr.gr, Gr.of_drew] at hu hv
        refine ⟨_, _, us, vs, ua, va, un, uc, vn, vc, rfl, rfl, ?_, ?_, ?_, ?_, ?_, hu.kb ?_, hv.kb ?_, (by with_reducible repeat (first | exact IsGr.refl _ | refine IsGr.gr ?_ _ _ | refine IsGr.alloc ?_ _ | refine IsGr.drew ?_ | refine IsGr.drewN ?_ _))⟩
        · simp [Gr.size]
          try omega
        · simp [Gr.size]
          try omega
        · simp [Gr.size]
          try omega
        · simp [go_sem]
        · simp [go_sem]
        · with_reducible repeat (first | exact Kb.refl _ | refine Kb.gr ?_ (by first | (simp; done) | simp [Gr.size]) _ _ _ | refine Kb.gr_app ?_ (by first | (simp; done) | simp [Gr.size]) _ _ _ _ | refine Kb.box ?_ (by first | (simp; done) | simp [Gr.size]) _ _ _ _ _ _ _ _ _ | refine Kb.alloc ?_ (by first | (simp; done) | simp [Gr.size]) _ | refine Kb.drew_l ?_ | refine Kb.drew_r ?_ | refine Kb.lay ?_ _ | refine Kb.grow ?_ _ _)
        · with_reducible repeat (first | exact Kb.refl _ | refine Kb.gr ?_ (by first | (simp; done) | simp [Gr.size]) _ _ _ | refine Kb.gr_app ?_ (by first | (simp; done) | simp [Gr.size]) _ _ _ _ | refine Kb.box ?_ (by first | (simp; done) | simp [Gr.size]) _ _ _ _ _ _ _ _ _ | refine Kb.alloc ?_ (by first | (simp; done) | simp [Gr.size]) _ | refine Kb.drew_l ?_ | refine Kb.drew_r ?_ | refine Kb.lay ?_ _ | refine Kb.grow ?_ _ _)
  case rest =>
    obtain ⟨g5, g6, us, vs, ua, va, un, uc, vn, vc, rfl, rfl, hsz, h5, h6, ⟨b1, b2, b3, b4⟩, hcx, hu, hv, hgr⟩ := hcut
    obtain ⟨i1, i2, i3, i4, i5, i6, i7, i8⟩ := hcx
    have z1 : w.heap.size < wc.heap.size := by omega
    have z2 : w.heap.size + 1 < wc.heap.size := by omega
    have B1 := fun w1 (hg : IsGr wc w1) => BigCmp_any _ _ x y w1 (hu.gr hg) (hv.gr hg) sx sy
    have B2 := fun w1 (hg : IsGr wc w1) => BigCmp_any _ _ y x w1 (hv.gr hg) (hu.gr hg) sy sx
    have B3 := fun w1 (hg : IsGr wc w1) => BigSign_any _ x w1 (hu.gr hg) sx
    have q1 : (cmpI x y == cmpI x y) = true := by simp
    have q2 : (cmpI y x == cmpI y x) = true := by simp
    have q3 : (cmpI x 0 == cmpI x 0) = true := by simp
    have HG : Hid (IsGr w wc) := hgr
    have tok1 : True := trivial
    have tok2 : True := trivial
    clear hu hv hgr hsz RX RY
    go_upto_region 2 with fail
    go_region_held3 (fun w' => (w'.cell? ⟨g5, 0, none⟩ = some (.bool us) ∧ w'.cell? ⟨g5, 1, none⟩ = some (.slice ua un uc) ∧ w'.cell? ⟨g6, 0, none⟩ = some (.bool vs) ∧ w'.cell? ⟨g6, 1, none⟩ = some (.slice va vn vc)) ∧ (w'.cell? ⟨w.heap.size, 0, none⟩ = some (.int .u64 x0) ∧ w'.cell? ⟨w.heap.size, 1, none⟩ = some (.int .u64 x1) ∧ w'.cell? ⟨w.heap.size, 2, none⟩ = some (.int .u64 x2) ∧ w'.cell? ⟨w.heap.size, 3, none⟩ = some (.int .u64 x3)) ∧ (w'.cell? ⟨w.heap.size + 1, 0, none⟩ = some (.int .u64 y0) ∧ w'.cell? ⟨w.heap.size + 1, 1, none⟩ = some (.int .u64 y1) ∧ w'.cell? ⟨w.heap.size + 1, 2, none⟩ = some (.int .u64 y2) ∧ w'.cell? ⟨w.heap.size + 1, 3, none⟩ = some (.int .u64 y3))) (simp [go_sem, b1, b2, b3, b4, i1, i2, i3, i4, i5, i6, i7, i8, h5, h6, z1, z2])
      ((first | (go_at_call 28; have _t := tok1; refine (C1 _).mono ?_; rintro e w1 ⟨rfl, os1, n1, rfl⟩; clear tok1) | (go_at_call 28; refine (C2 _).mono ?_; rintro e w1 ⟨rfl, os2, n2, rfl⟩) | (go_at_call 25; have _t := tok2; refine (B1 _ ?_).mono ?_; exact (by with_reducible repeat (first | exact IsGr.refl _ | refine IsGr.gr ?_ _ _ | refine IsGr.alloc ?_ _ | refine IsGr.drew ?_ | refine IsGr.drewN ?_ _)); rintro e w1 ⟨rfl, os3, n3, rfl⟩; clear tok2) | (go_at_call 25; refine (B2 _ ?_).mono ?_; exact (by with_reducible repeat (first | exact IsGr.refl _ | refine IsGr.gr ?_ _ _ | refine IsGr.alloc ?_ _ | refine IsGr.drew ?_ | refine IsGr.drewN ?_ _)); rintro e w1 ⟨rfl, os4, n4, rfl⟩) | (go_at_call 29; refine (C3 _).mono ?_; rintro e w1 ⟨rfl, os5, n5, rfl⟩) | (go_at_call 24; refine (B3 _ ?_).mono ?_; exact (by with_reducible repeat (first | exact IsGr.refl _ | refine IsGr.gr ?_ _ _ | refine IsGr.alloc ?_ _ | refine IsGr.drew ?_ | refine IsGr.drewN ?_ _)); rintro e w1 ⟨rfl, os6, n6, rfl⟩) | (go_at_call 20; refine (CA _).mono ?_; rintro e w1 ⟨rfl, os7, n7, rfl⟩)))
    all_goals
      go_wp2
      go_ret
      exact ⟨rfl, HG.out.trans (by with_reducible repeat (first | exact IsGr.refl _ | refine IsGr.gr ?_ _ _ | refine IsGr.alloc ?_ _ | refine IsGr.drew ?_ | refine IsGr.drewN ?_ _))⟩
end Go.Proofs.Ytdbmldlidomigaa
