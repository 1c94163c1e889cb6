/- gromalaw01.WideDivides: for every two Ints the law answers true. -/
import Derived.Test.YtjgkmhgaacallaaA1
import Derived.Test.YtjgkmhgaacallaaL3
import Derived.Test.YtjgkmhgaacallaaW13
namespace Go.Proofs.Ytjgkmhgaacallaa
open Go.RowKit Go.Shelf
attribute [local go_sem] Gr.size Gr.cell? Gr.frozen? Gr.setCell Gr.drew Gr.drewN Gr.of_drew Gr.of_drewN Gr.gr Gr.lt_of1 Gr.le_of1 Gr.lt_of2 Gr.le_of2 Gr.lt_of3 Gr.le_of3 Gr.lt_of4 Gr.le_of4 Gr.lt_of5 Gr.le_of5 Gr.lt_of6 Gr.le_of6 Gr.lt_of7 Gr.le_of7 Gr.lt_of8 Gr.le_of8

theorem IsGr.cell_eq {w w' : World} (h : IsGr w w') {g o : Nat} {v : Value} (hg : g < w.heap.size) (hc : w.cell? ⟨g, o, none⟩ = some v) : w'.cell? ⟨g, o, none⟩ = some v := (h.below.cell (p := ⟨g, o, none⟩) hg).trans hc
theorem cmp_self (x : Int) : cmpI x x = 0 := cmpI_eq rfl

theorem fmod_facts (x y : Int) (hy : y ≠ 0) : x.fdiv y * y + x.fmod y = x ∧ (0 < y → 0 ≤ x.fmod y ∧ x.fmod y < y) ∧ (y < 0 → y < x.fmod y ∧ x.fmod y ≤ 0) := by
  have h0 : x.fmod y = x - y * x.fdiv y := Int.fmod_def x y
  refine ⟨by rw [h0, Int.mul_comm]; omega, fun hp => ?_, fun hn => ?_⟩
  · rw [Int.fmod_eq_emod_of_nonneg x (Int.le_of_lt hp)]
    exact ⟨Int.emod_nonneg x hy, Int.emod_lt_of_pos x hp⟩
  · have e1 : x.fdiv y = (-x).fdiv (-y) := (Int.neg_fdiv_neg x y).symm
    rw [Int.fdiv_eq_ediv_of_nonneg (-x) (by omega)] at e1
    have e2 := Int.mul_ediv_add_emod (-x) (-y)
    have e3 := Int.emod_nonneg (-x) (show -y ≠ 0 by omega)
    have e4 := Int.emod_lt_of_pos (-x) (show 0 < -y by omega)
    rw [← e1, Int.neg_mul] at e2
    omega


set_option maxRecDepth 20000 in set_option maxHeartbeats 8000000 in
theorem law_divides (x0 x1 x2 x3 x y0 y1 y2 y3 y : Int) (hx : IsI x0 x1 x2 x3 x) (hy : IsI y0 y1 y2 y3 y) (w : World) :
    Calls Try.prog 4 #[.agg #[.int .u64 x0, .int .u64 x1, .int .u64 x2, .int .u64 x3], .agg #[.int .u64 y0, .int .u64 y1, .int .u64 y2, .int .u64 y3]] w fun e w' => e = .returned (.bool true) ∧ IsGr w w' := by
  have RX := fun w => Read_any hx.1 hx.2.1 hx.2.2 w
  have RY := fun w => Read_any hy.1 hy.2.1 hy.2.2 w
  have CD := fun w => Div_all x0 x1 x2 x3 x y0 y1 y2 y3 y hx hy w
  have sx : Sm x := by have := hx.2; unfold Sm; omega
  have sy : Sm y := by have := hy.2; unfold Sm; omega
  have CA := fun w => awake_any w
  have HR : Hid ((-57896044618658097711785492504343953926634992332820282019728792003956564819968 ≤ x ∧ x < 57896044618658097711785492504343953926634992332820282019728792003956564819968) ∧ (-57896044618658097711785492504343953926634992332820282019728792003956564819968 ≤ y ∧ y < 57896044618658097711785492504343953926634992332820282019728792003956564819968)) := ⟨hx.2, hy.2⟩
  clear hx hy
  go_enter Try.func4, Try.ntmps4
  go_upto_region 1 with fail
  go_cut [5, 6] (fun t5 t6 wr => ∃ (g5 g6 : Nat) (us vs : Bool) (ua va : Option Addr) (un uc vn vc : Nat), t5 = .pointer (some ⟨g5, 0, none⟩) ∧ t6 = .pointer (some ⟨g6, 0, none⟩) ∧ w.heap.size + 1 + 1 ≤ wr.heap.size ∧ g5 < wr.heap.size ∧ g6 < wr.heap.size ∧
      (wr.cell? ⟨g5, 0, none⟩ = some (.bool us) ∧ wr.cell? ⟨g5, 1, none⟩ = some (.slice ua un uc) ∧ wr.cell? ⟨g6, 0, none⟩ = some (.bool vs) ∧ wr.cell? ⟨g6, 1, none⟩ = some (.slice va vn vc)) ∧ (wr.cell? ⟨w.heap.size, 0, none⟩ = some (.int .u64 x0) ∧ wr.cell? ⟨w.heap.size, 1, none⟩ = some (.int .u64 x1) ∧ wr.cell? ⟨w.heap.size, 2, none⟩ = some (.int .u64 x2) ∧ wr.cell? ⟨w.heap.size, 3, none⟩ = some (.int .u64 x3) ∧ wr.cell? ⟨w.heap.size + 1, 0, none⟩ = some (.int .u64 y0) ∧ wr.cell? ⟨w.heap.size + 1, 1, none⟩ = some (.int .u64 y1) ∧ wr.cell? ⟨w.heap.size + 1, 2, none⟩ = some (.int .u64 y2) ∧ wr.cell? ⟨w.heap.size + 1, 3, none⟩ = some (.int .u64 y3)) ∧ 
      IsBig wr (.agg #[.bool us, .slice ua un uc]) x ∧ IsBig wr (.agg #[.bool vs, .slice va vn vc]) y ∧ IsGr w wr)
  case first =>
    go_region_held3 (fun w' => (w'.cell? ⟨w.heap.size, 0, none⟩ = some (.int .u64 x0) ∧ w'.cell? ⟨w.heap.size, 1, none⟩ = some (.int .u64 x1) ∧ w'.cell? ⟨w.heap.size, 2, none⟩ = some (.int .u64 x2) ∧ w'.cell? ⟨w.heap.size, 3, none⟩ = some (.int .u64 x3)) ∧ (w'.cell? ⟨w.heap.size + 1, 0, none⟩ = some (.int .u64 y0) ∧ w'.cell? ⟨w.heap.size + 1, 1, none⟩ = some (.int .u64 y1) ∧ w'.cell? ⟨w.heap.size + 1, 2, none⟩ = some (.int .u64 y2) ∧ w'.cell? ⟨w.heap.size + 1, 3, none⟩ = some (.int .u64 y3))) (simp [go_sem])
      ((first | (go_at_call_of 18 (Value.int IntKind.u64 x0); refine (RX _).mono ?_; rintro e w1 ⟨u, rfl, hu, os2, n2, rfl⟩; obtain ⟨us, ua, un, uc, rfl⟩ := hu.shape) | (go_at_call_of 18 (Value.int IntKind.u64 y0); refine (RY _).mono ?_; rintro e w1 ⟨v, rfl, hv, os3, n3, rfl⟩; obtain ⟨vs, va, vn, vc, rfl⟩ := hv.shape)))
    all_goals
      go_wp2
      go_meet
      case rel =>
        simp only [Gr.gr, Gr.of_drew] at hu hv
        refine ⟨_, _, us, vs, ua, va, un, uc, vn, vc, rfl, rfl, ?_, ?_, ?_, ?_, ?_, hu.kb ?_, hv.kb ?_, (by with_reducible repeat (first | exact IsGr.refl _ | refine IsGr.gr ?_ _ _ | refine IsGr.alloc ?_ _ | refine IsGr.drew ?_ | refine IsGr.drewN ?_ _))⟩
        · simp [Gr.size]
          try omega
        · simp [Gr.size]
          try omega
        · simp [Gr.size]
          try omega
        · simp [go_sem]
        · simp [go_sem]
        · with_reducible repeat (first | exact Kb.refl _ | refine Kb.gr ?_ (by first | (simp; done) | simp [Gr.size]) _ _ _ | refine Kb.gr_app ?_ (by first | (simp; done) | simp [Gr.size]) _ _ _ _ | refine Kb.box ?_ (by first | (simp; done) | simp [Gr.size]) _ _ _ _ _ _ _ _ _ | refine Kb.alloc ?_ (by first | (simp; done) | simp [Gr.size]) _ | refine Kb.drew_l ?_ | refine Kb.drew_r ?_ | refine Kb.lay ?_ _ | refine Kb.grow ?_ _ _)
        · with_reducible repeat (first | exact Kb.refl _ | refine Kb.gr ?_ (by first | (simp; done) | simp [Gr.size]) _ _ _ | refine Kb.gr_app ?_ (by first | (simp; done) | simp [Gr.size]) _ _ _ _ | refine Kb.box ?_ (by first | (simp; done) | simp [Gr.size]) _ _ _ _ _ _ _ _ _ | refine Kb.alloc ?_ (by first | (simp; done) | simp [Gr.size]) _ | refine Kb.drew_l ?_ | refine Kb.drew_r ?_ | refine Kb.lay ?_ _ | refine Kb.grow ?_ _ _)
  case rest =>
    obtain ⟨g5, g6, us, vs, ua, va, un, uc, vn, vc, rfl, rfl, hsz, h5, h6, ⟨b1, b2, b3, b4⟩, hcx, hu, hv, hgr⟩ := hcut
    obtain ⟨i1, i2, i3, i4, i5, i6, i7, i8⟩ := hcx
    obtain ⟨W1, hW1⟩ : ∃ W1, W1 = wc := ⟨_, rfl⟩
    subst hW1
    have z1 : w.heap.size < W1.heap.size := by omega
    have z2 : w.heap.size + 1 < W1.heap.size := by omega
    have B3 := fun w1 (hg : IsGr W1 w1) => BigSign_any _ y w1 (hv.gr hg) sy
    have HG : Hid (IsGr w W1) := hgr
    have HU := fun w1 (hg : IsGr W1 w1) => hu.gr hg
    have HV := fun w1 (hg : IsGr W1 w1) => hv.gr hg
    clear hu hv hgr hsz RX RY
    go_wp2_with fail
    refine (CD _).mono ?_
    rintro e w1 ⟨q0, q1, q2, q3, r0, r1, r2, r3, ok, rfl, HD, os1, n1, rfl⟩
    clear CD i1 i2 i3 i4 i5 i6 i7 i8
    rcases HD with ⟨rfl, hy0, hq, hr⟩ | ⟨rfl, hno, rfl, rfl, rfl, rfl, rfl, rfl, rfl, rfl⟩
    · have hF := fmod_facts x y hy0
      generalize x.fdiv y = Q at hq hF
      generalize x.fmod y = R at hr hF
      have HF : Hid (Q * y + R = x ∧ (0 < y → 0 ≤ R ∧ R < y) ∧ (y < 0 → y < R ∧ R ≤ 0)) := hF
      have RQ := fun w => Read_any hq.1 hq.2.1 hq.2.2 w
      have RR := fun w => Read_any hr.1 hr.2.1 hr.2.2 w
      have sQ : Sm Q := by have := hq.2; unfold Sm; omega
      have sR : Sm R := by have := hr.2; unfold Sm; omega
      have sP : Sm (Q * y) := prod_sm hq.2 HR.out.2
      have sA : Sm (Q * y + R) := by rw [hF.1]; exact sx
      have CQ := fun w1 v (h : IsBig w1 v (Q * y + R)) (hg : IsGr W1 w1) => BigCmp_any v _ (Q * y + R) x w1 h (HU w1 hg) sA sx
      rw [hF.1, cmp_self] at CQ
      rw [← hF.1] at CQ
      clear hq hr hF
      go_upto_region 7 with fail
      go_cut [12, 13] (fun t5 t6 wr => ∃ (g5 g6 : Nat) (us vs : Bool) (ua va : Option Addr) (un uc vn vc : Nat), t5 = .pointer (some ⟨g5, 0, none⟩) ∧ t6 = .pointer (some ⟨g6, 0, none⟩) ∧ W1.heap.size + os1.size + 1 + 1 ≤ wr.heap.size ∧ g5 < wr.heap.size ∧ g6 < wr.heap.size ∧
          (wr.cell? ⟨g5, 0, none⟩ = some (.bool us) ∧ wr.cell? ⟨g5, 1, none⟩ = some (.slice ua un uc) ∧ wr.cell? ⟨g6, 0, none⟩ = some (.bool vs) ∧ wr.cell? ⟨g6, 1, none⟩ = some (.slice va vn vc)) ∧ (wr.cell? ⟨W1.heap.size + os1.size, 0, none⟩ = some (.int .u64 q0) ∧ wr.cell? ⟨W1.heap.size + os1.size, 1, none⟩ = some (.int .u64 q1) ∧ wr.cell? ⟨W1.heap.size + os1.size, 2, none⟩ = some (.int .u64 q2) ∧ wr.cell? ⟨W1.heap.size + os1.size, 3, none⟩ = some (.int .u64 q3) ∧ wr.cell? ⟨W1.heap.size + os1.size + 1, 0, none⟩ = some (.int .u64 r0) ∧ wr.cell? ⟨W1.heap.size + os1.size + 1, 1, none⟩ = some (.int .u64 r1) ∧ wr.cell? ⟨W1.heap.size + os1.size + 1, 2, none⟩ = some (.int .u64 r2) ∧ wr.cell? ⟨W1.heap.size + os1.size + 1, 3, none⟩ = some (.int .u64 r3)) ∧ 
          IsBig wr (.agg #[.bool us, .slice ua un uc]) Q ∧ IsBig wr (.agg #[.bool vs, .slice va vn vc]) R ∧ IsGr W1 wr)
      case first =>
        go_region_held3 (fun w' => (w'.cell? ⟨W1.heap.size + os1.size, 0, none⟩ = some (.int .u64 q0) ∧ w'.cell? ⟨W1.heap.size + os1.size, 1, none⟩ = some (.int .u64 q1) ∧ w'.cell? ⟨W1.heap.size + os1.size, 2, none⟩ = some (.int .u64 q2) ∧ w'.cell? ⟨W1.heap.size + os1.size, 3, none⟩ = some (.int .u64 q3)) ∧ (w'.cell? ⟨W1.heap.size + os1.size + 1, 0, none⟩ = some (.int .u64 r0) ∧ w'.cell? ⟨W1.heap.size + os1.size + 1, 1, none⟩ = some (.int .u64 r1) ∧ w'.cell? ⟨W1.heap.size + os1.size + 1, 2, none⟩ = some (.int .u64 r2) ∧ w'.cell? ⟨W1.heap.size + os1.size + 1, 3, none⟩ = some (.int .u64 r3))) (simp [go_sem])
          ((first | (go_at_call_of 18 (Value.int IntKind.u64 q0); refine (RQ _).mono ?_; rintro e w1 ⟨u, rfl, hu, os2, n2, rfl⟩; obtain ⟨us, ua, un, uc, rfl⟩ := hu.shape) | (go_at_call_of 18 (Value.int IntKind.u64 r0); refine (RR _).mono ?_; rintro e w1 ⟨v, rfl, hv, os3, n3, rfl⟩; obtain ⟨vs, va, vn, vc, rfl⟩ := hv.shape)))
        all_goals
          go_wp2
          go_meet
          case rel =>
            simp only [Gr.gr, Gr.of_drew] at hu hv
            refine ⟨_, _, us, vs, ua, va, un, uc, vn, vc, rfl, rfl, ?_, ?_, ?_, ?_, ?_, hu.kb ?_, hv.kb ?_, (by with_reducible repeat (first | exact IsGr.refl _ | refine IsGr.gr ?_ _ _ | refine IsGr.alloc ?_ _ | refine IsGr.drew ?_ | refine IsGr.drewN ?_ _))⟩
            · simp [Gr.size]
              try omega
            · simp [Gr.size]
              try omega
            · simp [Gr.size]
              try omega
            · simp [go_sem]
            · simp [go_sem]
            · with_reducible repeat (first | exact Kb.refl _ | refine Kb.gr ?_ (by first | (simp; done) | simp [Gr.size]) _ _ _ | refine Kb.gr_app ?_ (by first | (simp; done) | simp [Gr.size]) _ _ _ _ | refine Kb.box ?_ (by first | (simp; done) | simp [Gr.size]) _ _ _ _ _ _ _ _ _ | refine Kb.alloc ?_ (by first | (simp; done) | simp [Gr.size]) _ | refine Kb.drew_l ?_ | refine Kb.drew_r ?_ | refine Kb.lay ?_ _ | refine Kb.grow ?_ _ _)
            · with_reducible repeat (first | exact Kb.refl _ | refine Kb.gr ?_ (by first | (simp; done) | simp [Gr.size]) _ _ _ | refine Kb.gr_app ?_ (by first | (simp; done) | simp [Gr.size]) _ _ _ _ | refine Kb.box ?_ (by first | (simp; done) | simp [Gr.size]) _ _ _ _ _ _ _ _ _ | refine Kb.alloc ?_ (by first | (simp; done) | simp [Gr.size]) _ | refine Kb.drew_l ?_ | refine Kb.drew_r ?_ | refine Kb.lay ?_ _ | refine Kb.grow ?_ _ _)
      case rest =>
        obtain ⟨g12, g13, ms, ns, ma, na, mn, mc, nn, nc, rfl, rfl, hsz3, h12, h13, ⟨c1, c2, c3, c4⟩, -, hm, hn, hg3⟩ := hcut
        have a1 := hg3.cell_eq h5 b1
        have a2 := hg3.cell_eq h5 b2
        have a3 := hg3.cell_eq h6 b3
        have a4 := hg3.cell_eq h6 b4
        have k5 : g5 < wc.heap.size := by have := hg3.size; omega
        have k6 : g6 < wc.heap.size := by have := hg3.size; omega
        have HM := fun w1 (hg : IsGr wc w1) => hm.gr hg
        have HN := fun w1 (hg : IsGr wc w1) => hn.gr hg
        have HV2 := fun w1 (hg : IsGr wc w1) => HV w1 (hg3.trans hg)
        have B3' := fun w1 (hg : IsGr wc w1) => B3 w1 (hg3.trans hg)
        have CQ' := fun w1 v (h : IsBig w1 v (Q * y + R)) (hg : IsGr wc w1) => CQ w1 v h (hg3.trans hg)
        have BN := fun w1 (hg : IsGr wc w1) => BigSign_any _ R w1 (HN w1 hg) sR
        have BC := fun w1 (hg : IsGr wc w1) => BigCmp_any _ _ R y w1 (HN w1 hg) (HV2 w1 hg) sR sy
        have HG2 : Hid (IsGr w wc) := HG.out.trans hg3
        clear hg3 HU HV B3 CQ b1 b2 b3 b4 h5 h6
        go_upto_region 8 with fail
        go_region_held3 (fun w' => (w'.cell? ⟨g5, 0, none⟩ = some (.bool us) ∧ w'.cell? ⟨g5, 1, none⟩ = some (.slice ua un uc) ∧ w'.cell? ⟨g6, 0, none⟩ = some (.bool vs) ∧ w'.cell? ⟨g6, 1, none⟩ = some (.slice va vn vc)) ∧ (w'.cell? ⟨g12, 0, none⟩ = some (.bool ms) ∧ w'.cell? ⟨g12, 1, none⟩ = some (.slice ma mn mc) ∧ w'.cell? ⟨g13, 0, none⟩ = some (.bool ns) ∧ w'.cell? ⟨g13, 1, none⟩ = some (.slice na nn nc))) (simp [go_sem, a1, a2, a3, a4, c1, c2, c3, c4, k5, k6, h12, h13])
          ((first | (go_at_call 17; refine (BigMul_any _ _ Q y _ (HM _ ?_) (HV2 _ ?_) sQ sy).mono ?_; exact (by with_reducible repeat (first | exact IsGr.refl _ | refine IsGr.gr ?_ _ _ | refine IsGr.alloc ?_ _ | refine IsGr.drew ?_ | refine IsGr.drewN ?_ _)); exact (by with_reducible repeat (first | exact IsGr.refl _ | refine IsGr.gr ?_ _ _ | refine IsGr.alloc ?_ _ | refine IsGr.drew ?_ | refine IsGr.drewN ?_ _)); rintro e w1 ⟨p, rfl, hp, os3, n3, rfl⟩; obtain ⟨ps, pa, pn, pc, rfl⟩ := hp.shape) | (go_at_call 26; refine (BigAdd_any _ _ (Q * y) R _ (hp.gr ?_) (HN _ ?_) sP sR).mono ?_; exact (by repeat (first | with_reducible exact IsGr.refl _ | (refine ⟨#[], n3, ?_⟩; (try simp only [Gr.of_drew]); (try simp only [Gr.gr]); (try simp only [Array.append_assoc]); (try simp only [Array.append_empty]); (try with_reducible rfl); done) | with_reducible refine IsGr.alloc ?_ _ | with_reducible refine IsGr.gr ?_ _ _ | with_reducible refine IsGr.drew ?_ | with_reducible refine IsGr.drewN ?_ _)); exact (by with_reducible repeat (first | exact IsGr.refl _ | refine IsGr.gr ?_ _ _ | refine IsGr.alloc ?_ _ | refine IsGr.drew ?_ | refine IsGr.drewN ?_ _)); rintro e w1 ⟨t, rfl, ht, os4, n4, rfl⟩; obtain ⟨ts, ta, tn, tc, rfl⟩ := ht.shape) | (go_at_call 22; refine (CQ' _ _ (ht.gr ?_) ?_).mono ?_; exact (by repeat (first | with_reducible exact IsGr.refl _ | (refine ⟨#[], n4, ?_⟩; (try simp only [Gr.of_drew]); (try simp only [Gr.gr]); (try simp only [Array.append_assoc]); (try simp only [Array.append_empty]); (try with_reducible rfl); done) | with_reducible refine IsGr.alloc ?_ _ | with_reducible refine IsGr.gr ?_ _ _ | with_reducible refine IsGr.drew ?_ | with_reducible refine IsGr.drewN ?_ _)); exact (by with_reducible repeat (first | exact IsGr.refl _ | refine IsGr.gr ?_ _ _ | refine IsGr.alloc ?_ _ | refine IsGr.drew ?_ | refine IsGr.drewN ?_ _)); rintro e w1 ⟨rfl, os5, n5, rfl⟩)))
        all_goals
          go_wp2_with fail
          refine (B3' _ ?_).mono ?_
          exact (by with_reducible repeat (first | exact IsGr.refl _ | refine IsGr.gr ?_ _ _ | refine IsGr.alloc ?_ _ | refine IsGr.drew ?_ | refine IsGr.drewN ?_ _))
          rintro e w1 ⟨rfl, os6, n6, rfl⟩
          by_cases hyp : 0 < y
          · have e1 : cmpI y 0 = 1 := cmpI_gt hyp
            have e2 : 0 ≤ cmpI R 0 := by
              have := (HF.out.2.1 hyp).1
              unfold cmpI; rw [if_neg (by omega)]; split <;> decide
            have e3 : cmpI R y = -1 := cmpI_lt (HF.out.2.1 hyp).2
            rw [e1]
            go_wp2_with fail
            refine (BN _ ?_).mono ?_
            exact (by with_reducible repeat (first | exact IsGr.refl _ | refine IsGr.gr ?_ _ _ | refine IsGr.alloc ?_ _ | refine IsGr.drew ?_ | refine IsGr.drewN ?_ _))
            rintro e w1 ⟨rfl, os7, n7, rfl⟩
            go_wp2_with fail
            refine (BC _ ?_).mono ?_
            exact (by with_reducible repeat (first | exact IsGr.refl _ | refine IsGr.gr ?_ _ _ | refine IsGr.alloc ?_ _ | refine IsGr.drew ?_ | refine IsGr.drewN ?_ _))
            rintro e w1 ⟨rfl, os8, n8, rfl⟩
            rw [e3]
            go_wp2_with fail
            refine (CA _).mono ?_
            rintro e w1 ⟨rfl, os11, n11, rfl⟩
            go_wp2
            go_ret
            exact ⟨rfl, HG2.out.trans (by with_reducible repeat (first | exact IsGr.refl _ | refine IsGr.gr ?_ _ _ | refine IsGr.alloc ?_ _ | refine IsGr.drew ?_ | refine IsGr.drewN ?_ _))⟩
          · have e1 : cmpI y 0 = -1 := cmpI_lt (by omega)
            have hyn : y < 0 := by omega
            have e2 : cmpI R 0 ≤ 0 := by
              have := (HF.out.2.2 hyn).2
              unfold cmpI; repeat' split
              all_goals omega
            have e3 : cmpI R y = 1 := cmpI_gt (HF.out.2.2 hyn).1
            rw [e1]
            go_wp2_with fail
            refine (B3' _ ?_).mono ?_
            exact (by with_reducible repeat (first | exact IsGr.refl _ | refine IsGr.gr ?_ _ _ | refine IsGr.alloc ?_ _ | refine IsGr.drew ?_ | refine IsGr.drewN ?_ _))
            rintro e w1 ⟨rfl, os12, n12, rfl⟩
            rw [e1]
            go_wp2_with fail
            refine (BN _ ?_).mono ?_
            exact (by with_reducible repeat (first | exact IsGr.refl _ | refine IsGr.gr ?_ _ _ | refine IsGr.alloc ?_ _ | refine IsGr.drew ?_ | refine IsGr.drewN ?_ _))
            rintro e w1 ⟨rfl, os7, n7, rfl⟩
            go_wp2_with fail
            refine (BC _ ?_).mono ?_
            exact (by with_reducible repeat (first | exact IsGr.refl _ | refine IsGr.gr ?_ _ _ | refine IsGr.alloc ?_ _ | refine IsGr.drew ?_ | refine IsGr.drewN ?_ _))
            rintro e w1 ⟨rfl, os8, n8, rfl⟩
            rw [e3]
            go_wp2_with fail
            refine (CA _).mono ?_
            rintro e w1 ⟨rfl, os11, n11, rfl⟩
            go_wp2
            go_ret
            exact ⟨rfl, HG2.out.trans (by with_reducible repeat (first | exact IsGr.refl _ | refine IsGr.gr ?_ _ _ | refine IsGr.alloc ?_ _ | refine IsGr.drew ?_ | refine IsGr.drewN ?_ _))⟩
    · have heI := fun w => eqI_t Is.zero Is.zero rfl w
      go_wp2_with fail
      refine (B3 _ ?_).mono ?_
      exact (by with_reducible repeat (first | exact IsGr.refl _ | refine IsGr.gr ?_ _ _ | refine IsGr.alloc ?_ _ | refine IsGr.drew ?_ | refine IsGr.drewN ?_ _))
      rintro e w1 ⟨rfl, os2, n2, rfl⟩
      obtain ⟨L, hL⟩ : ∃ L, L = decide (x = -57896044618658097711785492504343953926634992332820282019728792003956564819968 ∧ y = -1) := ⟨_, rfl⟩
      have HL : Hid (L = decide (x = -57896044618658097711785492504343953926634992332820282019728792003956564819968 ∧ y = -1)) := hL
      clear hL
      have CP := fun w1 => Power_any 255 w1 (by omega) (by omega)
      rw [show (2 : Int) ^ (255 : Int).toNat = 57896044618658097711785492504343953926634992332820282019728792003956564819968 by decide] at CP
      have CO := fun w => BigOf_any (-1) (by omega) (by omega) w
      have sH : Sm 57896044618658097711785492504343953926634992332820282019728792003956564819968 := by unfold Sm; omega
      have sN : Sm (0 - 57896044618658097711785492504343953926634992332820282019728792003956564819968) := by unfold Sm; omega
      have s1 : Sm (-1) := by unfold Sm; omega
      have tok1 : True := trivial
      go_upto_region 5 with fail
      go_cut [11] (fun t11 wr => t11 = .bool L ∧ (W1.heap.size + os1.size + 1 + 1 ≤ wr.heap.size) ∧ (wr.cell? ⟨W1.heap.size + os1.size, 0, none⟩ = some (.int .u64 0) ∧ wr.cell? ⟨W1.heap.size + os1.size, 1, none⟩ = some (.int .u64 0) ∧ wr.cell? ⟨W1.heap.size + os1.size, 2, none⟩ = some (.int .u64 0) ∧ wr.cell? ⟨W1.heap.size + os1.size, 3, none⟩ = some (.int .u64 0) ∧ wr.cell? ⟨W1.heap.size + os1.size + 1, 0, none⟩ = some (.int .u64 0) ∧ wr.cell? ⟨W1.heap.size + os1.size + 1, 1, none⟩ = some (.int .u64 0) ∧ wr.cell? ⟨W1.heap.size + os1.size + 1, 2, none⟩ = some (.int .u64 0) ∧ wr.cell? ⟨W1.heap.size + os1.size + 1, 3, none⟩ = some (.int .u64 0)) ∧ IsGr W1 wr)
      case first =>
        by_cases hxl : x = 0 - 57896044618658097711785492504343953926634992332820282019728792003956564819968
        · have e1 : cmpI x (0 - 57896044618658097711785492504343953926634992332820282019728792003956564819968) = 0 := cmpI_eq hxl
          obtain ⟨C, hC, hC2⟩ : ∃ C, cmpI y (-1) = C ∧ (C == 0) = L := by
            refine ⟨_, rfl, ?_⟩
            rw [HL.out]; unfold cmpI; repeat' split
            all_goals simp
            all_goals omega
          have hC' : Hid (cmpI y (-1) = C) := hC
          clear hC hno
          go_region_held3 (fun w' => w'.cell? ⟨g5, 0, none⟩ = some (.bool us) ∧ w'.cell? ⟨g5, 1, none⟩ = some (.slice ua un uc) ∧ w'.cell? ⟨g6, 0, none⟩ = some (.bool vs) ∧ w'.cell? ⟨g6, 1, none⟩ = some (.slice va vn vc)) (simp [go_sem, b1, b2, b3, b4, h5, h6])
            ((first | (go_at_call 24; refine (CP _).mono ?_; rintro e w1 ⟨p, rfl, hp, os3, n3, rfl⟩; obtain ⟨ps, pa, pn, pc, rfl⟩ := hp.shape) | (go_at_call 23; refine (Minus_any _ 57896044618658097711785492504343953926634992332820282019728792003956564819968 _ (hp.gr ?_) sH).mono ?_; exact (by repeat (first | with_reducible exact IsGr.refl _ | (refine ⟨#[], n3, ?_⟩; (try simp only [Gr.of_drew]); (try simp only [Gr.gr]); (try simp only [Array.append_assoc]); (try simp only [Array.append_empty]); (try with_reducible rfl); done) | with_reducible refine IsGr.alloc ?_ _ | with_reducible refine IsGr.gr ?_ _ _ | with_reducible refine IsGr.drew ?_ | with_reducible refine IsGr.drewN ?_ _)); rintro e w1 ⟨t, rfl, ht, os4, n4, rfl⟩; obtain ⟨ts, ta, tn, tc, rfl⟩ := ht.shape) | (go_at_call 22; have _t := tok1; refine (BigCmp_any _ _ x (0 - 57896044618658097711785492504343953926634992332820282019728792003956564819968) _ (HU _ ?_) (ht.gr ?_) sx sN).mono ?_; exact (by with_reducible repeat (first | exact IsGr.refl _ | refine IsGr.gr ?_ _ _ | refine IsGr.alloc ?_ _ | refine IsGr.drew ?_ | refine IsGr.drewN ?_ _)); exact (by repeat (first | with_reducible exact IsGr.refl _ | (refine ⟨#[], n4, ?_⟩; (try simp only [Gr.of_drew]); (try simp only [Gr.gr]); (try simp only [Array.append_assoc]); (try simp only [Array.append_empty]); (try with_reducible rfl); done) | with_reducible refine IsGr.alloc ?_ _ | with_reducible refine IsGr.gr ?_ _ _ | with_reducible refine IsGr.drew ?_ | with_reducible refine IsGr.drewN ?_ _)); rw [e1]; rintro e w1 ⟨rfl, os5, n5, rfl⟩; clear tok1) | (go_at_call 25; refine (CO _).mono ?_; rintro e w1 ⟨o, rfl, ho, os6, n6, rfl⟩; obtain ⟨oos, oa, on, oc, rfl⟩ := ho.shape) | (go_at_call 22; refine (BigCmp_any _ _ y (-1) _ (HV _ ?_) (ho.gr ?_) sy s1).mono ?_; exact (by with_reducible repeat (first | exact IsGr.refl _ | refine IsGr.gr ?_ _ _ | refine IsGr.alloc ?_ _ | refine IsGr.drew ?_ | refine IsGr.drewN ?_ _)); exact (by repeat (first | with_reducible exact IsGr.refl _ | (refine ⟨#[], n6, ?_⟩; (try simp only [Gr.of_drew]); (try simp only [Gr.gr]); (try simp only [Array.append_assoc]); (try simp only [Array.append_empty]); (try with_reducible rfl); done) | with_reducible refine IsGr.alloc ?_ _ | with_reducible refine IsGr.gr ?_ _ _ | with_reducible refine IsGr.drew ?_ | with_reducible refine IsGr.drewN ?_ _)); rw [hC'.out]; rintro e w1 ⟨rfl, os7, n7, rfl⟩)))
          all_goals
            go_wp2
            go_meet
            case rel =>
              refine ⟨rfl, ?_, ?_, (by with_reducible repeat (first | exact IsGr.refl _ | refine IsGr.gr ?_ _ _ | refine IsGr.alloc ?_ _ | refine IsGr.drew ?_ | refine IsGr.drewN ?_ _))⟩
              · simp [Gr.size]
                try omega
              · simp [go_sem]
        · have hL : L = false := by rw [HL.out]; simp; omega
          subst hL
          obtain ⟨C, hC, hC2⟩ : ∃ C, cmpI x (0 - 57896044618658097711785492504343953926634992332820282019728792003956564819968) = C ∧ (C == 0) = false := by
            refine ⟨_, rfl, ?_⟩
            unfold cmpI; repeat' split
            all_goals simp
            all_goals omega
          have hC' : Hid (cmpI x (0 - 57896044618658097711785492504343953926634992332820282019728792003956564819968) = C) := hC
          clear hC hno
          go_region_with (first | (go_at_call 24; refine (CP _).mono ?_; rintro e w1 ⟨p, rfl, hp, os3, n3, rfl⟩; obtain ⟨ps, pa, pn, pc, rfl⟩ := hp.shape) | (go_at_call 23; refine (Minus_any _ 57896044618658097711785492504343953926634992332820282019728792003956564819968 _ (hp.gr ?_) sH).mono ?_; exact (by repeat (first | with_reducible exact IsGr.refl _ | (refine ⟨#[], n3, ?_⟩; (try simp only [Gr.of_drew]); (try simp only [Gr.gr]); (try simp only [Array.append_assoc]); (try simp only [Array.append_empty]); (try with_reducible rfl); done) | with_reducible refine IsGr.alloc ?_ _ | with_reducible refine IsGr.gr ?_ _ _ | with_reducible refine IsGr.drew ?_ | with_reducible refine IsGr.drewN ?_ _)); rintro e w1 ⟨t, rfl, ht, os4, n4, rfl⟩; obtain ⟨ts, ta, tn, tc, rfl⟩ := ht.shape) | (go_at_call 22; refine (BigCmp_any _ _ x (0 - 57896044618658097711785492504343953926634992332820282019728792003956564819968) _ (HU _ ?_) (ht.gr ?_) sx sN).mono ?_; exact (by with_reducible repeat (first | exact IsGr.refl _ | refine IsGr.gr ?_ _ _ | refine IsGr.alloc ?_ _ | refine IsGr.drew ?_ | refine IsGr.drewN ?_ _)); exact (by repeat (first | with_reducible exact IsGr.refl _ | (refine ⟨#[], n4, ?_⟩; (try simp only [Gr.of_drew]); (try simp only [Gr.gr]); (try simp only [Array.append_assoc]); (try simp only [Array.append_empty]); (try with_reducible rfl); done) | with_reducible refine IsGr.alloc ?_ _ | with_reducible refine IsGr.gr ?_ _ _ | with_reducible refine IsGr.drew ?_ | with_reducible refine IsGr.drewN ?_ _)); rw [hC'.out]; rintro e w1 ⟨rfl, os5, n5, rfl⟩))
          all_goals
            go_wp2
            go_meet
            case rel =>
              refine ⟨rfl, ?_, ?_, (by with_reducible repeat (first | exact IsGr.refl _ | refine IsGr.gr ?_ _ _ | refine IsGr.alloc ?_ _ | refine IsGr.drew ?_ | refine IsGr.drewN ?_ _))⟩
              · simp [Gr.size]
                try omega
              · simp [go_sem]
      case rest =>
        obtain ⟨rfl, hsz2, ⟨j1, j2, j3, j4, j5, j6, j7, j8⟩, hg2⟩ := hcut
        have HG2 : Hid (IsGr w wc) := HG.out.trans hg2
        have y1 : W1.heap.size + os1.size < wc.heap.size := by omega
        have y2 : W1.heap.size + os1.size + 1 < wc.heap.size := by omega
        clear hg2 hsz2
        by_cases hy0 : y = 0
        · have hz : (cmpI y 0 == 0) = true := by rw [cmpI_eq hy0]; rfl
          go_wp2_with fail
          refine (CA _).mono ?_
          rintro e w1 ⟨rfl, os11, n11, rfl⟩
          go_wp2
          go_ret
          exact ⟨rfl, HG2.out.trans (by with_reducible repeat (first | exact IsGr.refl _ | refine IsGr.gr ?_ _ _ | refine IsGr.alloc ?_ _ | refine IsGr.drew ?_ | refine IsGr.drewN ?_ _))⟩
        · have hz : (cmpI y 0 == 0) = false := by
            unfold cmpI; repeat' split
            all_goals simp
            all_goals omega
          have hL : L = true := by rw [HL.out]; simp; omega
          subst hL
          go_wp2_with fail
          refine (CA _).mono ?_
          rintro e w1 ⟨rfl, os11, n11, rfl⟩
          go_wp2
          go_ret
          exact ⟨rfl, HG2.out.trans (by with_reducible repeat (first | exact IsGr.refl _ | refine IsGr.gr ?_ _ _ | refine IsGr.alloc ?_ _ | refine IsGr.drew ?_ | refine IsGr.drewN ?_ _))⟩
end Go.Proofs.Ytjgkmhgaacallaa
