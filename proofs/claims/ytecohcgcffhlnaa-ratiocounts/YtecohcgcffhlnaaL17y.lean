/- gromalaw02.RatioCounts, where the sum is told: the law answers true. -/
import Derived.Test.YtecohcgcffhlnaaL17
namespace Go.Proofs.Ytecohcgcffhlnaa
open Go.RowKit Go.Shelf
attribute [local go_sem] Gr.size Gr.cell? Gr.frozen? Gr.setCell Gr.drew Gr.drewN Gr.of_drew Gr.of_drewN Gr.gr Gr.lt_of1 Gr.le_of1 Gr.lt_of2 Gr.le_of2 Gr.lt_of3 Gr.le_of3 Gr.lt_of4 Gr.le_of4 Gr.lt_of5 Gr.le_of5 Gr.lt_of6 Gr.le_of6 Gr.lt_of7 Gr.le_of7 Gr.lt_of8 Gr.le_of8 Gr.lt_of9 Gr.le_of9 Gr.lt_of10 Gr.le_of10 Gr.lt_of11 Gr.le_of11 Gr.lt_of12 Gr.le_of12 Gr.lt_of13 Gr.le_of13 Gr.lt_of14 Gr.le_of14 Gr.lt_of15 Gr.le_of15 Gr.lt_of16 Gr.le_of16 Gr.lt_of17 Gr.le_of17 Gr.lt_of18 Gr.le_of18 Gr.lt_of19 Gr.le_of19 Gr.lt_of20 Gr.le_of20 Gr.lt_of21 Gr.le_of21 Gr.lt_of22 Gr.le_of22 Gr.lt_of23 Gr.le_of23 Gr.lt_of24 Gr.le_of24

set_option maxRecDepth 20000 in set_option maxHeartbeats 12000000 in
theorem law_rcounts_y (n0 n1 n2 n3 n d0 d1 d2 d3 d q0 q1 q2 q3 q c0 c1 c2 c3 c : Int) (hn : IsI n0 n1 n2 n3 n) (hd : IsI d0 d1 d2 d3 d) (hm : IsI q0 q1 q2 q3 q) (hc : IsI c0 c1 c2 c3 c) (HOK : addOk n d q c) (w : World) :
    Calls Try.prog 4 #[.agg #[.int .u64 n0, .int .u64 n1, .int .u64 n2, .int .u64 n3, .int .u64 d0, .int .u64 d1, .int .u64 d2, .int .u64 d3], .agg #[.int .u64 q0, .int .u64 q1, .int .u64 q2, .int .u64 q3, .int .u64 c0, .int .u64 c1, .int .u64 c2, .int .u64 c3]] w fun e w' => e = .returned (.bool true) ∧ IsGr w w' := by
  have CA := fun w => awake2_any w
  have CS := fun w => RAdd_any n0 n1 n2 n3 n d0 d1 d2 d3 d q0 q1 q2 q3 q c0 c1 c2 c3 c hn hd hm hc w
  have CP := fun w => RMul_any n0 n1 n2 n3 n d0 d1 d2 d3 d q0 q1 q2 q3 q c0 c1 c2 c3 c hn hd hm hc w
  have R2 := fun w => right_any n0 n1 n2 n3 d0 d1 d2 d3 d hd w
  have Q2 := fun w => right_any q0 q1 q2 q3 c0 c1 c2 c3 c hc w
  have XA := fun w => ref_any n0 n1 n2 n3 n d0 d1 d2 d3 d hn hd w
  have XB := fun w => ref_any q0 q1 q2 q3 q c0 c1 c2 c3 c hm hc w
  have sn : Sm n := by have := hn.2; unfold Sm; omega
  have sd : Sm d := by have := hd.2; unfold Sm; omega
  have sm : Sm q := by have := hm.2; unfold Sm; omega
  have sc : Sm c := by have := hc.2; unfold Sm; omega
  have s1 : Sm (n * c) := prod_sm hn.2 hc.2
  have s2 : Sm (q * d) := prod_sm hm.2 hd.2
  have s3 : Sm (d * c) := prod_sm hd.2 hc.2
  have s4 : Sm (n * q) := prod_sm hn.2 hm.2
  have s5 : Sm (n * c + q * d) := prod2_sm hn.2 hc.2 hm.2 hd.2
  have heR := fun w => eqR_t Is.zero Is.zero Is.zero Is.zero rfl rfl w
  have HO : Hid (addOk n d q c) := HOK
  clear HOK
  clear hn hd hm hc
  go_enter Try.func4, Try.ntmps4
  go_wp2_with fail
  refine (CS _).mono ?_
  rintro e w1 ⟨i0, i1, i2, i3, j0, j1, j2, j3, ok, rfl, hS, os1, k1, rfl⟩
  go_upto_region 2 with fail
  go_cut [5, 6, 7, 8] (fun t5 t6 t7 t8 wr => ∃ (g5 g7 : Nat) (u0 u1 u2 u3 v0 v1 v2 v3 : Int) (is : Bool), t5 = .pointer (some ⟨g5, 0, none⟩) ∧ t6 = .bool ok ∧ t7 = .pointer (some ⟨g7, 0, none⟩) ∧ t8 = .bool is ∧ FracT (mulOk n d q c) (n * q) (d * c) u0 u1 u2 u3 v0 v1 v2 v3 is ∧ w.heap.size + 1 < wr.heap.size ∧ g5 < wr.heap.size ∧ g7 < wr.heap.size ∧ (wr.cell? ⟨w.heap.size, 0, none⟩ = some (.int .u64 n0) ∧ wr.cell? ⟨w.heap.size, 1, none⟩ = some (.int .u64 n1) ∧ wr.cell? ⟨w.heap.size, 2, none⟩ = some (.int .u64 n2) ∧ wr.cell? ⟨w.heap.size, 3, none⟩ = some (.int .u64 n3) ∧ wr.cell? ⟨w.heap.size, 4, none⟩ = some (.int .u64 d0) ∧ wr.cell? ⟨w.heap.size, 5, none⟩ = some (.int .u64 d1) ∧ wr.cell? ⟨w.heap.size, 6, none⟩ = some (.int .u64 d2) ∧ wr.cell? ⟨w.heap.size, 7, none⟩ = some (.int .u64 d3)) ∧ (wr.cell? ⟨w.heap.size + 1, 0, none⟩ = some (.int .u64 q0) ∧ wr.cell? ⟨w.heap.size + 1, 1, none⟩ = some (.int .u64 q1) ∧ wr.cell? ⟨w.heap.size + 1, 2, none⟩ = some (.int .u64 q2) ∧ wr.cell? ⟨w.heap.size + 1, 3, none⟩ = some (.int .u64 q3) ∧ wr.cell? ⟨w.heap.size + 1, 4, none⟩ = some (.int .u64 c0) ∧ wr.cell? ⟨w.heap.size + 1, 5, none⟩ = some (.int .u64 c1) ∧ wr.cell? ⟨w.heap.size + 1, 6, none⟩ = some (.int .u64 c2) ∧ wr.cell? ⟨w.heap.size + 1, 7, none⟩ = some (.int .u64 c3)) ∧ (wr.cell? ⟨g5, 0, none⟩ = some (.int .u64 i0) ∧ wr.cell? ⟨g5, 1, none⟩ = some (.int .u64 i1) ∧ wr.cell? ⟨g5, 2, none⟩ = some (.int .u64 i2) ∧ wr.cell? ⟨g5, 3, none⟩ = some (.int .u64 i3) ∧ wr.cell? ⟨g5, 4, none⟩ = some (.int .u64 j0) ∧ wr.cell? ⟨g5, 5, none⟩ = some (.int .u64 j1) ∧ wr.cell? ⟨g5, 6, none⟩ = some (.int .u64 j2) ∧ wr.cell? ⟨g5, 7, none⟩ = some (.int .u64 j3)) ∧ (wr.cell? ⟨g7, 0, none⟩ = some (.int .u64 u0) ∧ wr.cell? ⟨g7, 1, none⟩ = some (.int .u64 u1) ∧ wr.cell? ⟨g7, 2, none⟩ = some (.int .u64 u2) ∧ wr.cell? ⟨g7, 3, none⟩ = some (.int .u64 u3) ∧ wr.cell? ⟨g7, 4, none⟩ = some (.int .u64 v0) ∧ wr.cell? ⟨g7, 5, none⟩ = some (.int .u64 v1) ∧ wr.cell? ⟨g7, 6, none⟩ = some (.int .u64 v2) ∧ wr.cell? ⟨g7, 7, none⟩ = some (.int .u64 v3)) ∧ IsGr w wr)
  case first => as_aux_lemma =>
    clear XA XB CA R2 Q2
    go_wp2_with fail
    refine (CP _).mono ?_
    rintro e w1 ⟨u0, u1, u2, u3, v0, v1, v2, v3, is, rfl, hP, os2, k2, rfl⟩
    go_wp2
    go_meet
    case rel =>
      refine ⟨_, _, u0, u1, u2, u3, v0, v1, v2, v3, is, rfl, rfl, rfl, rfl, hP, ?_, ?_, ?_, ?_, ?_, ?_, ?_, (by with_reducible repeat (first | exact IsGr.refl _ | refine IsGr.gr ?_ _ _ | refine IsGr.alloc ?_ _ | refine IsGr.drew ?_ | refine IsGr.drewN ?_ _))⟩
      · first | (simp [Gr.size]; done) | (simp [Gr.size]; omega) | (simp; done) | (simp; omega)
      · first | (simp [Gr.size]; done) | (simp [Gr.size]; omega) | (simp; done) | (simp; omega)
      · first | (simp [Gr.size]; done) | (simp [Gr.size]; omega) | (simp; done) | (simp; omega)
      · simp [go_sem]
      · simp [go_sem]
      · simp [go_sem]
      · simp [go_sem]
  case rest =>
    obtain ⟨g5, g7, u0, u1, u2, u3, v0, v1, v2, v3, is, rfl, rfl, rfl, rfl, hP, kb, kx, ky, ⟨a0, a1, a2, a3, a4, a5, a6, a7⟩, ⟨e0, e1, e2, e3, e4, e5, e6, e7⟩, ⟨x0, x1, x2, x3, x4, x5, x6, x7⟩, ⟨y0, y1, y2, y3, y4, y5, y6, y7⟩, hg⟩ := hcut
    obtain ⟨W1, hW9⟩ : ∃ W1, W1 = wc := ⟨_, rfl⟩
    subst hW9
    have HG : Hid (IsGr w W1) := hg
    have ka : w.heap.size < W1.heap.size := by omega
    clear hg CS CP
    go_upto_region 3 with fail
    go_cut [9, 10] (fun t9 t10 wr => ∃ (g h : Nat) (xs ys us vs : Bool) (xa ya ua va : Option Addr) (xn xc yn yc un uc vn vc : Nat), t9 = .pointer (some ⟨g, 0, none⟩) ∧ t10 = .pointer (some ⟨h, 0, none⟩) ∧ g < wr.heap.size ∧ h < wr.heap.size ∧ (wr.cell? ⟨g, 0, none⟩ = some (.bool xs) ∧ wr.cell? ⟨g, 1, none⟩ = some (.slice xa xn xc) ∧ wr.cell? ⟨g, 2, none⟩ = some (.bool ys) ∧ wr.cell? ⟨g, 3, none⟩ = some (.slice ya yn yc)) ∧ (wr.cell? ⟨h, 0, none⟩ = some (.bool us) ∧ wr.cell? ⟨h, 1, none⟩ = some (.slice ua un uc) ∧ wr.cell? ⟨h, 2, none⟩ = some (.bool vs) ∧ wr.cell? ⟨h, 3, none⟩ = some (.slice va vn vc)) ∧ IsBig wr (.agg #[.bool xs, .slice xa xn xc]) n ∧ IsBig wr (.agg #[.bool ys, .slice ya yn yc]) d ∧ IsBig wr (.agg #[.bool us, .slice ua un uc]) q ∧ IsBig wr (.agg #[.bool vs, .slice va vn vc]) c ∧ IsGr W1 wr)
    case first => as_aux_lemma =>
      clear x0 x1 x2 x3 x4 x5 x6 x7 y0 y1 y2 y3 y4 y5 y6 y7 kx ky
      go_region_held3 (fun w' => (w'.cell? ⟨w.heap.size, 0, none⟩ = some (.int .u64 n0) ∧ w'.cell? ⟨w.heap.size, 1, none⟩ = some (.int .u64 n1) ∧ w'.cell? ⟨w.heap.size, 2, none⟩ = some (.int .u64 n2) ∧ w'.cell? ⟨w.heap.size, 3, none⟩ = some (.int .u64 n3) ∧ w'.cell? ⟨w.heap.size, 4, none⟩ = some (.int .u64 d0) ∧ w'.cell? ⟨w.heap.size, 5, none⟩ = some (.int .u64 d1) ∧ w'.cell? ⟨w.heap.size, 6, none⟩ = some (.int .u64 d2) ∧ w'.cell? ⟨w.heap.size, 7, none⟩ = some (.int .u64 d3)) ∧ (w'.cell? ⟨w.heap.size + 1, 0, none⟩ = some (.int .u64 q0) ∧ w'.cell? ⟨w.heap.size + 1, 1, none⟩ = some (.int .u64 q1) ∧ w'.cell? ⟨w.heap.size + 1, 2, none⟩ = some (.int .u64 q2) ∧ w'.cell? ⟨w.heap.size + 1, 3, none⟩ = some (.int .u64 q3) ∧ w'.cell? ⟨w.heap.size + 1, 4, none⟩ = some (.int .u64 c0) ∧ w'.cell? ⟨w.heap.size + 1, 5, none⟩ = some (.int .u64 c1) ∧ w'.cell? ⟨w.heap.size + 1, 6, none⟩ = some (.int .u64 c2) ∧ w'.cell? ⟨w.heap.size + 1, 7, none⟩ = some (.int .u64 c3))) (simp [go_sem, a0, a1, a2, a3, a4, a5, a6, a7, e0, e1, e2, e3, e4, e5, e6, e7, ka, kb])
        ((first | (go_at_call_of 22 (Value.int IntKind.u64 n0); refine (XA _).mono ?_; rintro e w1 ⟨xs, ys, xa, ya, xn, xc, yn, yc, rfl, hX, hY, os2, m2, rfl⟩; (try simp only [Gr.of_drew] at hX); (try simp only [Gr.gr] at hX); (try simp only [Array.append_assoc] at hX); (try simp only [Gr.of_drew] at hY); (try simp only [Gr.gr] at hY); (try simp only [Array.append_assoc] at hY)) | (go_at_call_of 22 (Value.int IntKind.u64 q0); refine (XB _).mono ?_; rintro e w1 ⟨us, vs, ua, va, un, uc, vn, vc, rfl, hU, hV, os3, m3, rfl⟩; (try simp only [Gr.of_drew] at hU); (try simp only [Gr.gr] at hU); (try simp only [Array.append_assoc] at hU); (try simp only [Gr.of_drew] at hV); (try simp only [Gr.gr] at hV); (try simp only [Array.append_assoc] at hV))))
      all_goals
        go_wp2
        go_meet
        case rel =>
          refine ⟨_, _, xs, ys, us, vs, xa, ya, ua, va, xn, xc, yn, yc, un, uc, vn, vc, rfl, rfl, ?_, ?_, ?_, ?_, hX.kb ?_, hY.kb ?_, hU.kb ?_, hV.kb ?_, (by with_reducible repeat (first | exact IsGr.refl _ | refine IsGr.gr ?_ _ _ | refine IsGr.alloc ?_ _ | refine IsGr.drew ?_ | refine IsGr.drewN ?_ _))⟩
          · first | (simp [Gr.size]; done) | (simp [Gr.size]; omega)
          · first | (simp [Gr.size]; done) | (simp [Gr.size]; omega)
          · simp [go_sem]
          · simp [go_sem]
          · with_reducible repeat (first | exact Kb.refl _ | refine Kb.box4 ?_ (by first | (simp; done) | (simp [Gr.size]; done)) _ _ _ _ _ _ _ _ _ _ _ _ _ _ _ _ _ | refine Kb.lay ?_ _ | refine Kb.gr ?_ (by first | (simp; done) | (simp [Gr.size]; done)) _ _ _ | refine Kb.gr_app ?_ (by first | (simp; done) | (simp [Gr.size]; done)) _ _ _ _ | exact Kb.of_gr (IsGr.gapp2 _ _ _ _ _ _) | exact Kb.of_gr (IsGr.gapp3 _ _ _ _ _ _ _) | refine Kb.grow ?_ _ _ | refine Kb.drew_l ?_ | refine Kb.drew_r ?_)
          · with_reducible repeat (first | exact Kb.refl _ | refine Kb.box4 ?_ (by first | (simp; done) | (simp [Gr.size]; done)) _ _ _ _ _ _ _ _ _ _ _ _ _ _ _ _ _ | refine Kb.lay ?_ _ | refine Kb.gr ?_ (by first | (simp; done) | (simp [Gr.size]; done)) _ _ _ | refine Kb.gr_app ?_ (by first | (simp; done) | (simp [Gr.size]; done)) _ _ _ _ | exact Kb.of_gr (IsGr.gapp2 _ _ _ _ _ _) | exact Kb.of_gr (IsGr.gapp3 _ _ _ _ _ _ _) | refine Kb.grow ?_ _ _ | refine Kb.drew_l ?_ | refine Kb.drew_r ?_)
          · with_reducible repeat (first | exact Kb.refl _ | refine Kb.box4 ?_ (by first | (simp; done) | (simp [Gr.size]; done)) _ _ _ _ _ _ _ _ _ _ _ _ _ _ _ _ _ | refine Kb.lay ?_ _ | refine Kb.gr ?_ (by first | (simp; done) | (simp [Gr.size]; done)) _ _ _ | refine Kb.gr_app ?_ (by first | (simp; done) | (simp [Gr.size]; done)) _ _ _ _ | exact Kb.of_gr (IsGr.gapp2 _ _ _ _ _ _) | exact Kb.of_gr (IsGr.gapp3 _ _ _ _ _ _ _) | refine Kb.grow ?_ _ _ | refine Kb.drew_l ?_ | refine Kb.drew_r ?_)
          · with_reducible repeat (first | exact Kb.refl _ | refine Kb.box4 ?_ (by first | (simp; done) | (simp [Gr.size]; done)) _ _ _ _ _ _ _ _ _ _ _ _ _ _ _ _ _ | refine Kb.lay ?_ _ | refine Kb.gr ?_ (by first | (simp; done) | (simp [Gr.size]; done)) _ _ _ | refine Kb.gr_app ?_ (by first | (simp; done) | (simp [Gr.size]; done)) _ _ _ _ | exact Kb.of_gr (IsGr.gapp2 _ _ _ _ _ _) | exact Kb.of_gr (IsGr.gapp3 _ _ _ _ _ _ _) | refine Kb.grow ?_ _ _ | refine Kb.drew_l ?_ | refine Kb.drew_r ?_)
    case rest =>
      obtain ⟨g, h, xs, ys, us, vs, xa, ya, ua, va, xn, xc, yn, yc, un, uc, vn, vc, rfl, rfl, kg, kh, ⟨oo1, oo2, oo3, oo4⟩, ⟨pp1, pp2, pp3, pp4⟩, hX, hY, hU, hV, hgr⟩ := hcut
      obtain ⟨W2, hW9⟩ : ∃ W2, W2 = wc := ⟨_, rfl⟩
      subst hW9
      replace a0 := hgr.cell_eq ka a0
      replace a1 := hgr.cell_eq ka a1
      replace a2 := hgr.cell_eq ka a2
      replace a3 := hgr.cell_eq ka a3
      replace a4 := hgr.cell_eq ka a4
      replace a5 := hgr.cell_eq ka a5
      replace a6 := hgr.cell_eq ka a6
      replace a7 := hgr.cell_eq ka a7
      replace e0 := hgr.cell_eq kb e0
      replace e1 := hgr.cell_eq kb e1
      replace e2 := hgr.cell_eq kb e2
      replace e3 := hgr.cell_eq kb e3
      replace e4 := hgr.cell_eq kb e4
      replace e5 := hgr.cell_eq kb e5
      replace e6 := hgr.cell_eq kb e6
      replace e7 := hgr.cell_eq kb e7
      replace x0 := hgr.cell_eq kx x0
      replace x1 := hgr.cell_eq kx x1
      replace x2 := hgr.cell_eq kx x2
      replace x3 := hgr.cell_eq kx x3
      replace x4 := hgr.cell_eq kx x4
      replace x5 := hgr.cell_eq kx x5
      replace x6 := hgr.cell_eq kx x6
      replace x7 := hgr.cell_eq kx x7
      replace y0 := hgr.cell_eq ky y0
      replace y1 := hgr.cell_eq ky y1
      replace y2 := hgr.cell_eq ky y2
      replace y3 := hgr.cell_eq ky y3
      replace y4 := hgr.cell_eq ky y4
      replace y5 := hgr.cell_eq ky y5
      replace y6 := hgr.cell_eq ky y6
      replace y7 := hgr.cell_eq ky y7
      replace ka : w.heap.size < W2.heap.size := Nat.lt_of_lt_of_le ka hgr.size
      replace kb : w.heap.size + 1 < W2.heap.size := Nat.lt_of_lt_of_le kb hgr.size
      replace kx : g5 < W2.heap.size := Nat.lt_of_lt_of_le kx hgr.size
      replace ky : g7 < W2.heap.size := Nat.lt_of_lt_of_le ky hgr.size
      replace HG : Hid (IsGr w W2) := HG.out.trans hgr
      have M1 := fun w1 (hg : IsGr W2 w1) => BigMul_any _ _ n c w1 (hX.gr hg) (hV.gr hg) sn sc
      have M2 := fun w1 (hg : IsGr W2 w1) => BigMul_any _ _ q d w1 (hU.gr hg) (hY.gr hg) sm sd
      have M3 := fun w1 (hg : IsGr W2 w1) => BigMul_any _ _ d c w1 (hY.gr hg) (hV.gr hg) sd sc
      have M4 := fun w1 (hg : IsGr W2 w1) => BigMul_any _ _ n q w1 (hX.gr hg) (hU.gr hg) sn sm
      have SO : ∀ w', IsGr W2 w' → (fun w' => (w'.cell? ⟨g, 0, none⟩ = some (.bool xs) ∧ w'.cell? ⟨g, 1, none⟩ = some (.slice xa xn xc) ∧ w'.cell? ⟨g, 2, none⟩ = some (.bool ys) ∧ w'.cell? ⟨g, 3, none⟩ = some (.slice ya yn yc)) ∧ (w'.cell? ⟨h, 0, none⟩ = some (.bool us) ∧ w'.cell? ⟨h, 1, none⟩ = some (.slice ua un uc) ∧ w'.cell? ⟨h, 2, none⟩ = some (.bool vs) ∧ w'.cell? ⟨h, 3, none⟩ = some (.slice va vn vc))) w' := fun w' hg => ⟨⟨hg.cell_eq kg oo1, hg.cell_eq kg oo2, hg.cell_eq kg oo3, hg.cell_eq kg oo4⟩, ⟨hg.cell_eq kh pp1, hg.cell_eq kh pp2, hg.cell_eq kh pp3, hg.cell_eq kh pp4⟩⟩
      clear hX hY hU hV hgr XA XB
      go_upto_region 4 with fail
      go_cut [11, 12, 13, 14] (fun t11 t12 t13 t14 wr => BigAt wr t11 (n * c) ∧ BigAt wr t12 (q * d) ∧ BigAt wr t13 (d * c) ∧ BigAt wr t14 (n * q) ∧ IsGr W2 wr)
      case first => as_aux_lemma =>
        clear a0 a1 a2 a3 a4 a5 a6 a7 e0 e1 e2 e3 e4 e5 e6 e7 x0 x1 x2 x3 x4 x5 x6 x7 y0 y1 y2 y3 y4 y5 y6 y7 ka kb kx ky R2 Q2 CA
        refine wp_region_held_drew (S := (fun w' => (w'.cell? ⟨g, 0, none⟩ = some (.bool xs) ∧ w'.cell? ⟨g, 1, none⟩ = some (.slice xa xn xc) ∧ w'.cell? ⟨g, 2, none⟩ = some (.bool ys) ∧ w'.cell? ⟨g, 3, none⟩ = some (.slice ya yn yc)) ∧ (w'.cell? ⟨h, 0, none⟩ = some (.bool us) ∧ w'.cell? ⟨h, 1, none⟩ = some (.slice ua un uc) ∧ w'.cell? ⟨h, 2, none⟩ = some (.bool vs) ∧ w'.cell? ⟨h, 3, none⟩ = some (.slice va vn vc)))) (by kernel_rfl) (by (try dsimp only); exact SO _ (by with_reducible repeat (first | exact IsGr.refl _ | refine IsGr.gr ?_ _ _ | refine IsGr.alloc ?_ _ | refine IsGr.drew ?_ | refine IsGr.drewN ?_ _))) (fun hHeld => ?_)
        refine wpAnyH_take (i := 0) (oi := { dst := some 33, op := Op.fieldAddr 43 (Operand.tmp 9) 0, type := 0, pos := "law.go:96", after := #[], guard := none }) (v := ?_) rfl (by kernel_rfl) (by kernel_rfl) (by kernel_rfl) (fun _ _ _ h => h) (Or.inl ⟨by rfl, ?_⟩) (by assumption) ?_
        rotate_left
        · (intro w hSw; (try dsimp only at hSw); go_simp <;> with_reducible rfl)
        (try simp only [Act.put, List.setIfInBounds_toArray, List.set_cons_zero, List.set_cons_succ])
        refine wpAnyH_take (i := 1) (oi := { dst := some 34, op := Op.load 31 (Operand.tmp 33), type := 31, pos := "law.go:96", after := #[{ on := 0, ground := Ground.data }], guard := none }) (v := ?_) rfl (by kernel_rfl) (by kernel_rfl) (by kernel_rfl) (fun _ _ _ h => h) (Or.inl ⟨by rfl, ?_⟩) (by assumption) ?_
        rotate_left
        · (intro w hSw; (try dsimp only at hSw); go_simp <;> with_reducible rfl)
        (try simp only [Act.put, List.setIfInBounds_toArray, List.set_cons_zero, List.set_cons_succ])
        refine wpAnyH_take (i := 2) (oi := { dst := some 35, op := Op.fieldAddr 43 (Operand.tmp 10) 1, type := 0, pos := "law.go:96", after := #[], guard := none }) (v := ?_) rfl (by kernel_rfl) (by kernel_rfl) (by kernel_rfl) (fun _ _ _ h => h) (Or.inl ⟨by rfl, ?_⟩) (by assumption) ?_
        rotate_left
        · (intro w hSw; (try dsimp only at hSw); go_simp <;> with_reducible rfl)
        (try simp only [Act.put, List.setIfInBounds_toArray, List.set_cons_zero, List.set_cons_succ])
        refine wpAnyH_take (i := 3) (oi := { dst := some 36, op := Op.load 31 (Operand.tmp 35), type := 31, pos := "law.go:96", after := #[{ on := 2, ground := Ground.data }], guard := none }) (v := ?_) rfl (by kernel_rfl) (by kernel_rfl) (by kernel_rfl) (fun _ _ _ h => h) (Or.inl ⟨by rfl, ?_⟩) (by assumption) ?_
        rotate_left
        · (intro w hSw; (try dsimp only at hSw); go_simp <;> with_reducible rfl)
        (try simp only [Act.put, List.setIfInBounds_toArray, List.set_cons_zero, List.set_cons_succ])
        refine wpAnyH_take (i := 5) (oi := { dst := some 38, op := Op.fieldAddr 43 (Operand.tmp 10) 0, type := 0, pos := "law.go:96", after := #[], guard := none }) (v := ?_) rfl (by kernel_rfl) (by kernel_rfl) (by kernel_rfl) (fun _ _ _ h => h) (Or.inl ⟨by rfl, ?_⟩) (by assumption) ?_
        rotate_left
        · (intro w hSw; (try dsimp only at hSw); go_simp <;> with_reducible rfl)
        (try simp only [Act.put, List.setIfInBounds_toArray, List.set_cons_zero, List.set_cons_succ])
        refine wpAnyH_take (i := 6) (oi := { dst := some 39, op := Op.load 31 (Operand.tmp 38), type := 31, pos := "law.go:96", after := #[{ on := 5, ground := Ground.data }], guard := none }) (v := ?_) rfl (by kernel_rfl) (by kernel_rfl) (by kernel_rfl) (fun _ _ _ h => h) (Or.inl ⟨by rfl, ?_⟩) (by assumption) ?_
        rotate_left
        · (intro w hSw; (try dsimp only at hSw); go_simp <;> with_reducible rfl)
        (try simp only [Act.put, List.setIfInBounds_toArray, List.set_cons_zero, List.set_cons_succ])
        refine wpAnyH_take (i := 7) (oi := { dst := some 40, op := Op.fieldAddr 43 (Operand.tmp 9) 1, type := 0, pos := "law.go:96", after := #[], guard := none }) (v := ?_) rfl (by kernel_rfl) (by kernel_rfl) (by kernel_rfl) (fun _ _ _ h => h) (Or.inl ⟨by rfl, ?_⟩) (by assumption) ?_
        rotate_left
        · (intro w hSw; (try dsimp only at hSw); go_simp <;> with_reducible rfl)
        (try simp only [Act.put, List.setIfInBounds_toArray, List.set_cons_zero, List.set_cons_succ])
        refine wpAnyH_take (i := 8) (oi := { dst := some 41, op := Op.load 31 (Operand.tmp 40), type := 31, pos := "law.go:96", after := #[{ on := 7, ground := Ground.data }], guard := none }) (v := ?_) rfl (by kernel_rfl) (by kernel_rfl) (by kernel_rfl) (fun _ _ _ h => h) (Or.inl ⟨by rfl, ?_⟩) (by assumption) ?_
        rotate_left
        · (intro w hSw; (try dsimp only at hSw); go_simp <;> with_reducible rfl)
        (try simp only [Act.put, List.setIfInBounds_toArray, List.set_cons_zero, List.set_cons_succ])
        refine wpAnyH_take (i := 10) (oi := { dst := some 43, op := Op.fieldAddr 43 (Operand.tmp 9) 1, type := 0, pos := "law.go:96", after := #[], guard := none }) (v := ?_) rfl (by kernel_rfl) (by kernel_rfl) (by kernel_rfl) (fun _ _ _ h => h) (Or.inl ⟨by rfl, ?_⟩) (by assumption) ?_
        rotate_left
        · (intro w hSw; (try dsimp only at hSw); go_simp <;> with_reducible rfl)
        (try simp only [Act.put, List.setIfInBounds_toArray, List.set_cons_zero, List.set_cons_succ])
        refine wpAnyH_take (i := 11) (oi := { dst := some 44, op := Op.load 31 (Operand.tmp 43), type := 31, pos := "law.go:96", after := #[{ on := 10, ground := Ground.data }], guard := none }) (v := ?_) rfl (by kernel_rfl) (by kernel_rfl) (by kernel_rfl) (fun _ _ _ h => h) (Or.inl ⟨by rfl, ?_⟩) (by assumption) ?_
        rotate_left
        · (intro w hSw; (try dsimp only at hSw); go_simp <;> with_reducible rfl)
        (try simp only [Act.put, List.setIfInBounds_toArray, List.set_cons_zero, List.set_cons_succ])
        refine wpAnyH_take (i := 12) (oi := { dst := some 45, op := Op.fieldAddr 43 (Operand.tmp 10) 1, type := 0, pos := "law.go:96", after := #[], guard := none }) (v := ?_) rfl (by kernel_rfl) (by kernel_rfl) (by kernel_rfl) (fun _ _ _ h => h) (Or.inl ⟨by rfl, ?_⟩) (by assumption) ?_
        rotate_left
        · (intro w hSw; (try dsimp only at hSw); go_simp <;> with_reducible rfl)
        (try simp only [Act.put, List.setIfInBounds_toArray, List.set_cons_zero, List.set_cons_succ])
        refine wpAnyH_take (i := 13) (oi := { dst := some 46, op := Op.load 31 (Operand.tmp 45), type := 31, pos := "law.go:96", after := #[{ on := 12, ground := Ground.data }], guard := none }) (v := ?_) rfl (by kernel_rfl) (by kernel_rfl) (by kernel_rfl) (fun _ _ _ h => h) (Or.inl ⟨by rfl, ?_⟩) (by assumption) ?_
        rotate_left
        · (intro w hSw; (try dsimp only at hSw); go_simp <;> with_reducible rfl)
        (try simp only [Act.put, List.setIfInBounds_toArray, List.set_cons_zero, List.set_cons_succ])
        refine wpAnyH_take (i := 15) (oi := { dst := some 48, op := Op.fieldAddr 43 (Operand.tmp 9) 0, type := 0, pos := "law.go:96", after := #[], guard := none }) (v := ?_) rfl (by kernel_rfl) (by kernel_rfl) (by kernel_rfl) (fun _ _ _ h => h) (Or.inl ⟨by rfl, ?_⟩) (by assumption) ?_
        rotate_left
        · (intro w hSw; (try dsimp only at hSw); go_simp <;> with_reducible rfl)
        (try simp only [Act.put, List.setIfInBounds_toArray, List.set_cons_zero, List.set_cons_succ])
        refine wpAnyH_take (i := 16) (oi := { dst := some 49, op := Op.load 31 (Operand.tmp 48), type := 31, pos := "law.go:96", after := #[{ on := 15, ground := Ground.data }], guard := none }) (v := ?_) rfl (by kernel_rfl) (by kernel_rfl) (by kernel_rfl) (fun _ _ _ h => h) (Or.inl ⟨by rfl, ?_⟩) (by assumption) ?_
        rotate_left
        · (intro w hSw; (try dsimp only at hSw); go_simp <;> with_reducible rfl)
        (try simp only [Act.put, List.setIfInBounds_toArray, List.set_cons_zero, List.set_cons_succ])
        refine wpAnyH_take (i := 17) (oi := { dst := some 50, op := Op.fieldAddr 43 (Operand.tmp 10) 0, type := 0, pos := "law.go:96", after := #[], guard := none }) (v := ?_) rfl (by kernel_rfl) (by kernel_rfl) (by kernel_rfl) (fun _ _ _ h => h) (Or.inl ⟨by rfl, ?_⟩) (by assumption) ?_
        rotate_left
        · (intro w hSw; (try dsimp only at hSw); go_simp <;> with_reducible rfl)
        (try simp only [Act.put, List.setIfInBounds_toArray, List.set_cons_zero, List.set_cons_succ])
        refine wpAnyH_take (i := 18) (oi := { dst := some 51, op := Op.load 31 (Operand.tmp 50), type := 31, pos := "law.go:96", after := #[{ on := 17, ground := Ground.data }], guard := none }) (v := ?_) rfl (by kernel_rfl) (by kernel_rfl) (by kernel_rfl) (fun _ _ _ h => h) (Or.inl ⟨by rfl, ?_⟩) (by assumption) ?_
        rotate_left
        · (intro w hSw; (try dsimp only at hSw); go_simp <;> with_reducible rfl)
        (try simp only [Act.put, List.setIfInBounds_toArray, List.set_cons_zero, List.set_cons_succ])
        refine wpAnyH_invA [4, 9, 14, 19, 20, 21, 22, 23, 24, 25, 26, 27] (fun A D a w => ∃ t4 t9 t14 t19 t20 t21 t22 t23 : Value, a = ((((((((A.put (some 37) t4).put (some 42) t9).put (some 47) t14).put (some 52) t19).put (some 11) t20).put (some 12) t21).put (some 13) t22).put (some 14) t23) ∧ IsGr W2 w ∧ (D 4 → IsBig w t4 (n * c)) ∧ (D 9 → IsBig w t9 (q * d)) ∧ (D 14 → IsBig w t14 (d * c)) ∧ (D 19 → IsBig w t19 (n * q)) ∧ (D 20 → Bx W2 w 31 bigCells t20) ∧ (D 21 → Bx W2 w 31 bigCells t21) ∧ (D 22 → Bx W2 w 31 bigCells t22) ∧ (D 23 → Bx W2 w 31 bigCells t23) ∧ (D 20 → D 21 → t20 ≠ t21) ∧ (D 20 → D 22 → t20 ≠ t22) ∧ (D 20 → D 23 → t20 ≠ t23) ∧ (D 21 → D 22 → t21 ≠ t22) ∧ (D 21 → D 23 → t21 ≠ t23) ∧ (D 22 → D 23 → t22 ≠ t23) ∧ (D 24 → D 20 ∧ D 4 ∧ ∃ c0 c1 : Value, t4 = .agg #[c0, c1] ∧ Hx w 31 t20 c0 c1) ∧ (D 25 → D 21 ∧ D 9 ∧ ∃ c0 c1 : Value, t9 = .agg #[c0, c1] ∧ Hx w 31 t21 c0 c1) ∧ (D 26 → D 22 ∧ D 14 ∧ ∃ c0 c1 : Value, t14 = .agg #[c0, c1] ∧ Hx w 31 t22 c0 c1) ∧ (D 27 → D 23 ∧ D 19 ∧ ∃ c0 c1 : Value, t19 = .agg #[c0, c1] ∧ Hx w 31 t23 c0 c1)) (by kernel_rfl) (by assumption) ?_ ?_ ?_
        · exact ⟨_, _, _, _, _, _, _, _, by (simp only [Act.put, List.setIfInBounds_toArray, List.set_cons_zero, List.set_cons_succ]); try rfl, (by with_reducible repeat (first | exact IsGr.refl _ | refine IsGr.gr ?_ _ _ | refine IsGr.alloc ?_ _ | refine IsGr.drew ?_ | refine IsGr.drewN ?_ _)), fun h => h.elim, fun h => h.elim, fun h => h.elim, fun h => h.elim, fun h => h.elim, fun h => h.elim, fun h => h.elim, fun h => h.elim, fun h => h.elim, fun h => h.elim, fun h => h.elim, fun h => h.elim, fun h => h.elim, fun h => h.elim, fun h => h.elim, fun h => h.elim, fun h => h.elim, fun h => h.elim⟩
        · intro D a w hD hF hSw
          obtain ⟨t4, t9, t14, t19, t20, t21, t22, t23, ha, hg, f4, f9, f14, f19, b20, b21, b22, b23, p20_21, p20_22, p20_23, p21_22, p21_23, p22_23, h24, h25, h26, h27⟩ := hF
          subst ha
          (try simp only [Act.put, List.setIfInBounds_toArray, List.set_cons_zero, List.set_cons_succ])
          have hh24 := (h24 (hD 24 (by simp))).2.2
          have hh25 := (h25 (hD 25 (by simp))).2.2
          have hh26 := (h26 (hD 26 (by simp))).2.2
          have hh27 := (h27 (hD 27 (by simp))).2.2
          have A1 := BigAt.of hh24 (f4 (hD 4 (by simp)))
          have A2 := BigAt.of hh25 (f9 (hD 9 (by simp)))
          have A3 := BigAt.of hh26 (f14 (hD 14 (by simp)))
          have A4 := BigAt.of hh27 (f19 (hD 19 (by simp)))
          clear f4 f9 f14 f19 b20 b21 b22 b23 p20_21 p20_22 p20_23 p21_22 p21_23 p22_23 h24 h25 h26 h27 hh24 hh25 hh26 hh27 hD hSw
          go_wp2
          go_meet
          case rel => exact ⟨A1, A2, A3, A4, hg⟩
        refine StepI.cons (i := 4) (o := { dst := some 37, op := Op.call { callee := Callee.value (Operand.func 23), args := #[Operand.tmp 34, Operand.tmp 36], argTypes := #[31, 31] }, type := 31, pos := "law.go:96", after := #[{ on := 1, ground := Ground.data }, { on := 3, ground := Ground.data }], guard := none }) (ns := []) rfl (by kernel_rfl) (fun D a w nD hn hF hSw K hK => ?_) ?_
        · obtain ⟨t4, t9, t14, t19, t20, t21, t22, t23, ha, hg, f4, f9, f14, f19, b20, b21, b22, b23, p20_21, p20_22, p20_23, p21_22, p21_23, p22_23, h24, h25, h26, h27⟩ := hF
          subst ha
          (try simp only [Act.put, List.setIfInBounds_toArray, List.set_cons_zero, List.set_cons_succ])
          go_simp
          refine (M1 _ hg).mono ?_
          rintro e w1 ⟨z, rfl, hz, hg1⟩
          (try go_wp2_with fail)
          refine hK.out _ _ (SO _ (hg.trans hg1)) (fun _ => ?_)
          refine ⟨z, t9, t14, t19, t20, t21, t22, t23, by (simp only [Act.put, List.setIfInBounds_toArray, List.set_cons_zero, List.set_cons_succ]); try rfl, (hg.trans hg1), ?_, ?_, ?_, ?_, ?_, ?_, ?_, ?_, ?_, ?_, ?_, ?_, ?_, ?_, ?_, ?_, ?_, ?_⟩
          · exact fun _ => hz
          · exact fun h => (f9 (Or.resolve_left h (by decide))).gr hg1
          · exact fun h => (f14 (Or.resolve_left h (by decide))).gr hg1
          · exact fun h => (f19 (Or.resolve_left h (by decide))).gr hg1
          · exact fun h => (b20 (Or.resolve_left h (by decide))).gr hg1
          · exact fun h => (b21 (Or.resolve_left h (by decide))).gr hg1
          · exact fun h => (b22 (Or.resolve_left h (by decide))).gr hg1
          · exact fun h => (b23 (Or.resolve_left h (by decide))).gr hg1
          · exact fun h h' => p20_21 (Or.resolve_left h (by decide)) (Or.resolve_left h' (by decide))
          · exact fun h h' => p20_22 (Or.resolve_left h (by decide)) (Or.resolve_left h' (by decide))
          · exact fun h h' => p20_23 (Or.resolve_left h (by decide)) (Or.resolve_left h' (by decide))
          · exact fun h h' => p21_22 (Or.resolve_left h (by decide)) (Or.resolve_left h' (by decide))
          · exact fun h h' => p21_23 (Or.resolve_left h (by decide)) (Or.resolve_left h' (by decide))
          · exact fun h h' => p22_23 (Or.resolve_left h (by decide)) (Or.resolve_left h' (by decide))
          · exact fun h => absurd (h24 (Or.resolve_left h (by decide))).2.1 nD
          · exact fun h => (h25 (Or.resolve_left h (by decide))).imp Or.inr (fun ⟨x1, c0, c1, x2, x3⟩ => ⟨Or.inr x1, c0, c1, x2, x3.gr hg1⟩)
          · exact fun h => (h26 (Or.resolve_left h (by decide))).imp Or.inr (fun ⟨x1, c0, c1, x2, x3⟩ => ⟨Or.inr x1, c0, c1, x2, x3.gr hg1⟩)
          · exact fun h => (h27 (Or.resolve_left h (by decide))).imp Or.inr (fun ⟨x1, c0, c1, x2, x3⟩ => ⟨Or.inr x1, c0, c1, x2, x3.gr hg1⟩)
        refine StepI.cons (i := 9) (o := { dst := some 42, op := Op.call { callee := Callee.value (Operand.func 23), args := #[Operand.tmp 39, Operand.tmp 41], argTypes := #[31, 31] }, type := 31, pos := "law.go:96", after := #[{ on := 6, ground := Ground.data }, { on := 8, ground := Ground.data }, { on := 4, ground := Ground.chain }], guard := none }) (ns := [4]) rfl (by kernel_rfl) (fun D a w nD hn hF hSw K hK => ?_) ?_
        · obtain ⟨t4, t9, t14, t19, t20, t21, t22, t23, ha, hg, f4, f9, f14, f19, b20, b21, b22, b23, p20_21, p20_22, p20_23, p21_22, p21_23, p22_23, h24, h25, h26, h27⟩ := hF
          have d4 : D 4 := hn 4 (by simp)
          subst ha
          (try simp only [Act.put, List.setIfInBounds_toArray, List.set_cons_zero, List.set_cons_succ])
          go_simp
          refine (M2 _ hg).mono ?_
          rintro e w1 ⟨z, rfl, hz, hg1⟩
          (try go_wp2_with fail)
          refine hK.out _ _ (SO _ (hg.trans hg1)) (fun _ => ?_)
          refine ⟨t4, z, t14, t19, t20, t21, t22, t23, by (simp only [Act.put, List.setIfInBounds_toArray, List.set_cons_zero, List.set_cons_succ]); try rfl, (hg.trans hg1), ?_, ?_, ?_, ?_, ?_, ?_, ?_, ?_, ?_, ?_, ?_, ?_, ?_, ?_, ?_, ?_, ?_, ?_⟩
          · exact fun h => (f4 (Or.resolve_left h (by decide))).gr hg1
          · exact fun _ => hz
          · exact fun h => (f14 (Or.resolve_left h (by decide))).gr hg1
          · exact fun h => (f19 (Or.resolve_left h (by decide))).gr hg1
          · exact fun h => (b20 (Or.resolve_left h (by decide))).gr hg1
          · exact fun h => (b21 (Or.resolve_left h (by decide))).gr hg1
          · exact fun h => (b22 (Or.resolve_left h (by decide))).gr hg1
          · exact fun h => (b23 (Or.resolve_left h (by decide))).gr hg1
          · exact fun h h' => p20_21 (Or.resolve_left h (by decide)) (Or.resolve_left h' (by decide))
          · exact fun h h' => p20_22 (Or.resolve_left h (by decide)) (Or.resolve_left h' (by decide))
          · exact fun h h' => p20_23 (Or.resolve_left h (by decide)) (Or.resolve_left h' (by decide))
          · exact fun h h' => p21_22 (Or.resolve_left h (by decide)) (Or.resolve_left h' (by decide))
          · exact fun h h' => p21_23 (Or.resolve_left h (by decide)) (Or.resolve_left h' (by decide))
          · exact fun h h' => p22_23 (Or.resolve_left h (by decide)) (Or.resolve_left h' (by decide))
          · exact fun h => (h24 (Or.resolve_left h (by decide))).imp Or.inr (fun ⟨x1, c0, c1, x2, x3⟩ => ⟨Or.inr x1, c0, c1, x2, x3.gr hg1⟩)
          · exact fun h => absurd (h25 (Or.resolve_left h (by decide))).2.1 nD
          · exact fun h => (h26 (Or.resolve_left h (by decide))).imp Or.inr (fun ⟨x1, c0, c1, x2, x3⟩ => ⟨Or.inr x1, c0, c1, x2, x3.gr hg1⟩)
          · exact fun h => (h27 (Or.resolve_left h (by decide))).imp Or.inr (fun ⟨x1, c0, c1, x2, x3⟩ => ⟨Or.inr x1, c0, c1, x2, x3.gr hg1⟩)
        refine StepI.cons (i := 14) (o := { dst := some 47, op := Op.call { callee := Callee.value (Operand.func 23), args := #[Operand.tmp 44, Operand.tmp 46], argTypes := #[31, 31] }, type := 31, pos := "law.go:96", after := #[{ on := 11, ground := Ground.data }, { on := 13, ground := Ground.data }, { on := 9, ground := Ground.chain }], guard := none }) (ns := [9]) rfl (by kernel_rfl) (fun D a w nD hn hF hSw K hK => ?_) ?_
        · obtain ⟨t4, t9, t14, t19, t20, t21, t22, t23, ha, hg, f4, f9, f14, f19, b20, b21, b22, b23, p20_21, p20_22, p20_23, p21_22, p21_23, p22_23, h24, h25, h26, h27⟩ := hF
          have d9 : D 9 := hn 9 (by simp)
          subst ha
          (try simp only [Act.put, List.setIfInBounds_toArray, List.set_cons_zero, List.set_cons_succ])
          go_simp
          refine (M3 _ hg).mono ?_
          rintro e w1 ⟨z, rfl, hz, hg1⟩
          (try go_wp2_with fail)
          refine hK.out _ _ (SO _ (hg.trans hg1)) (fun _ => ?_)
          refine ⟨t4, t9, z, t19, t20, t21, t22, t23, by (simp only [Act.put, List.setIfInBounds_toArray, List.set_cons_zero, List.set_cons_succ]); try rfl, (hg.trans hg1), ?_, ?_, ?_, ?_, ?_, ?_, ?_, ?_, ?_, ?_, ?_, ?_, ?_, ?_, ?_, ?_, ?_, ?_⟩
          · exact fun h => (f4 (Or.resolve_left h (by decide))).gr hg1
          · exact fun h => (f9 (Or.resolve_left h (by decide))).gr hg1
          · exact fun _ => hz
          · exact fun h => (f19 (Or.resolve_left h (by decide))).gr hg1
          · exact fun h => (b20 (Or.resolve_left h (by decide))).gr hg1
          · exact fun h => (b21 (Or.resolve_left h (by decide))).gr hg1
          · exact fun h => (b22 (Or.resolve_left h (by decide))).gr hg1
          · exact fun h => (b23 (Or.resolve_left h (by decide))).gr hg1
          · exact fun h h' => p20_21 (Or.resolve_left h (by decide)) (Or.resolve_left h' (by decide))
          · exact fun h h' => p20_22 (Or.resolve_left h (by decide)) (Or.resolve_left h' (by decide))
          · exact fun h h' => p20_23 (Or.resolve_left h (by decide)) (Or.resolve_left h' (by decide))
          · exact fun h h' => p21_22 (Or.resolve_left h (by decide)) (Or.resolve_left h' (by decide))
          · exact fun h h' => p21_23 (Or.resolve_left h (by decide)) (Or.resolve_left h' (by decide))
          · exact fun h h' => p22_23 (Or.resolve_left h (by decide)) (Or.resolve_left h' (by decide))
          · exact fun h => (h24 (Or.resolve_left h (by decide))).imp Or.inr (fun ⟨x1, c0, c1, x2, x3⟩ => ⟨Or.inr x1, c0, c1, x2, x3.gr hg1⟩)
          · exact fun h => (h25 (Or.resolve_left h (by decide))).imp Or.inr (fun ⟨x1, c0, c1, x2, x3⟩ => ⟨Or.inr x1, c0, c1, x2, x3.gr hg1⟩)
          · exact fun h => absurd (h26 (Or.resolve_left h (by decide))).2.1 nD
          · exact fun h => (h27 (Or.resolve_left h (by decide))).imp Or.inr (fun ⟨x1, c0, c1, x2, x3⟩ => ⟨Or.inr x1, c0, c1, x2, x3.gr hg1⟩)
        refine StepI.cons (i := 19) (o := { dst := some 52, op := Op.call { callee := Callee.value (Operand.func 23), args := #[Operand.tmp 49, Operand.tmp 51], argTypes := #[31, 31] }, type := 31, pos := "law.go:96", after := #[{ on := 16, ground := Ground.data }, { on := 18, ground := Ground.data }, { on := 14, ground := Ground.chain }], guard := none }) (ns := [14]) rfl (by kernel_rfl) (fun D a w nD hn hF hSw K hK => ?_) ?_
        · obtain ⟨t4, t9, t14, t19, t20, t21, t22, t23, ha, hg, f4, f9, f14, f19, b20, b21, b22, b23, p20_21, p20_22, p20_23, p21_22, p21_23, p22_23, h24, h25, h26, h27⟩ := hF
          have d14 : D 14 := hn 14 (by simp)
          subst ha
          (try simp only [Act.put, List.setIfInBounds_toArray, List.set_cons_zero, List.set_cons_succ])
          go_simp
          refine (M4 _ hg).mono ?_
          rintro e w1 ⟨z, rfl, hz, hg1⟩
          (try go_wp2_with fail)
          refine hK.out _ _ (SO _ (hg.trans hg1)) (fun _ => ?_)
          refine ⟨t4, t9, t14, z, t20, t21, t22, t23, by (simp only [Act.put, List.setIfInBounds_toArray, List.set_cons_zero, List.set_cons_succ]); try rfl, (hg.trans hg1), ?_, ?_, ?_, ?_, ?_, ?_, ?_, ?_, ?_, ?_, ?_, ?_, ?_, ?_, ?_, ?_, ?_, ?_⟩
          · exact fun h => (f4 (Or.resolve_left h (by decide))).gr hg1
          · exact fun h => (f9 (Or.resolve_left h (by decide))).gr hg1
          · exact fun h => (f14 (Or.resolve_left h (by decide))).gr hg1
          · exact fun _ => hz
          · exact fun h => (b20 (Or.resolve_left h (by decide))).gr hg1
          · exact fun h => (b21 (Or.resolve_left h (by decide))).gr hg1
          · exact fun h => (b22 (Or.resolve_left h (by decide))).gr hg1
          · exact fun h => (b23 (Or.resolve_left h (by decide))).gr hg1
          · exact fun h h' => p20_21 (Or.resolve_left h (by decide)) (Or.resolve_left h' (by decide))
          · exact fun h h' => p20_22 (Or.resolve_left h (by decide)) (Or.resolve_left h' (by decide))
          · exact fun h h' => p20_23 (Or.resolve_left h (by decide)) (Or.resolve_left h' (by decide))
          · exact fun h h' => p21_22 (Or.resolve_left h (by decide)) (Or.resolve_left h' (by decide))
          · exact fun h h' => p21_23 (Or.resolve_left h (by decide)) (Or.resolve_left h' (by decide))
          · exact fun h h' => p22_23 (Or.resolve_left h (by decide)) (Or.resolve_left h' (by decide))
          · exact fun h => (h24 (Or.resolve_left h (by decide))).imp Or.inr (fun ⟨x1, c0, c1, x2, x3⟩ => ⟨Or.inr x1, c0, c1, x2, x3.gr hg1⟩)
          · exact fun h => (h25 (Or.resolve_left h (by decide))).imp Or.inr (fun ⟨x1, c0, c1, x2, x3⟩ => ⟨Or.inr x1, c0, c1, x2, x3.gr hg1⟩)
          · exact fun h => (h26 (Or.resolve_left h (by decide))).imp Or.inr (fun ⟨x1, c0, c1, x2, x3⟩ => ⟨Or.inr x1, c0, c1, x2, x3.gr hg1⟩)
          · exact fun h => absurd (h27 (Or.resolve_left h (by decide))).2.1 nD
        refine StepI.cons (i := 20) (o := { dst := some 11, op := Op.alloc 31, type := 0, pos := "law.go:96", after := #[], guard := none }) (ns := []) rfl (by kernel_rfl) (fun D a w nD hn hF hSw K hK => ?_) ?_
        · obtain ⟨t4, t9, t14, t19, t20, t21, t22, t23, ha, hg, f4, f9, f14, f19, b20, b21, b22, b23, p20_21, p20_22, p20_23, p21_22, p21_23, p22_23, h24, h25, h26, h27⟩ := hF
          subst ha
          (try simp only [Act.put, List.setIfInBounds_toArray, List.set_cons_zero, List.set_cons_succ])
          go_simp
          refine hK.out _ _ (SO _ (hg.alloc _)) (fun _ => ?_)
          refine ⟨t4, t9, t14, t19, _, t21, t22, t23, by (simp only [Act.put, List.setIfInBounds_toArray, List.set_cons_zero, List.set_cons_succ]); try rfl, (hg.alloc _), ?_, ?_, ?_, ?_, ?_, ?_, ?_, ?_, ?_, ?_, ?_, ?_, ?_, ?_, ?_, ?_, ?_, ?_⟩
          · exact fun h => (f4 (Or.resolve_left h (by decide))).gr ((IsGr.refl _).alloc _)
          · exact fun h => (f9 (Or.resolve_left h (by decide))).gr ((IsGr.refl _).alloc _)
          · exact fun h => (f14 (Or.resolve_left h (by decide))).gr ((IsGr.refl _).alloc _)
          · exact fun h => (f19 (Or.resolve_left h (by decide))).gr ((IsGr.refl _).alloc _)
          · exact fun _ => Bx.lay hg (by simp [bigCells])
          · exact fun h => (b21 (Or.resolve_left h (by decide))).gr ((IsGr.refl _).alloc _)
          · exact fun h => (b22 (Or.resolve_left h (by decide))).gr ((IsGr.refl _).alloc _)
          · exact fun h => (b23 (Or.resolve_left h (by decide))).gr ((IsGr.refl _).alloc _)
          · exact fun _ h' => Ne.symm (b21 (Or.resolve_left h' (by decide))).ne
          · exact fun _ h' => Ne.symm (b22 (Or.resolve_left h' (by decide))).ne
          · exact fun _ h' => Ne.symm (b23 (Or.resolve_left h' (by decide))).ne
          · exact fun h h' => p21_22 (Or.resolve_left h (by decide)) (Or.resolve_left h' (by decide))
          · exact fun h h' => p21_23 (Or.resolve_left h (by decide)) (Or.resolve_left h' (by decide))
          · exact fun h h' => p22_23 (Or.resolve_left h (by decide)) (Or.resolve_left h' (by decide))
          · exact fun h => absurd (h24 (Or.resolve_left h (by decide))).1 nD
          · exact fun h => (h25 (Or.resolve_left h (by decide))).imp Or.inr (fun ⟨x1, c0, c1, x2, x3⟩ => ⟨Or.inr x1, c0, c1, x2, x3.gr ((IsGr.refl _).alloc _)⟩)
          · exact fun h => (h26 (Or.resolve_left h (by decide))).imp Or.inr (fun ⟨x1, c0, c1, x2, x3⟩ => ⟨Or.inr x1, c0, c1, x2, x3.gr ((IsGr.refl _).alloc _)⟩)
          · exact fun h => (h27 (Or.resolve_left h (by decide))).imp Or.inr (fun ⟨x1, c0, c1, x2, x3⟩ => ⟨Or.inr x1, c0, c1, x2, x3.gr ((IsGr.refl _).alloc _)⟩)
        refine StepI.cons (i := 21) (o := { dst := some 12, op := Op.alloc 31, type := 0, pos := "law.go:96", after := #[], guard := none }) (ns := []) rfl (by kernel_rfl) (fun D a w nD hn hF hSw K hK => ?_) ?_
        · obtain ⟨t4, t9, t14, t19, t20, t21, t22, t23, ha, hg, f4, f9, f14, f19, b20, b21, b22, b23, p20_21, p20_22, p20_23, p21_22, p21_23, p22_23, h24, h25, h26, h27⟩ := hF
          subst ha
          (try simp only [Act.put, List.setIfInBounds_toArray, List.set_cons_zero, List.set_cons_succ])
          go_simp
          refine hK.out _ _ (SO _ (hg.alloc _)) (fun _ => ?_)
          refine ⟨t4, t9, t14, t19, t20, _, t22, t23, by (simp only [Act.put, List.setIfInBounds_toArray, List.set_cons_zero, List.set_cons_succ]); try rfl, (hg.alloc _), ?_, ?_, ?_, ?_, ?_, ?_, ?_, ?_, ?_, ?_, ?_, ?_, ?_, ?_, ?_, ?_, ?_, ?_⟩
          · exact fun h => (f4 (Or.resolve_left h (by decide))).gr ((IsGr.refl _).alloc _)
          · exact fun h => (f9 (Or.resolve_left h (by decide))).gr ((IsGr.refl _).alloc _)
          · exact fun h => (f14 (Or.resolve_left h (by decide))).gr ((IsGr.refl _).alloc _)
          · exact fun h => (f19 (Or.resolve_left h (by decide))).gr ((IsGr.refl _).alloc _)
          · exact fun h => (b20 (Or.resolve_left h (by decide))).gr ((IsGr.refl _).alloc _)
          · exact fun _ => Bx.lay hg (by simp [bigCells])
          · exact fun h => (b22 (Or.resolve_left h (by decide))).gr ((IsGr.refl _).alloc _)
          · exact fun h => (b23 (Or.resolve_left h (by decide))).gr ((IsGr.refl _).alloc _)
          · exact fun h _ => (b20 (Or.resolve_left h (by decide))).ne
          · exact fun h h' => p20_22 (Or.resolve_left h (by decide)) (Or.resolve_left h' (by decide))
          · exact fun h h' => p20_23 (Or.resolve_left h (by decide)) (Or.resolve_left h' (by decide))
          · exact fun _ h' => Ne.symm (b22 (Or.resolve_left h' (by decide))).ne
          · exact fun _ h' => Ne.symm (b23 (Or.resolve_left h' (by decide))).ne
          · exact fun h h' => p22_23 (Or.resolve_left h (by decide)) (Or.resolve_left h' (by decide))
          · exact fun h => (h24 (Or.resolve_left h (by decide))).imp Or.inr (fun ⟨x1, c0, c1, x2, x3⟩ => ⟨Or.inr x1, c0, c1, x2, x3.gr ((IsGr.refl _).alloc _)⟩)
          · exact fun h => absurd (h25 (Or.resolve_left h (by decide))).1 nD
          · exact fun h => (h26 (Or.resolve_left h (by decide))).imp Or.inr (fun ⟨x1, c0, c1, x2, x3⟩ => ⟨Or.inr x1, c0, c1, x2, x3.gr ((IsGr.refl _).alloc _)⟩)
          · exact fun h => (h27 (Or.resolve_left h (by decide))).imp Or.inr (fun ⟨x1, c0, c1, x2, x3⟩ => ⟨Or.inr x1, c0, c1, x2, x3.gr ((IsGr.refl _).alloc _)⟩)
        refine StepI.cons (i := 22) (o := { dst := some 13, op := Op.alloc 31, type := 0, pos := "law.go:96", after := #[], guard := none }) (ns := []) rfl (by kernel_rfl) (fun D a w nD hn hF hSw K hK => ?_) ?_
        · obtain ⟨t4, t9, t14, t19, t20, t21, t22, t23, ha, hg, f4, f9, f14, f19, b20, b21, b22, b23, p20_21, p20_22, p20_23, p21_22, p21_23, p22_23, h24, h25, h26, h27⟩ := hF
          subst ha
          (try simp only [Act.put, List.setIfInBounds_toArray, List.set_cons_zero, List.set_cons_succ])
          go_simp
          refine hK.out _ _ (SO _ (hg.alloc _)) (fun _ => ?_)
          refine ⟨t4, t9, t14, t19, t20, t21, _, t23, by (simp only [Act.put, List.setIfInBounds_toArray, List.set_cons_zero, List.set_cons_succ]); try rfl, (hg.alloc _), ?_, ?_, ?_, ?_, ?_, ?_, ?_, ?_, ?_, ?_, ?_, ?_, ?_, ?_, ?_, ?_, ?_, ?_⟩
          · exact fun h => (f4 (Or.resolve_left h (by decide))).gr ((IsGr.refl _).alloc _)
          · exact fun h => (f9 (Or.resolve_left h (by decide))).gr ((IsGr.refl _).alloc _)
          · exact fun h => (f14 (Or.resolve_left h (by decide))).gr ((IsGr.refl _).alloc _)
          · exact fun h => (f19 (Or.resolve_left h (by decide))).gr ((IsGr.refl _).alloc _)
          · exact fun h => (b20 (Or.resolve_left h (by decide))).gr ((IsGr.refl _).alloc _)
          · exact fun h => (b21 (Or.resolve_left h (by decide))).gr ((IsGr.refl _).alloc _)
          · exact fun _ => Bx.lay hg (by simp [bigCells])
          · exact fun h => (b23 (Or.resolve_left h (by decide))).gr ((IsGr.refl _).alloc _)
          · exact fun h h' => p20_21 (Or.resolve_left h (by decide)) (Or.resolve_left h' (by decide))
          · exact fun h _ => (b20 (Or.resolve_left h (by decide))).ne
          · exact fun h h' => p20_23 (Or.resolve_left h (by decide)) (Or.resolve_left h' (by decide))
          · exact fun h _ => (b21 (Or.resolve_left h (by decide))).ne
          · exact fun h h' => p21_23 (Or.resolve_left h (by decide)) (Or.resolve_left h' (by decide))
          · exact fun _ h' => Ne.symm (b23 (Or.resolve_left h' (by decide))).ne
          · exact fun h => (h24 (Or.resolve_left h (by decide))).imp Or.inr (fun ⟨x1, c0, c1, x2, x3⟩ => ⟨Or.inr x1, c0, c1, x2, x3.gr ((IsGr.refl _).alloc _)⟩)
          · exact fun h => (h25 (Or.resolve_left h (by decide))).imp Or.inr (fun ⟨x1, c0, c1, x2, x3⟩ => ⟨Or.inr x1, c0, c1, x2, x3.gr ((IsGr.refl _).alloc _)⟩)
          · exact fun h => absurd (h26 (Or.resolve_left h (by decide))).1 nD
          · exact fun h => (h27 (Or.resolve_left h (by decide))).imp Or.inr (fun ⟨x1, c0, c1, x2, x3⟩ => ⟨Or.inr x1, c0, c1, x2, x3.gr ((IsGr.refl _).alloc _)⟩)
        refine StepI.cons (i := 23) (o := { dst := some 14, op := Op.alloc 31, type := 0, pos := "law.go:96", after := #[], guard := none }) (ns := []) rfl (by kernel_rfl) (fun D a w nD hn hF hSw K hK => ?_) ?_
        · obtain ⟨t4, t9, t14, t19, t20, t21, t22, t23, ha, hg, f4, f9, f14, f19, b20, b21, b22, b23, p20_21, p20_22, p20_23, p21_22, p21_23, p22_23, h24, h25, h26, h27⟩ := hF
          subst ha
          (try simp only [Act.put, List.setIfInBounds_toArray, List.set_cons_zero, List.set_cons_succ])
          go_simp
          refine hK.out _ _ (SO _ (hg.alloc _)) (fun _ => ?_)
          refine ⟨t4, t9, t14, t19, t20, t21, t22, _, by (simp only [Act.put, List.setIfInBounds_toArray, List.set_cons_zero, List.set_cons_succ]); try rfl, (hg.alloc _), ?_, ?_, ?_, ?_, ?_, ?_, ?_, ?_, ?_, ?_, ?_, ?_, ?_, ?_, ?_, ?_, ?_, ?_⟩
          · exact fun h => (f4 (Or.resolve_left h (by decide))).gr ((IsGr.refl _).alloc _)
          · exact fun h => (f9 (Or.resolve_left h (by decide))).gr ((IsGr.refl _).alloc _)
          · exact fun h => (f14 (Or.resolve_left h (by decide))).gr ((IsGr.refl _).alloc _)
          · exact fun h => (f19 (Or.resolve_left h (by decide))).gr ((IsGr.refl _).alloc _)
          · exact fun h => (b20 (Or.resolve_left h (by decide))).gr ((IsGr.refl _).alloc _)
          · exact fun h => (b21 (Or.resolve_left h (by decide))).gr ((IsGr.refl _).alloc _)
          · exact fun h => (b22 (Or.resolve_left h (by decide))).gr ((IsGr.refl _).alloc _)
          · exact fun _ => Bx.lay hg (by simp [bigCells])
          · exact fun h h' => p20_21 (Or.resolve_left h (by decide)) (Or.resolve_left h' (by decide))
          · exact fun h h' => p20_22 (Or.resolve_left h (by decide)) (Or.resolve_left h' (by decide))
          · exact fun h _ => (b20 (Or.resolve_left h (by decide))).ne
          · exact fun h h' => p21_22 (Or.resolve_left h (by decide)) (Or.resolve_left h' (by decide))
          · exact fun h _ => (b21 (Or.resolve_left h (by decide))).ne
          · exact fun h _ => (b22 (Or.resolve_left h (by decide))).ne
          · exact fun h => (h24 (Or.resolve_left h (by decide))).imp Or.inr (fun ⟨x1, c0, c1, x2, x3⟩ => ⟨Or.inr x1, c0, c1, x2, x3.gr ((IsGr.refl _).alloc _)⟩)
          · exact fun h => (h25 (Or.resolve_left h (by decide))).imp Or.inr (fun ⟨x1, c0, c1, x2, x3⟩ => ⟨Or.inr x1, c0, c1, x2, x3.gr ((IsGr.refl _).alloc _)⟩)
          · exact fun h => (h26 (Or.resolve_left h (by decide))).imp Or.inr (fun ⟨x1, c0, c1, x2, x3⟩ => ⟨Or.inr x1, c0, c1, x2, x3.gr ((IsGr.refl _).alloc _)⟩)
          · exact fun h => absurd (h27 (Or.resolve_left h (by decide))).1 nD
        refine StepI.cons (i := 24) (o := { dst := none, op := Op.store 31 (Operand.tmp 11) (Operand.tmp 37), type := 0, pos := "law.go:96", after := #[{ on := 20, ground := Ground.data }, { on := 4, ground := Ground.data }, { on := 19, ground := Ground.chain }, { on := 0, ground := Ground.phase }, { on := 1, ground := Ground.phase }, { on := 2, ground := Ground.phase }, { on := 3, ground := Ground.phase }, { on := 4, ground := Ground.phase }, { on := 5, ground := Ground.textOnly Departure.lateStores }, { on := 6, ground := Ground.textOnly Departure.lateStores }, { on := 7, ground := Ground.textOnly Departure.lateStores }, { on := 8, ground := Ground.textOnly Departure.lateStores }, { on := 9, ground := Ground.textOnly Departure.lateStoresUnsure }, { on := 10, ground := Ground.textOnly Departure.lateStores }, { on := 11, ground := Ground.textOnly Departure.lateStores }, { on := 12, ground := Ground.textOnly Departure.lateStores }, { on := 13, ground := Ground.textOnly Departure.lateStores }, { on := 14, ground := Ground.textOnly Departure.lateStoresUnsure }, { on := 15, ground := Ground.textOnly Departure.lateStores }, { on := 16, ground := Ground.textOnly Departure.lateStores }, { on := 17, ground := Ground.textOnly Departure.lateStores }, { on := 18, ground := Ground.textOnly Departure.lateStores }, { on := 19, ground := Ground.textOnly Departure.lateStoresUnsure }, { on := 20, ground := Ground.phase }, { on := 21, ground := Ground.phase }, { on := 22, ground := Ground.phase }, { on := 23, ground := Ground.phase }], guard := none }) (ns := [20, 4, 19, 4, 20, 21, 22, 23]) rfl (by kernel_rfl) (fun D a w nD hn hF hSw K hK => ?_) ?_
        · obtain ⟨t4, t9, t14, t19, t20, t21, t22, t23, ha, hg, f4, f9, f14, f19, b20, b21, b22, b23, p20_21, p20_22, p20_23, p21_22, p21_23, p22_23, h24, h25, h26, h27⟩ := hF
          have d20 : D 20 := hn 20 (by simp)
          have d4 : D 4 := hn 4 (by simp)
          have d19 : D 19 := hn 19 (by simp)
          have d4 : D 4 := hn 4 (by simp)
          have d20 : D 20 := hn 20 (by simp)
          have d21 : D 21 := hn 21 (by simp)
          have d22 : D 22 := hn 22 (by simp)
          have d23 : D 23 := hn 23 (by simp)
          obtain ⟨z0, z1, hz0⟩ : ∃ z0 z1 : Value, t4 = .agg #[z0, z1] ∧ bigCells z0 z1 := big_cells (f4 d4)
          obtain ⟨hz0, hz1⟩ := hz0
          obtain ⟨bb, y0, y1, hb0, hb1, hb2, hb3⟩ := b20 d20
          obtain ⟨k1, k2, k3, k4, k5⟩ := block_cells hb2
          have hz2 := hz1
          obtain ⟨zs, za, zn, zc, rfl, rfl⟩ := hz1
          subst hz0
          subst hb0
          subst ha
          (try simp only [Act.put, List.setIfInBounds_toArray, List.set_cons_zero, List.set_cons_succ])
          go_simp
          refine hK.out _ _ (SO _ (put2_gr hg hb1)) (fun _ => ?_)
          refine ⟨(.agg #[.bool zs, .slice za zn zc]), t9, t14, t19, (.pointer (some ⟨bb, 0, none⟩)), t21, t22, t23, by (simp only [Act.put, List.setIfInBounds_toArray, List.set_cons_zero, List.set_cons_succ]); try rfl, (put2_gr hg hb1), ?_, ?_, ?_, ?_, ?_, ?_, ?_, ?_, ?_, ?_, ?_, ?_, ?_, ?_, ?_, ?_, ?_, ?_⟩
          · exact fun h => (f4 (Or.resolve_left h (by decide))).kb (put2_kb hb2 hb3)
          · exact fun h => (f9 (Or.resolve_left h (by decide))).kb (put2_kb hb2 hb3)
          · exact fun h => (f14 (Or.resolve_left h (by decide))).kb (put2_kb hb2 hb3)
          · exact fun h => (f19 (Or.resolve_left h (by decide))).kb (put2_kb hb2 hb3)
          · exact fun h => put2_bx hb2 hz2 (b20 (Or.resolve_left h (by decide)))
          · exact fun h => put2_bx hb2 hz2 (b21 (Or.resolve_left h (by decide)))
          · exact fun h => put2_bx hb2 hz2 (b22 (Or.resolve_left h (by decide)))
          · exact fun h => put2_bx hb2 hz2 (b23 (Or.resolve_left h (by decide)))
          · exact fun h h' => p20_21 (Or.resolve_left h (by decide)) (Or.resolve_left h' (by decide))
          · exact fun h h' => p20_22 (Or.resolve_left h (by decide)) (Or.resolve_left h' (by decide))
          · exact fun h h' => p20_23 (Or.resolve_left h (by decide)) (Or.resolve_left h' (by decide))
          · exact fun h h' => p21_22 (Or.resolve_left h (by decide)) (Or.resolve_left h' (by decide))
          · exact fun h h' => p21_23 (Or.resolve_left h (by decide)) (Or.resolve_left h' (by decide))
          · exact fun h h' => p22_23 (Or.resolve_left h (by decide)) (Or.resolve_left h' (by decide))
          · exact fun _ => ⟨Or.inr d20, Or.inr d4, _, _, rfl, put2_new hb2⟩
          · exact fun h => (fun ⟨x0, x1, c0, c1, x2, x3⟩ => ⟨Or.inr x0, Or.inr x1, c0, c1, x2, put2_hx hb2 x3 (Ne.symm (p20_21 d20 x0))⟩) (h25 (Or.resolve_left h (by decide)))
          · exact fun h => (fun ⟨x0, x1, c0, c1, x2, x3⟩ => ⟨Or.inr x0, Or.inr x1, c0, c1, x2, put2_hx hb2 x3 (Ne.symm (p20_22 d20 x0))⟩) (h26 (Or.resolve_left h (by decide)))
          · exact fun h => (fun ⟨x0, x1, c0, c1, x2, x3⟩ => ⟨Or.inr x0, Or.inr x1, c0, c1, x2, put2_hx hb2 x3 (Ne.symm (p20_23 d20 x0))⟩) (h27 (Or.resolve_left h (by decide)))
        refine StepI.cons (i := 25) (o := { dst := none, op := Op.store 31 (Operand.tmp 12) (Operand.tmp 42), type := 0, pos := "law.go:96", after := #[{ on := 21, ground := Ground.data }, { on := 9, ground := Ground.data }, { on := 24, ground := Ground.chain }, { on := 0, ground := Ground.phase }, { on := 1, ground := Ground.phase }, { on := 2, ground := Ground.phase }, { on := 3, ground := Ground.phase }, { on := 4, ground := Ground.phase }, { on := 5, ground := Ground.phase }, { on := 6, ground := Ground.phase }, { on := 7, ground := Ground.phase }, { on := 8, ground := Ground.phase }, { on := 9, ground := Ground.phase }, { on := 10, ground := Ground.textOnly Departure.lateStores }, { on := 11, ground := Ground.textOnly Departure.lateStores }, { on := 12, ground := Ground.textOnly Departure.lateStores }, { on := 13, ground := Ground.textOnly Departure.lateStores }, { on := 14, ground := Ground.textOnly Departure.lateStoresUnsure }, { on := 15, ground := Ground.textOnly Departure.lateStores }, { on := 16, ground := Ground.textOnly Departure.lateStores }, { on := 17, ground := Ground.textOnly Departure.lateStores }, { on := 18, ground := Ground.textOnly Departure.lateStores }, { on := 19, ground := Ground.textOnly Departure.lateStoresUnsure }, { on := 20, ground := Ground.phase }, { on := 21, ground := Ground.phase }, { on := 22, ground := Ground.phase }, { on := 23, ground := Ground.phase }, { on := 24, ground := Ground.phase }], guard := none }) (ns := [21, 9, 24, 4, 9, 20, 21, 22, 23, 24]) rfl (by kernel_rfl) (fun D a w nD hn hF hSw K hK => ?_) ?_
        · obtain ⟨t4, t9, t14, t19, t20, t21, t22, t23, ha, hg, f4, f9, f14, f19, b20, b21, b22, b23, p20_21, p20_22, p20_23, p21_22, p21_23, p22_23, h24, h25, h26, h27⟩ := hF
          have d21 : D 21 := hn 21 (by simp)
          have d9 : D 9 := hn 9 (by simp)
          have d24 : D 24 := hn 24 (by simp)
          have d4 : D 4 := hn 4 (by simp)
          have d9 : D 9 := hn 9 (by simp)
          have d20 : D 20 := hn 20 (by simp)
          have d21 : D 21 := hn 21 (by simp)
          have d22 : D 22 := hn 22 (by simp)
          have d23 : D 23 := hn 23 (by simp)
          have d24 : D 24 := hn 24 (by simp)
          obtain ⟨z0, z1, hz0⟩ : ∃ z0 z1 : Value, t9 = .agg #[z0, z1] ∧ bigCells z0 z1 := big_cells (f9 d9)
          obtain ⟨hz0, hz1⟩ := hz0
          obtain ⟨bb, y0, y1, hb0, hb1, hb2, hb3⟩ := b21 d21
          obtain ⟨k1, k2, k3, k4, k5⟩ := block_cells hb2
          have hz2 := hz1
          obtain ⟨zs, za, zn, zc, rfl, rfl⟩ := hz1
          subst hz0
          subst hb0
          subst ha
          (try simp only [Act.put, List.setIfInBounds_toArray, List.set_cons_zero, List.set_cons_succ])
          go_simp
          refine hK.out _ _ (SO _ (put2_gr hg hb1)) (fun _ => ?_)
          refine ⟨t4, (.agg #[.bool zs, .slice za zn zc]), t14, t19, t20, (.pointer (some ⟨bb, 0, none⟩)), t22, t23, by (simp only [Act.put, List.setIfInBounds_toArray, List.set_cons_zero, List.set_cons_succ]); try rfl, (put2_gr hg hb1), ?_, ?_, ?_, ?_, ?_, ?_, ?_, ?_, ?_, ?_, ?_, ?_, ?_, ?_, ?_, ?_, ?_, ?_⟩
          · exact fun h => (f4 (Or.resolve_left h (by decide))).kb (put2_kb hb2 hb3)
          · exact fun h => (f9 (Or.resolve_left h (by decide))).kb (put2_kb hb2 hb3)
          · exact fun h => (f14 (Or.resolve_left h (by decide))).kb (put2_kb hb2 hb3)
          · exact fun h => (f19 (Or.resolve_left h (by decide))).kb (put2_kb hb2 hb3)
          · exact fun h => put2_bx hb2 hz2 (b20 (Or.resolve_left h (by decide)))
          · exact fun h => put2_bx hb2 hz2 (b21 (Or.resolve_left h (by decide)))
          · exact fun h => put2_bx hb2 hz2 (b22 (Or.resolve_left h (by decide)))
          · exact fun h => put2_bx hb2 hz2 (b23 (Or.resolve_left h (by decide)))
          · exact fun h h' => p20_21 (Or.resolve_left h (by decide)) (Or.resolve_left h' (by decide))
          · exact fun h h' => p20_22 (Or.resolve_left h (by decide)) (Or.resolve_left h' (by decide))
          · exact fun h h' => p20_23 (Or.resolve_left h (by decide)) (Or.resolve_left h' (by decide))
          · exact fun h h' => p21_22 (Or.resolve_left h (by decide)) (Or.resolve_left h' (by decide))
          · exact fun h h' => p21_23 (Or.resolve_left h (by decide)) (Or.resolve_left h' (by decide))
          · exact fun h h' => p22_23 (Or.resolve_left h (by decide)) (Or.resolve_left h' (by decide))
          · exact fun h => (fun ⟨x0, x1, c0, c1, x2, x3⟩ => ⟨Or.inr x0, Or.inr x1, c0, c1, x2, put2_hx hb2 x3 (p20_21 x0 d21)⟩) (h24 (Or.resolve_left h (by decide)))
          · exact fun _ => ⟨Or.inr d21, Or.inr d9, _, _, rfl, put2_new hb2⟩
          · exact fun h => (fun ⟨x0, x1, c0, c1, x2, x3⟩ => ⟨Or.inr x0, Or.inr x1, c0, c1, x2, put2_hx hb2 x3 (Ne.symm (p21_22 d21 x0))⟩) (h26 (Or.resolve_left h (by decide)))
          · exact fun h => (fun ⟨x0, x1, c0, c1, x2, x3⟩ => ⟨Or.inr x0, Or.inr x1, c0, c1, x2, put2_hx hb2 x3 (Ne.symm (p21_23 d21 x0))⟩) (h27 (Or.resolve_left h (by decide)))
        refine StepI.cons (i := 26) (o := { dst := none, op := Op.store 31 (Operand.tmp 13) (Operand.tmp 47), type := 0, pos := "law.go:96", after := #[{ on := 22, ground := Ground.data }, { on := 14, ground := Ground.data }, { on := 25, ground := Ground.chain }, { on := 0, ground := Ground.phase }, { on := 1, ground := Ground.phase }, { on := 2, ground := Ground.phase }, { on := 3, ground := Ground.phase }, { on := 4, ground := Ground.phase }, { on := 5, ground := Ground.phase }, { on := 6, ground := Ground.phase }, { on := 7, ground := Ground.phase }, { on := 8, ground := Ground.phase }, { on := 9, ground := Ground.phase }, { on := 10, ground := Ground.phase }, { on := 11, ground := Ground.phase }, { on := 12, ground := Ground.phase }, { on := 13, ground := Ground.phase }, { on := 14, ground := Ground.phase }, { on := 15, ground := Ground.textOnly Departure.lateStores }, { on := 16, ground := Ground.textOnly Departure.lateStores }, { on := 17, ground := Ground.textOnly Departure.lateStores }, { on := 18, ground := Ground.textOnly Departure.lateStores }, { on := 19, ground := Ground.textOnly Departure.lateStoresUnsure }, { on := 20, ground := Ground.phase }, { on := 21, ground := Ground.phase }, { on := 22, ground := Ground.phase }, { on := 23, ground := Ground.phase }, { on := 24, ground := Ground.phase }, { on := 25, ground := Ground.phase }], guard := none }) (ns := [22, 14, 25, 4, 9, 14, 20, 21, 22, 23, 24, 25]) rfl (by kernel_rfl) (fun D a w nD hn hF hSw K hK => ?_) ?_
        · obtain ⟨t4, t9, t14, t19, t20, t21, t22, t23, ha, hg, f4, f9, f14, f19, b20, b21, b22, b23, p20_21, p20_22, p20_23, p21_22, p21_23, p22_23, h24, h25, h26, h27⟩ := hF
          have d22 : D 22 := hn 22 (by simp)
          have d14 : D 14 := hn 14 (by simp)
          have d25 : D 25 := hn 25 (by simp)
          have d4 : D 4 := hn 4 (by simp)
          have d9 : D 9 := hn 9 (by simp)
          have d14 : D 14 := hn 14 (by simp)
          have d20 : D 20 := hn 20 (by simp)
          have d21 : D 21 := hn 21 (by simp)
          have d22 : D 22 := hn 22 (by simp)
          have d23 : D 23 := hn 23 (by simp)
          have d24 : D 24 := hn 24 (by simp)
          have d25 : D 25 := hn 25 (by simp)
          obtain ⟨z0, z1, hz0⟩ : ∃ z0 z1 : Value, t14 = .agg #[z0, z1] ∧ bigCells z0 z1 := big_cells (f14 d14)
          obtain ⟨hz0, hz1⟩ := hz0
          obtain ⟨bb, y0, y1, hb0, hb1, hb2, hb3⟩ := b22 d22
          obtain ⟨k1, k2, k3, k4, k5⟩ := block_cells hb2
          have hz2 := hz1
          obtain ⟨zs, za, zn, zc, rfl, rfl⟩ := hz1
          subst hz0
          subst hb0
          subst ha
          (try simp only [Act.put, List.setIfInBounds_toArray, List.set_cons_zero, List.set_cons_succ])
          go_simp
          refine hK.out _ _ (SO _ (put2_gr hg hb1)) (fun _ => ?_)
          refine ⟨t4, t9, (.agg #[.bool zs, .slice za zn zc]), t19, t20, t21, (.pointer (some ⟨bb, 0, none⟩)), t23, by (simp only [Act.put, List.setIfInBounds_toArray, List.set_cons_zero, List.set_cons_succ]); try rfl, (put2_gr hg hb1), ?_, ?_, ?_, ?_, ?_, ?_, ?_, ?_, ?_, ?_, ?_, ?_, ?_, ?_, ?_, ?_, ?_, ?_⟩
          · exact fun h => (f4 (Or.resolve_left h (by decide))).kb (put2_kb hb2 hb3)
          · exact fun h => (f9 (Or.resolve_left h (by decide))).kb (put2_kb hb2 hb3)
          · exact fun h => (f14 (Or.resolve_left h (by decide))).kb (put2_kb hb2 hb3)
          · exact fun h => (f19 (Or.resolve_left h (by decide))).kb (put2_kb hb2 hb3)
          · exact fun h => put2_bx hb2 hz2 (b20 (Or.resolve_left h (by decide)))
          · exact fun h => put2_bx hb2 hz2 (b21 (Or.resolve_left h (by decide)))
          · exact fun h => put2_bx hb2 hz2 (b22 (Or.resolve_left h (by decide)))
          · exact fun h => put2_bx hb2 hz2 (b23 (Or.resolve_left h (by decide)))
          · exact fun h h' => p20_21 (Or.resolve_left h (by decide)) (Or.resolve_left h' (by decide))
          · exact fun h h' => p20_22 (Or.resolve_left h (by decide)) (Or.resolve_left h' (by decide))
          · exact fun h h' => p20_23 (Or.resolve_left h (by decide)) (Or.resolve_left h' (by decide))
          · exact fun h h' => p21_22 (Or.resolve_left h (by decide)) (Or.resolve_left h' (by decide))
          · exact fun h h' => p21_23 (Or.resolve_left h (by decide)) (Or.resolve_left h' (by decide))
          · exact fun h h' => p22_23 (Or.resolve_left h (by decide)) (Or.resolve_left h' (by decide))
          · exact fun h => (fun ⟨x0, x1, c0, c1, x2, x3⟩ => ⟨Or.inr x0, Or.inr x1, c0, c1, x2, put2_hx hb2 x3 (p20_22 x0 d22)⟩) (h24 (Or.resolve_left h (by decide)))
          · exact fun h => (fun ⟨x0, x1, c0, c1, x2, x3⟩ => ⟨Or.inr x0, Or.inr x1, c0, c1, x2, put2_hx hb2 x3 (p21_22 x0 d22)⟩) (h25 (Or.resolve_left h (by decide)))
          · exact fun _ => ⟨Or.inr d22, Or.inr d14, _, _, rfl, put2_new hb2⟩
          · exact fun h => (fun ⟨x0, x1, c0, c1, x2, x3⟩ => ⟨Or.inr x0, Or.inr x1, c0, c1, x2, put2_hx hb2 x3 (Ne.symm (p22_23 d22 x0))⟩) (h27 (Or.resolve_left h (by decide)))
        refine StepI.cons (i := 27) (o := { dst := none, op := Op.store 31 (Operand.tmp 14) (Operand.tmp 52), type := 0, pos := "law.go:96", after := #[{ on := 23, ground := Ground.data }, { on := 19, ground := Ground.data }, { on := 26, ground := Ground.chain }, { on := 0, ground := Ground.phase }, { on := 1, ground := Ground.phase }, { on := 2, ground := Ground.phase }, { on := 3, ground := Ground.phase }, { on := 4, ground := Ground.phase }, { on := 5, ground := Ground.phase }, { on := 6, ground := Ground.phase }, { on := 7, ground := Ground.phase }, { on := 8, ground := Ground.phase }, { on := 9, ground := Ground.phase }, { on := 10, ground := Ground.phase }, { on := 11, ground := Ground.phase }, { on := 12, ground := Ground.phase }, { on := 13, ground := Ground.phase }, { on := 14, ground := Ground.phase }, { on := 15, ground := Ground.phase }, { on := 16, ground := Ground.phase }, { on := 17, ground := Ground.phase }, { on := 18, ground := Ground.phase }, { on := 19, ground := Ground.phase }, { on := 20, ground := Ground.phase }, { on := 21, ground := Ground.phase }, { on := 22, ground := Ground.phase }, { on := 23, ground := Ground.phase }, { on := 24, ground := Ground.phase }, { on := 25, ground := Ground.phase }, { on := 26, ground := Ground.phase }], guard := none }) (ns := [23, 19, 26, 4, 9, 14, 19, 20, 21, 22, 23, 24, 25, 26]) rfl (by kernel_rfl) (fun D a w nD hn hF hSw K hK => ?_) ?_
        · obtain ⟨t4, t9, t14, t19, t20, t21, t22, t23, ha, hg, f4, f9, f14, f19, b20, b21, b22, b23, p20_21, p20_22, p20_23, p21_22, p21_23, p22_23, h24, h25, h26, h27⟩ := hF
          have d23 : D 23 := hn 23 (by simp)
          have d19 : D 19 := hn 19 (by simp)
          have d26 : D 26 := hn 26 (by simp)
          have d4 : D 4 := hn 4 (by simp)
          have d9 : D 9 := hn 9 (by simp)
          have d14 : D 14 := hn 14 (by simp)
          have d19 : D 19 := hn 19 (by simp)
          have d20 : D 20 := hn 20 (by simp)
          have d21 : D 21 := hn 21 (by simp)
          have d22 : D 22 := hn 22 (by simp)
          have d23 : D 23 := hn 23 (by simp)
          have d24 : D 24 := hn 24 (by simp)
          have d25 : D 25 := hn 25 (by simp)
          have d26 : D 26 := hn 26 (by simp)
          obtain ⟨z0, z1, hz0⟩ : ∃ z0 z1 : Value, t19 = .agg #[z0, z1] ∧ bigCells z0 z1 := big_cells (f19 d19)
          obtain ⟨hz0, hz1⟩ := hz0
          obtain ⟨bb, y0, y1, hb0, hb1, hb2, hb3⟩ := b23 d23
          obtain ⟨k1, k2, k3, k4, k5⟩ := block_cells hb2
          have hz2 := hz1
          obtain ⟨zs, za, zn, zc, rfl, rfl⟩ := hz1
          subst hz0
          subst hb0
          subst ha
          (try simp only [Act.put, List.setIfInBounds_toArray, List.set_cons_zero, List.set_cons_succ])
          go_simp
          refine hK.out _ _ (SO _ (put2_gr hg hb1)) (fun _ => ?_)
          refine ⟨t4, t9, t14, (.agg #[.bool zs, .slice za zn zc]), t20, t21, t22, (.pointer (some ⟨bb, 0, none⟩)), by (simp only [Act.put, List.setIfInBounds_toArray, List.set_cons_zero, List.set_cons_succ]); try rfl, (put2_gr hg hb1), ?_, ?_, ?_, ?_, ?_, ?_, ?_, ?_, ?_, ?_, ?_, ?_, ?_, ?_, ?_, ?_, ?_, ?_⟩
          · exact fun h => (f4 (Or.resolve_left h (by decide))).kb (put2_kb hb2 hb3)
          · exact fun h => (f9 (Or.resolve_left h (by decide))).kb (put2_kb hb2 hb3)
          · exact fun h => (f14 (Or.resolve_left h (by decide))).kb (put2_kb hb2 hb3)
          · exact fun h => (f19 (Or.resolve_left h (by decide))).kb (put2_kb hb2 hb3)
          · exact fun h => put2_bx hb2 hz2 (b20 (Or.resolve_left h (by decide)))
          · exact fun h => put2_bx hb2 hz2 (b21 (Or.resolve_left h (by decide)))
          · exact fun h => put2_bx hb2 hz2 (b22 (Or.resolve_left h (by decide)))
          · exact fun h => put2_bx hb2 hz2 (b23 (Or.resolve_left h (by decide)))
          · exact fun h h' => p20_21 (Or.resolve_left h (by decide)) (Or.resolve_left h' (by decide))
          · exact fun h h' => p20_22 (Or.resolve_left h (by decide)) (Or.resolve_left h' (by decide))
          · exact fun h h' => p20_23 (Or.resolve_left h (by decide)) (Or.resolve_left h' (by decide))
          · exact fun h h' => p21_22 (Or.resolve_left h (by decide)) (Or.resolve_left h' (by decide))
          · exact fun h h' => p21_23 (Or.resolve_left h (by decide)) (Or.resolve_left h' (by decide))
          · exact fun h h' => p22_23 (Or.resolve_left h (by decide)) (Or.resolve_left h' (by decide))
          · exact fun h => (fun ⟨x0, x1, c0, c1, x2, x3⟩ => ⟨Or.inr x0, Or.inr x1, c0, c1, x2, put2_hx hb2 x3 (p20_23 x0 d23)⟩) (h24 (Or.resolve_left h (by decide)))
          · exact fun h => (fun ⟨x0, x1, c0, c1, x2, x3⟩ => ⟨Or.inr x0, Or.inr x1, c0, c1, x2, put2_hx hb2 x3 (p21_23 x0 d23)⟩) (h25 (Or.resolve_left h (by decide)))
          · exact fun h => (fun ⟨x0, x1, c0, c1, x2, x3⟩ => ⟨Or.inr x0, Or.inr x1, c0, c1, x2, put2_hx hb2 x3 (p22_23 x0 d23)⟩) (h26 (Or.resolve_left h (by decide)))
          · exact fun _ => ⟨Or.inr d23, Or.inr d19, _, _, rfl, put2_new hb2⟩
        exact StepI.nil
      case rest =>
        obtain ⟨⟨gl, ls, la, ln, lc, rfl, kl, l1, l2, Bl⟩, ⟨gm, ms, ma, mn, mc, rfl, km, m1, m2, Bm⟩, ⟨gr, rs, ra, rn, rc, rfl, kr, r1, r2, Br⟩, ⟨gp, ps, pa, pn, pc, rfl, kp, p1, p2, Bp⟩, hgr⟩ := hcut
        obtain ⟨W3, hW9⟩ : ∃ W3, W3 = wc := ⟨_, rfl⟩
        subst hW9
        replace a0 := hgr.cell_eq ka a0
        replace a1 := hgr.cell_eq ka a1
        replace a2 := hgr.cell_eq ka a2
        replace a3 := hgr.cell_eq ka a3
        replace a4 := hgr.cell_eq ka a4
        replace a5 := hgr.cell_eq ka a5
        replace a6 := hgr.cell_eq ka a6
        replace a7 := hgr.cell_eq ka a7
        replace e0 := hgr.cell_eq kb e0
        replace e1 := hgr.cell_eq kb e1
        replace e2 := hgr.cell_eq kb e2
        replace e3 := hgr.cell_eq kb e3
        replace e4 := hgr.cell_eq kb e4
        replace e5 := hgr.cell_eq kb e5
        replace e6 := hgr.cell_eq kb e6
        replace e7 := hgr.cell_eq kb e7
        replace x0 := hgr.cell_eq kx x0
        replace x1 := hgr.cell_eq kx x1
        replace x2 := hgr.cell_eq kx x2
        replace x3 := hgr.cell_eq kx x3
        replace x4 := hgr.cell_eq kx x4
        replace x5 := hgr.cell_eq kx x5
        replace x6 := hgr.cell_eq kx x6
        replace x7 := hgr.cell_eq kx x7
        replace y0 := hgr.cell_eq ky y0
        replace y1 := hgr.cell_eq ky y1
        replace y2 := hgr.cell_eq ky y2
        replace y3 := hgr.cell_eq ky y3
        replace y4 := hgr.cell_eq ky y4
        replace y5 := hgr.cell_eq ky y5
        replace y6 := hgr.cell_eq ky y6
        replace y7 := hgr.cell_eq ky y7
        replace ka : w.heap.size < W3.heap.size := Nat.lt_of_lt_of_le ka hgr.size
        replace kb : w.heap.size + 1 < W3.heap.size := Nat.lt_of_lt_of_le kb hgr.size
        replace kx : g5 < W3.heap.size := Nat.lt_of_lt_of_le kx hgr.size
        replace ky : g7 < W3.heap.size := Nat.lt_of_lt_of_le ky hgr.size
        replace HG : Hid (IsGr w W3) := HG.out.trans hgr
        have AD := fun w1 (hg : IsGr W3 w1) => BigAdd_any _ _ (n * c) (q * d) w1 (Bl.gr hg) (Bm.gr hg) s1 s2
        clear hgr M1 M2 M3 M4 SO oo1 oo2 oo3 oo4 pp1 pp2 pp3 pp4 kg kh
        go_upto_region 5 with fail
        go_cut [15] (fun t15 wr => BigAt wr t15 (n * c + q * d) ∧ IsGr W3 wr)
        case first => as_aux_lemma =>
          go_wp2_with fail
          refine (AD _ ?_).mono ?_
          exact (by with_reducible repeat (first | exact IsGr.refl _ | refine IsGr.gr ?_ _ _ | refine IsGr.alloc ?_ _ | refine IsGr.drew ?_ | refine IsGr.drewN ?_ _))
          rintro e w1 ⟨z, rfl, hz, os4, k4, rfl⟩
          (try simp only [Gr.of_drew] at hz); (try simp only [Gr.gr] at hz); (try simp only [Array.append_assoc] at hz)
          obtain ⟨zs, za, zn, zc, rfl⟩ := hz.shape
          go_wp2
          go_meet
          case rel =>
            refine ⟨⟨_, zs, za, zn, zc, rfl, ?_, ?_, ?_, hz.kb ?_⟩, (by with_reducible repeat (first | exact IsGr.refl _ | refine IsGr.gr ?_ _ _ | refine IsGr.alloc ?_ _ | refine IsGr.drew ?_ | refine IsGr.drewN ?_ _))⟩
            · first | (simp [Gr.size]; done) | (simp [Gr.size]; omega) | (simp; done) | (simp; omega)
            · simp [go_sem]
            · simp [go_sem]
            · with_reducible repeat (first | exact Kb.refl _ | refine Kb.box4 ?_ (by first | (simp; done) | (simp [Gr.size]; done)) _ _ _ _ _ _ _ _ _ _ _ _ _ _ _ _ _ | refine Kb.lay ?_ _ | refine Kb.gr ?_ (by first | (simp; done) | (simp [Gr.size]; done)) _ _ _ | refine Kb.gr_app ?_ (by first | (simp; done) | (simp [Gr.size]; done)) _ _ _ _ | exact Kb.of_gr (IsGr.gapp2 _ _ _ _ _ _) | exact Kb.of_gr (IsGr.gapp3 _ _ _ _ _ _ _) | refine Kb.grow ?_ _ _ | refine Kb.drew_l ?_ | refine Kb.drew_r ?_)
        case rest =>
          obtain ⟨⟨gz, zs, za, zn, zc, rfl, kz, z1, z2, Bz⟩, hgr⟩ := hcut
          obtain ⟨W4, hW9⟩ : ∃ W4, W4 = wc := ⟨_, rfl⟩
          subst hW9
          replace a0 := hgr.cell_eq ka a0
          replace a1 := hgr.cell_eq ka a1
          replace a2 := hgr.cell_eq ka a2
          replace a3 := hgr.cell_eq ka a3
          replace a4 := hgr.cell_eq ka a4
          replace a5 := hgr.cell_eq ka a5
          replace a6 := hgr.cell_eq ka a6
          replace a7 := hgr.cell_eq ka a7
          replace e0 := hgr.cell_eq kb e0
          replace e1 := hgr.cell_eq kb e1
          replace e2 := hgr.cell_eq kb e2
          replace e3 := hgr.cell_eq kb e3
          replace e4 := hgr.cell_eq kb e4
          replace e5 := hgr.cell_eq kb e5
          replace e6 := hgr.cell_eq kb e6
          replace e7 := hgr.cell_eq kb e7
          replace x0 := hgr.cell_eq kx x0
          replace x1 := hgr.cell_eq kx x1
          replace x2 := hgr.cell_eq kx x2
          replace x3 := hgr.cell_eq kx x3
          replace x4 := hgr.cell_eq kx x4
          replace x5 := hgr.cell_eq kx x5
          replace x6 := hgr.cell_eq kx x6
          replace x7 := hgr.cell_eq kx x7
          replace y0 := hgr.cell_eq ky y0
          replace y1 := hgr.cell_eq ky y1
          replace y2 := hgr.cell_eq ky y2
          replace y3 := hgr.cell_eq ky y3
          replace y4 := hgr.cell_eq ky y4
          replace y5 := hgr.cell_eq ky y5
          replace y6 := hgr.cell_eq ky y6
          replace y7 := hgr.cell_eq ky y7
          replace ka : w.heap.size < W4.heap.size := Nat.lt_of_lt_of_le ka hgr.size
          replace kb : w.heap.size + 1 < W4.heap.size := Nat.lt_of_lt_of_le kb hgr.size
          replace kx : g5 < W4.heap.size := Nat.lt_of_lt_of_le kx hgr.size
          replace ky : g7 < W4.heap.size := Nat.lt_of_lt_of_le ky hgr.size
          replace l1 := hgr.cell_eq kl l1
          replace l2 := hgr.cell_eq kl l2
          replace kl : gl < W4.heap.size := Nat.lt_of_lt_of_le kl hgr.size
          replace Bl := Bl.gr hgr
          replace m1 := hgr.cell_eq km m1
          replace m2 := hgr.cell_eq km m2
          replace km : gm < W4.heap.size := Nat.lt_of_lt_of_le km hgr.size
          replace Bm := Bm.gr hgr
          replace r1 := hgr.cell_eq kr r1
          replace r2 := hgr.cell_eq kr r2
          replace kr : gr < W4.heap.size := Nat.lt_of_lt_of_le kr hgr.size
          replace Br := Br.gr hgr
          replace p1 := hgr.cell_eq kp p1
          replace p2 := hgr.cell_eq kp p2
          replace kp : gp < W4.heap.size := Nat.lt_of_lt_of_le kp hgr.size
          replace Bp := Bp.gr hgr
          replace HG : Hid (IsGr w W4) := HG.out.trans hgr
          clear hgr AD
          obtain ⟨B, hB⟩ : ∃ B, B = (decide (0 < d) && decide (0 < c)) := ⟨_, rfl⟩
          go_upto_region 6 with fail
          go_cut [16] (fun t16 wr => t16 = .bool B ∧ IsGr W4 wr)
          case first => as_aux_lemma =>
            by_cases h1 : 0 < d
            · rw [show decide (0 < d) = true by simp [h1]] at R2 hB
              by_cases h2 : 0 < c
              · rw [show decide (0 < c) = true by simp [h2]] at Q2 hB
                obtain rfl : B = true := hB
                go_wp2_with fail
                refine (R2 _).mono ?_
                rintro e w1 ⟨rfl, os5, k5, rfl⟩
                go_wp2_with fail
                refine (Q2 _).mono ?_
                rintro e w1 ⟨rfl, os6, k6, rfl⟩
                go_wp2
                go_meet
                case rel => exact ⟨by rfl, (by with_reducible repeat (first | exact IsGr.refl _ | refine IsGr.gr ?_ _ _ | refine IsGr.alloc ?_ _ | refine IsGr.drew ?_ | refine IsGr.drewN ?_ _))⟩
              · rw [show decide (0 < c) = false by simp; omega] at Q2 hB
                obtain rfl : B = false := hB
                go_wp2_with fail
                refine (R2 _).mono ?_
                rintro e w1 ⟨rfl, os5, k5, rfl⟩
                go_wp2_with fail
                refine (Q2 _).mono ?_
                rintro e w1 ⟨rfl, os6, k6, rfl⟩
                go_wp2
                go_meet
                case rel => exact ⟨by rfl, (by with_reducible repeat (first | exact IsGr.refl _ | refine IsGr.gr ?_ _ _ | refine IsGr.alloc ?_ _ | refine IsGr.drew ?_ | refine IsGr.drewN ?_ _))⟩
            · rw [show decide (0 < d) = false by simp; omega, Bool.false_and] at hB
              rw [show decide (0 < d) = false by simp; omega] at R2
              obtain rfl : B = false := hB
              go_wp2_with fail
              refine (R2 _).mono ?_
              rintro e w1 ⟨rfl, os5, k5, rfl⟩
              go_wp2
              go_meet
              case rel => exact ⟨by rfl, (by with_reducible repeat (first | exact IsGr.refl _ | refine IsGr.gr ?_ _ _ | refine IsGr.alloc ?_ _ | refine IsGr.drew ?_ | refine IsGr.drewN ?_ _))⟩
          case rest =>
            obtain ⟨rfl, hgr⟩ := hcut
            obtain ⟨W5, hW9⟩ : ∃ W5, W5 = wc := ⟨_, rfl⟩
            subst hW9
            replace x0 := hgr.cell_eq kx x0
            replace x1 := hgr.cell_eq kx x1
            replace x2 := hgr.cell_eq kx x2
            replace x3 := hgr.cell_eq kx x3
            replace x4 := hgr.cell_eq kx x4
            replace x5 := hgr.cell_eq kx x5
            replace x6 := hgr.cell_eq kx x6
            replace x7 := hgr.cell_eq kx x7
            replace y0 := hgr.cell_eq ky y0
            replace y1 := hgr.cell_eq ky y1
            replace y2 := hgr.cell_eq ky y2
            replace y3 := hgr.cell_eq ky y3
            replace y4 := hgr.cell_eq ky y4
            replace y5 := hgr.cell_eq ky y5
            replace y6 := hgr.cell_eq ky y6
            replace y7 := hgr.cell_eq ky y7
            replace kx : g5 < W5.heap.size := Nat.lt_of_lt_of_le kx hgr.size
            replace ky : g7 < W5.heap.size := Nat.lt_of_lt_of_le ky hgr.size
            replace l1 := hgr.cell_eq kl l1
            replace l2 := hgr.cell_eq kl l2
            replace kl : gl < W5.heap.size := Nat.lt_of_lt_of_le kl hgr.size
            replace Bl := Bl.gr hgr
            replace m1 := hgr.cell_eq km m1
            replace m2 := hgr.cell_eq km m2
            replace km : gm < W5.heap.size := Nat.lt_of_lt_of_le km hgr.size
            replace Bm := Bm.gr hgr
            replace r1 := hgr.cell_eq kr r1
            replace r2 := hgr.cell_eq kr r2
            replace kr : gr < W5.heap.size := Nat.lt_of_lt_of_le kr hgr.size
            replace Br := Br.gr hgr
            replace p1 := hgr.cell_eq kp p1
            replace p2 := hgr.cell_eq kp p2
            replace kp : gp < W5.heap.size := Nat.lt_of_lt_of_le kp hgr.size
            replace Bp := Bp.gr hgr
            replace z1 := hgr.cell_eq kz z1
            replace z2 := hgr.cell_eq kz z2
            replace kz : gz < W5.heap.size := Nat.lt_of_lt_of_le kz hgr.size
            replace Bz := Bz.gr hgr
            replace HG : Hid (IsGr w W5) := HG.out.trans hgr
            clear hgr R2 Q2
            obtain ⟨fl, hfl⟩ : ∃ x, x = fits (n * c) := ⟨_, rfl⟩
            obtain ⟨fm, hfm⟩ : ∃ x, x = fits (q * d) := ⟨_, rfl⟩
            obtain ⟨fz, hfz⟩ : ∃ x, x = fits (n * c + q * d) := ⟨_, rfl⟩
            obtain ⟨fr, hfr⟩ : ∃ x, x = fits (d * c) := ⟨_, rfl⟩
            obtain ⟨fp, hfp⟩ : ∃ x, x = fits (n * q) := ⟨_, rfl⟩
            have G1 := fun w1 (hg : IsGr W5 w1) => Fits_any _ (n * c) w1 (Bl.gr hg) s1
            have G2 := fun w1 (hg : IsGr W5 w1) => Fits_any _ (q * d) w1 (Bm.gr hg) s2
            have G5 := fun w1 (hg : IsGr W5 w1) => Fits_any _ (n * c + q * d) w1 (Bz.gr hg) s5
            have G3 := fun w1 (hg : IsGr W5 w1) => Fits_any _ (d * c) w1 (Br.gr hg) s3
            simp only [← hfl] at G1
            simp only [← hfm] at G2
            simp only [← hfz] at G5
            simp only [← hfr] at G3
            obtain ⟨okA, hokA⟩ : ∃ x, x = (B && fl && fm && fz && fr) := ⟨_, rfl⟩
            obtain ⟨okM, hokM⟩ : ∃ x, x = (B && fp && fr) := ⟨_, rfl⟩
            have hA : okA = true ↔ addOk n d q c := by
              rw [hokA, hB, hfl, hfm, hfz, hfr]
              simp only [fits, Bool.and_eq_true, decide_eq_true_eq, addOk, crossOk]
              omega
            have hM : okM = true ↔ mulOk n d q c := by
              rw [hokM, hB, hfp, hfr]
              simp only [fits, Bool.and_eq_true, decide_eq_true_eq, mulOk]
              omega
            go_upto_region 7 with fail
            go_cut [78] (fun t78 wr => t78 = .bool okA ∧ IsGr W5 wr)
            case first => as_aux_lemma =>
              subst hokA
              clear hA hM hB hfl hfm hfz hfr hfp hokM CA
              cases B
              · go_wp2
                go_meet
                case rel => exact ⟨by rfl, (by with_reducible repeat (first | exact IsGr.refl _ | refine IsGr.gr ?_ _ _ | refine IsGr.alloc ?_ _ | refine IsGr.drew ?_ | refine IsGr.drewN ?_ _))⟩
              · go_wp2_with fail
                refine (G1 _ ?_).mono ?_
                exact (by with_reducible repeat (first | exact IsGr.refl _ | refine IsGr.gr ?_ _ _ | refine IsGr.alloc ?_ _ | refine IsGr.drew ?_ | refine IsGr.drewN ?_ _))
                rintro e w1 ⟨rfl, os7, k7, rfl⟩
                cases fl
                · go_wp2
                  go_meet
                  case rel => exact ⟨by rfl, (by with_reducible repeat (first | exact IsGr.refl _ | refine IsGr.gr ?_ _ _ | refine IsGr.alloc ?_ _ | refine IsGr.drew ?_ | refine IsGr.drewN ?_ _))⟩
                · go_wp2_with fail
                  refine (G2 _ ?_).mono ?_
                  exact (by with_reducible repeat (first | exact IsGr.refl _ | refine IsGr.gr ?_ _ _ | refine IsGr.alloc ?_ _ | refine IsGr.drew ?_ | refine IsGr.drewN ?_ _))
                  rintro e w1 ⟨rfl, os8, k8, rfl⟩
                  cases fm
                  · go_wp2
                    go_meet
                    case rel => exact ⟨by rfl, (by with_reducible repeat (first | exact IsGr.refl _ | refine IsGr.gr ?_ _ _ | refine IsGr.alloc ?_ _ | refine IsGr.drew ?_ | refine IsGr.drewN ?_ _))⟩
                  · go_wp2_with fail
                    refine (G5 _ ?_).mono ?_
                    exact (by with_reducible repeat (first | exact IsGr.refl _ | refine IsGr.gr ?_ _ _ | refine IsGr.alloc ?_ _ | refine IsGr.drew ?_ | refine IsGr.drewN ?_ _))
                    rintro e w1 ⟨rfl, os9, k9, rfl⟩
                    cases fz
                    · go_wp2
                      go_meet
                      case rel => exact ⟨by rfl, (by with_reducible repeat (first | exact IsGr.refl _ | refine IsGr.gr ?_ _ _ | refine IsGr.alloc ?_ _ | refine IsGr.drew ?_ | refine IsGr.drewN ?_ _))⟩
                    · go_wp2_with fail
                      refine (G3 _ ?_).mono ?_
                      exact (by with_reducible repeat (first | exact IsGr.refl _ | refine IsGr.gr ?_ _ _ | refine IsGr.alloc ?_ _ | refine IsGr.drew ?_ | refine IsGr.drewN ?_ _))
                      rintro e w1 ⟨rfl, os10, k10, rfl⟩
                      cases fr
                      · go_wp2
                        go_meet
                        case rel => exact ⟨by rfl, (by with_reducible repeat (first | exact IsGr.refl _ | refine IsGr.gr ?_ _ _ | refine IsGr.alloc ?_ _ | refine IsGr.drew ?_ | refine IsGr.drewN ?_ _))⟩
                      · go_wp2
                        go_meet
                        case rel => exact ⟨by rfl, (by with_reducible repeat (first | exact IsGr.refl _ | refine IsGr.gr ?_ _ _ | refine IsGr.alloc ?_ _ | refine IsGr.drew ?_ | refine IsGr.drewN ?_ _))⟩
            case rest =>
              obtain ⟨rfl, hgr⟩ := hcut
              obtain ⟨W6, hW9⟩ : ∃ W6, W6 = wc := ⟨_, rfl⟩
              subst hW9
              replace x0 := hgr.cell_eq kx x0
              replace x1 := hgr.cell_eq kx x1
              replace x2 := hgr.cell_eq kx x2
              replace x3 := hgr.cell_eq kx x3
              replace x4 := hgr.cell_eq kx x4
              replace x5 := hgr.cell_eq kx x5
              replace x6 := hgr.cell_eq kx x6
              replace x7 := hgr.cell_eq kx x7
              replace y0 := hgr.cell_eq ky y0
              replace y1 := hgr.cell_eq ky y1
              replace y2 := hgr.cell_eq ky y2
              replace y3 := hgr.cell_eq ky y3
              replace y4 := hgr.cell_eq ky y4
              replace y5 := hgr.cell_eq ky y5
              replace y6 := hgr.cell_eq ky y6
              replace y7 := hgr.cell_eq ky y7
              replace kx : g5 < W6.heap.size := Nat.lt_of_lt_of_le kx hgr.size
              replace ky : g7 < W6.heap.size := Nat.lt_of_lt_of_le ky hgr.size
              replace l1 := hgr.cell_eq kl l1
              replace l2 := hgr.cell_eq kl l2
              replace kl : gl < W6.heap.size := Nat.lt_of_lt_of_le kl hgr.size
              replace Bl := Bl.gr hgr
              replace m1 := hgr.cell_eq km m1
              replace m2 := hgr.cell_eq km m2
              replace km : gm < W6.heap.size := Nat.lt_of_lt_of_le km hgr.size
              replace Bm := Bm.gr hgr
              replace r1 := hgr.cell_eq kr r1
              replace r2 := hgr.cell_eq kr r2
              replace kr : gr < W6.heap.size := Nat.lt_of_lt_of_le kr hgr.size
              replace Br := Br.gr hgr
              replace p1 := hgr.cell_eq kp p1
              replace p2 := hgr.cell_eq kp p2
              replace kp : gp < W6.heap.size := Nat.lt_of_lt_of_le kp hgr.size
              replace Bp := Bp.gr hgr
              replace z1 := hgr.cell_eq kz z1
              replace z2 := hgr.cell_eq kz z2
              replace kz : gz < W6.heap.size := Nat.lt_of_lt_of_le kz hgr.size
              replace Bz := Bz.gr hgr
              replace HG : Hid (IsGr w W6) := HG.out.trans hgr
              clear hgr G1 G2 G5 G3 hokA
              obtain rfl : okA = true := hA.2 HO.out
              obtain ⟨rfl, hu, hv⟩ : ok = true ∧ IsI i0 i1 i2 i3 (n * c + q * d) ∧ IsI j0 j1 j2 j3 (d * c) := by
                rcases hS with ⟨h0, _, h1, h2⟩ | ⟨_, k, _⟩
                · exact ⟨h0, h1, h2⟩
                · exact absurd HO.out k
              clear hS hA HO heR
              have RU := fun w => Read_any hu.1 hu.2.1 hu.2.2 w
              have RV := fun w => Read_any hv.1 hv.2.1 hv.2.2 w
              have E1 := fun w1 (hg : IsGr W6 w1) v (h : IsBig w1 v (n * c + q * d)) => BigSame_any v _ (n * c + q * d) w1 h (Bz.gr hg) s5
              have E2 := fun w1 (hg : IsGr W6 w1) v (h : IsBig w1 v (d * c)) => BigSame_any v _ (d * c) w1 h (Br.gr hg) s3
              clear hu hv
              go_upto_region 8 with fail
              go_cut [96] (fun t96 wr => t96 = .bool false ∧ IsGr W6 wr)
              case first => as_aux_lemma =>
                clear CA hM hB hfl hfm hfz hfr hfp hokM y0 y1 y2 y3 y4 y5 y6 y7 p1 p2 l1 l2 m1 m2
                refine wp_region_held_drew (S := (fun w' => (w'.cell? ⟨g5, 0, none⟩ = some (.int .u64 i0) ∧ w'.cell? ⟨g5, 1, none⟩ = some (.int .u64 i1) ∧ w'.cell? ⟨g5, 2, none⟩ = some (.int .u64 i2) ∧ w'.cell? ⟨g5, 3, none⟩ = some (.int .u64 i3) ∧ w'.cell? ⟨g5, 4, none⟩ = some (.int .u64 j0) ∧ w'.cell? ⟨g5, 5, none⟩ = some (.int .u64 j1) ∧ w'.cell? ⟨g5, 6, none⟩ = some (.int .u64 j2) ∧ w'.cell? ⟨g5, 7, none⟩ = some (.int .u64 j3)) ∧ (w'.cell? ⟨gz, 0, none⟩ = some (.bool zs) ∧ w'.cell? ⟨gz, 1, none⟩ = some (.slice za zn zc)) ∧ (w'.cell? ⟨gr, 0, none⟩ = some (.bool rs) ∧ w'.cell? ⟨gr, 1, none⟩ = some (.slice ra rn rc)))) (by kernel_rfl) (by (try dsimp only); simp [go_sem, x0, x1, x2, x3, x4, x5, x6, x7, z1, z2, r1, r2]) (fun hHeld => ?_)
                refine wpAnyH_take (i := 0) (oi := { dst := some 79, op := Op.move (Operand.tmp 6), type := 4, pos := "law.go:100", after := #[], guard := none }) (v := ?_) rfl (by kernel_rfl) (by kernel_rfl) (by kernel_rfl) (fun _ _ _ h => h) (Or.inl ⟨by rfl, ?_⟩) (by assumption) ?_
                rotate_left
                · (intro w hSw; (try dsimp only at hSw); go_simp <;> with_reducible rfl)
                (try simp only [Act.put, List.setIfInBounds_toArray, List.set_cons_zero, List.set_cons_succ])
                refine wpAnyH_take (i := 1) (oi := { dst := some 80, op := Op.unOp UnOp.not 4 (Operand.tmp 79), type := 4, pos := "law.go:100", after := #[{ on := 0, ground := Ground.data }], guard := none }) (v := ?_) rfl (by kernel_rfl) (by kernel_rfl) (by kernel_rfl) (fun _ _ _ h => h) (Or.inl ⟨by rfl, ?_⟩) (by assumption) ?_
                rotate_left
                · (intro w hSw; (try dsimp only at hSw); go_simp <;> with_reducible rfl)
                (try simp only [Act.put, List.setIfInBounds_toArray, List.set_cons_zero, List.set_cons_succ])
                refine wpAnyH_take (i := 2) (oi := { dst := some 81, op := Op.move (Operand.tmp 80), type := 4, pos := "law.go:100", after := #[{ on := 1, ground := Ground.data }], guard := none }) (v := ?_) rfl (by kernel_rfl) (by kernel_rfl) (by kernel_rfl) (fun _ _ _ h => h) (Or.inl ⟨by rfl, ?_⟩) (by assumption) ?_
                rotate_left
                · (intro w hSw; (try dsimp only at hSw); go_simp <;> with_reducible rfl)
                (try simp only [Act.put, List.setIfInBounds_toArray, List.set_cons_zero, List.set_cons_succ])
                refine wpAnyH_take (i := 3) (oi := { dst := some 82, op := Op.fieldAddr 26 (Operand.tmp 5) 0, type := 0, pos := "law.go:100", after := #[{ on := 2, ground := Ground.guard }], guard := some (2, false) }) (v := ?_) rfl (by kernel_rfl) (by kernel_rfl) (by kernel_rfl) (fun _ _ _ h => h) (Or.inl ⟨by rfl, ?_⟩) (by assumption) ?_
                rotate_left
                · (intro w hSw; (try dsimp only at hSw); go_simp <;> with_reducible rfl)
                (try simp only [Act.put, List.setIfInBounds_toArray, List.set_cons_zero, List.set_cons_succ])
                refine wpAnyH_take (i := 4) (oi := { dst := some 83, op := Op.load 24 (Operand.tmp 82), type := 24, pos := "law.go:100", after := #[{ on := 3, ground := Ground.data }, { on := 2, ground := Ground.guard }], guard := some (2, false) }) (v := ?_) rfl (by kernel_rfl) (by kernel_rfl) (by kernel_rfl) (fun _ _ _ h => h) (Or.inl ⟨by rfl, ?_⟩) (by assumption) ?_
                rotate_left
                · (intro w hSw; (try dsimp only at hSw); go_simp <;> with_reducible rfl)
                (try simp only [Act.put, List.setIfInBounds_toArray, List.set_cons_zero, List.set_cons_succ])
                refine wpAnyH_take (i := 6) (oi := { dst := some 85, op := Op.load 31 (Operand.tmp 15), type := 31, pos := "law.go:100", after := #[{ on := 2, ground := Ground.guard }], guard := some (2, false) }) (v := ?_) rfl (by kernel_rfl) (by kernel_rfl) (by kernel_rfl) (fun _ _ _ h => h) (Or.inl ⟨by rfl, ?_⟩) (by assumption) ?_
                rotate_left
                · (intro w hSw; (try dsimp only at hSw); go_simp <;> with_reducible rfl)
                (try simp only [Act.put, List.setIfInBounds_toArray, List.set_cons_zero, List.set_cons_succ])
                refine wpAnyH_ready (rs := [5]) (by kernel_rfl) (by simp) ?_
                refine AllReadyH.cons (o := { dst := some 84, op := Op.call { callee := Callee.value (Operand.func 11), args := #[Operand.tmp 83], argTypes := #[23] }, type := 31, pos := "law.go:100", after := #[{ on := 4, ground := Ground.data }, { on := 2, ground := Ground.chain }, { on := 2, ground := Ground.guard }], guard := some (2, false) }) rfl (fun K hK => ?_) ?_
                · go_simp
                  refine (RU _).mono ?_
                  rintro e w1 ⟨f, rfl, hf, os31, k31, rfl⟩
                  (try simp only [Gr.of_drew] at hf); (try simp only [Gr.gr] at hf); (try simp only [Array.append_assoc] at hf)
                  obtain ⟨fs, fa, fn, fc, rfl⟩ := hf.shape
                  (try go_wp2_with fail)
                  refine hK.out _ _ (by (try dsimp only); simp [go_sem, x0, x1, x2, x3, x4, x5, x6, x7, kx, z1, z2, kz, r1, r2, kr]) (fun hHeld2 => ?_)
                  clear hK K hHeld
                  have hHeld := hHeld2
                  clear hHeld2
                  (try simp only [Act.put, List.setIfInBounds_toArray, List.set_cons_zero, List.set_cons_succ])
                  refine wpAnyH_ready (rs := [7]) (by kernel_rfl) (by simp) ?_
                  refine AllReadyH.cons (o := { dst := some 86, op := Op.call { callee := Callee.value (Operand.func 15), args := #[Operand.tmp 84, Operand.tmp 85], argTypes := #[31, 31] }, type := 3, pos := "law.go:100", after := #[{ on := 5, ground := Ground.data }, { on := 6, ground := Ground.data }, { on := 5, ground := Ground.chain }, { on := 2, ground := Ground.guard }], guard := some (2, false) }) rfl (fun K hK => ?_) ?_
                  · go_simp
                    refine (E1 _ ?_ _ (hf.gr ?_)).mono ?_
                    · exact (by with_reducible repeat (first | exact IsGr.refl _ | refine IsGr.gr ?_ _ _ | refine IsGr.alloc ?_ _ | refine IsGr.drew ?_ | refine IsGr.drewN ?_ _))
                    · exact (by with_reducible repeat (first | exact IsGr.refl _ | exact IsGr.gapp0 _ _ _ _ | exact IsGr.gapp1 _ _ _ _ _ | exact IsGr.gapp2 _ _ _ _ _ _ | exact IsGr.gapp3 _ _ _ _ _ _ _ | exact IsGr.gapp4 _ _ _ _ _ _ _ _ | exact IsGr.gapp5 _ _ _ _ _ _ _ _ _ | exact IsGr.gapp6 _ _ _ _ _ _ _ _ _ _ | exact IsGr.gapp7 _ _ _ _ _ _ _ _ _ _ _ | exact IsGr.gapp8 _ _ _ _ _ _ _ _ _ _ _ _ | refine IsGr.gr ?_ _ _ | refine IsGr.alloc ?_ _ | refine IsGr.drew ?_))
                    rintro e w1 ⟨rfl, os32, k32, rfl⟩
                    (try go_wp2_with fail)
                    refine hK.out _ _ (by (try dsimp only); simp [go_sem, x0, x1, x2, x3, x4, x5, x6, x7, kx, z1, z2, kz, r1, r2, kr]) (fun hHeld2 => ?_)
                    clear hK K hHeld
                    have hHeld := hHeld2
                    clear hHeld2
                    (try simp only [Act.put, List.setIfInBounds_toArray, List.set_cons_zero, List.set_cons_succ])
                    refine wpAnyH_take (i := 8) (oi := { dst := some 87, op := Op.binOp BinOp.neq 3 (Operand.tmp 86) (Operand.const (Value.int IntKind.i64 0)) 3, type := 4, pos := "law.go:100", after := #[{ on := 7, ground := Ground.data }, { on := 2, ground := Ground.guard }], guard := some (2, false) }) (v := ?_) rfl (by kernel_rfl) (by kernel_rfl) (by kernel_rfl) (fun _ _ _ h => h) (Or.inl ⟨by rfl, ?_⟩) (by assumption) ?_
                    rotate_left
                    · (intro w hSw; (try dsimp only at hSw); go_simp <;> with_reducible rfl)
                    (try simp only [Act.put, List.setIfInBounds_toArray, List.set_cons_zero, List.set_cons_succ])
                    refine wpAnyH_take (i := 9) (oi := { dst := some 88, op := Op.pick (Operand.tmp 81) (Operand.const (Value.bool true)) (Operand.tmp 87), type := 4, pos := "law.go:100", after := #[{ on := 2, ground := Ground.data }, { on := 8, ground := Ground.data }], guard := none }) (v := ?_) rfl (by kernel_rfl) (by kernel_rfl) (by kernel_rfl) (fun _ _ _ h => h) (Or.inl ⟨by rfl, ?_⟩) (by assumption) ?_
                    rotate_left
                    · (intro w hSw; (try dsimp only at hSw); go_simp <;> with_reducible rfl)
                    (try simp only [Act.put, List.setIfInBounds_toArray, List.set_cons_zero, List.set_cons_succ])
                    refine wpAnyH_take (i := 10) (oi := { dst := some 89, op := Op.move (Operand.tmp 88), type := 4, pos := "law.go:100", after := #[{ on := 9, ground := Ground.data }, { on := 7, ground := Ground.chain }], guard := none }) (v := ?_) rfl (by kernel_rfl) (by kernel_rfl) (by kernel_rfl) (fun _ _ _ h => h) (Or.inl ⟨by rfl, ?_⟩) (by assumption) ?_
                    rotate_left
                    · (intro w hSw; (try dsimp only at hSw); go_simp <;> with_reducible rfl)
                    (try simp only [Act.put, List.setIfInBounds_toArray, List.set_cons_zero, List.set_cons_succ])
                    refine wpAnyH_take (i := 11) (oi := { dst := some 90, op := Op.fieldAddr 26 (Operand.tmp 5) 1, type := 0, pos := "law.go:100", after := #[{ on := 10, ground := Ground.guard }], guard := some (10, false) }) (v := ?_) rfl (by kernel_rfl) (by kernel_rfl) (by kernel_rfl) (fun _ _ _ h => h) (Or.inl ⟨by rfl, ?_⟩) (by assumption) ?_
                    rotate_left
                    · (intro w hSw; (try dsimp only at hSw); go_simp <;> with_reducible rfl)
                    (try simp only [Act.put, List.setIfInBounds_toArray, List.set_cons_zero, List.set_cons_succ])
                    refine wpAnyH_take (i := 12) (oi := { dst := some 91, op := Op.load 24 (Operand.tmp 90), type := 24, pos := "law.go:100", after := #[{ on := 11, ground := Ground.data }, { on := 10, ground := Ground.guard }], guard := some (10, false) }) (v := ?_) rfl (by kernel_rfl) (by kernel_rfl) (by kernel_rfl) (fun _ _ _ h => h) (Or.inl ⟨by rfl, ?_⟩) (by assumption) ?_
                    rotate_left
                    · (intro w hSw; (try dsimp only at hSw); go_simp <;> with_reducible rfl)
                    (try simp only [Act.put, List.setIfInBounds_toArray, List.set_cons_zero, List.set_cons_succ])
                    refine wpAnyH_take (i := 14) (oi := { dst := some 93, op := Op.load 31 (Operand.tmp 13), type := 31, pos := "law.go:100", after := #[{ on := 10, ground := Ground.guard }], guard := some (10, false) }) (v := ?_) rfl (by kernel_rfl) (by kernel_rfl) (by kernel_rfl) (fun _ _ _ h => h) (Or.inl ⟨by rfl, ?_⟩) (by assumption) ?_
                    rotate_left
                    · (intro w hSw; (try dsimp only at hSw); go_simp <;> with_reducible rfl)
                    (try simp only [Act.put, List.setIfInBounds_toArray, List.set_cons_zero, List.set_cons_succ])
                    refine wpAnyH_ready (rs := [13]) (by kernel_rfl) (by simp) ?_
                    refine AllReadyH.cons (o := { dst := some 92, op := Op.call { callee := Callee.value (Operand.func 11), args := #[Operand.tmp 91], argTypes := #[23] }, type := 31, pos := "law.go:100", after := #[{ on := 12, ground := Ground.data }, { on := 10, ground := Ground.chain }, { on := 10, ground := Ground.guard }], guard := some (10, false) }) rfl (fun K hK => ?_) ?_
                    · go_simp
                      refine (RV _).mono ?_
                      rintro e w1 ⟨o, rfl, ho, os33, k33, rfl⟩
                      (try simp only [Gr.of_drew] at ho); (try simp only [Gr.gr] at ho); (try simp only [Array.append_assoc] at ho)
                      obtain ⟨os, oa, on, oc, rfl⟩ := ho.shape
                      (try go_wp2_with fail)
                      refine hK.out _ _ (by (try dsimp only); simp [go_sem, x0, x1, x2, x3, x4, x5, x6, x7, kx, z1, z2, kz, r1, r2, kr]) (fun hHeld2 => ?_)
                      clear hK K hHeld
                      have hHeld := hHeld2
                      clear hHeld2
                      (try simp only [Act.put, List.setIfInBounds_toArray, List.set_cons_zero, List.set_cons_succ])
                      refine wpAnyH_ready (rs := [15]) (by kernel_rfl) (by simp) ?_
                      refine AllReadyH.cons (o := { dst := some 94, op := Op.call { callee := Callee.value (Operand.func 15), args := #[Operand.tmp 92, Operand.tmp 93], argTypes := #[31, 31] }, type := 3, pos := "law.go:100", after := #[{ on := 13, ground := Ground.data }, { on := 14, ground := Ground.data }, { on := 13, ground := Ground.chain }, { on := 10, ground := Ground.guard }], guard := some (10, false) }) rfl (fun K hK => ?_) ?_
                      · go_simp
                        refine (E2 _ ?_ _ (ho.gr ?_)).mono ?_
                        · exact (by with_reducible repeat (first | exact IsGr.refl _ | refine IsGr.gr ?_ _ _ | refine IsGr.alloc ?_ _ | refine IsGr.drew ?_ | refine IsGr.drewN ?_ _))
                        · exact (by with_reducible repeat (first | exact IsGr.refl _ | exact IsGr.gapp0 _ _ _ _ | exact IsGr.gapp1 _ _ _ _ _ | exact IsGr.gapp2 _ _ _ _ _ _ | exact IsGr.gapp3 _ _ _ _ _ _ _ | exact IsGr.gapp4 _ _ _ _ _ _ _ _ | exact IsGr.gapp5 _ _ _ _ _ _ _ _ _ | exact IsGr.gapp6 _ _ _ _ _ _ _ _ _ _ | exact IsGr.gapp7 _ _ _ _ _ _ _ _ _ _ _ | exact IsGr.gapp8 _ _ _ _ _ _ _ _ _ _ _ _ | refine IsGr.gr ?_ _ _ | refine IsGr.alloc ?_ _ | refine IsGr.drew ?_))
                        rintro e w1 ⟨rfl, os34, k34, rfl⟩
                        (try go_wp2_with fail)
                        refine hK.out _ _ (by (try dsimp only); simp [go_sem, x0, x1, x2, x3, x4, x5, x6, x7, kx, z1, z2, kz, r1, r2, kr]) (fun hHeld2 => ?_)
                        clear hK K hHeld
                        have hHeld := hHeld2
                        clear hHeld2
                        (try simp only [Act.put, List.setIfInBounds_toArray, List.set_cons_zero, List.set_cons_succ])
                        refine wpAnyH_take (i := 16) (oi := { dst := some 95, op := Op.binOp BinOp.neq 3 (Operand.tmp 94) (Operand.const (Value.int IntKind.i64 0)) 3, type := 4, pos := "law.go:100", after := #[{ on := 15, ground := Ground.data }, { on := 10, ground := Ground.guard }], guard := some (10, false) }) (v := ?_) rfl (by kernel_rfl) (by kernel_rfl) (by kernel_rfl) (fun _ _ _ h => h) (Or.inl ⟨by rfl, ?_⟩) (by assumption) ?_
                        rotate_left
                        · (intro w hSw; (try dsimp only at hSw); go_simp <;> with_reducible rfl)
                        (try simp only [Act.put, List.setIfInBounds_toArray, List.set_cons_zero, List.set_cons_succ])
                        refine wpAnyH_take (i := 17) (oi := { dst := some 96, op := Op.pick (Operand.tmp 89) (Operand.const (Value.bool true)) (Operand.tmp 95), type := 4, pos := "law.go:100", after := #[{ on := 10, ground := Ground.data }, { on := 16, ground := Ground.data }], guard := none }) (v := ?_) rfl (by kernel_rfl) (by kernel_rfl) (by kernel_rfl) (fun _ _ _ h => h) (Or.inl ⟨by rfl, ?_⟩) (by assumption) ?_
                        rotate_left
                        · (intro w hSw; (try dsimp only at hSw); go_simp <;> with_reducible rfl)
                        (try simp only [Act.put, List.setIfInBounds_toArray, List.set_cons_zero, List.set_cons_succ])
                        refine wpAnyH_done (by kernel_rfl) ?_ _
                        go_wp2
                        go_meet
                        case rel => exact ⟨by rfl, (by with_reducible repeat (first | exact IsGr.refl _ | refine IsGr.gr ?_ _ _ | refine IsGr.alloc ?_ _ | refine IsGr.drew ?_ | refine IsGr.drewN ?_ _))⟩
                      exact AllReadyH.nil
                    exact AllReadyH.nil
                  exact AllReadyH.nil
                exact AllReadyH.nil
              case rest =>
                obtain ⟨rfl, hgr⟩ := hcut
                have heR := fun w => eqR_t Is.zero Is.zero Is.zero Is.zero rfl rfl w
                obtain ⟨W7, hW9⟩ : ∃ W7, W7 = wc := ⟨_, rfl⟩
                subst hW9
                replace y0 := hgr.cell_eq ky y0
                replace y1 := hgr.cell_eq ky y1
                replace y2 := hgr.cell_eq ky y2
                replace y3 := hgr.cell_eq ky y3
                replace y4 := hgr.cell_eq ky y4
                replace y5 := hgr.cell_eq ky y5
                replace y6 := hgr.cell_eq ky y6
                replace y7 := hgr.cell_eq ky y7
                replace ky : g7 < W7.heap.size := Nat.lt_of_lt_of_le ky hgr.size
                replace r1 := hgr.cell_eq kr r1
                replace r2 := hgr.cell_eq kr r2
                replace kr : gr < W7.heap.size := Nat.lt_of_lt_of_le kr hgr.size
                replace Br := Br.gr hgr
                replace p1 := hgr.cell_eq kp p1
                replace p2 := hgr.cell_eq kp p2
                replace kp : gp < W7.heap.size := Nat.lt_of_lt_of_le kp hgr.size
                replace Bp := Bp.gr hgr
                replace HG : Hid (IsGr w W7) := HG.out.trans hgr
                clear hgr E1 E2 RU RV
                have G4 := fun w1 (hg : IsGr W7 w1) => Fits_any _ (n * q) w1 (Bp.gr hg) s4
                have G3 := fun w1 (hg : IsGr W7 w1) => Fits_any _ (d * c) w1 (Br.gr hg) s3
                simp only [← hfp] at G4
                simp only [← hfr] at G3
                go_upto_region 12 with fail
                go_cut [111] (fun t111 wr => t111 = .bool okM ∧ IsGr W7 wr)
                case first => as_aux_lemma =>
                  subst hokM
                  clear hM hB hfl hfm hfz hfr hfp CA
                  cases B
                  · go_wp2
                    go_meet
                    case rel => exact ⟨by rfl, (by with_reducible repeat (first | exact IsGr.refl _ | refine IsGr.gr ?_ _ _ | refine IsGr.alloc ?_ _ | refine IsGr.drew ?_ | refine IsGr.drewN ?_ _))⟩
                  go_wp2_with fail
                  refine (G4 _ ?_).mono ?_
                  exact (by with_reducible repeat (first | exact IsGr.refl _ | refine IsGr.gr ?_ _ _ | refine IsGr.alloc ?_ _ | refine IsGr.drew ?_ | refine IsGr.drewN ?_ _))
                  rintro e w1 ⟨rfl, os20, k20, rfl⟩
                  cases fp
                  · go_wp2
                    go_meet
                    case rel => exact ⟨by rfl, (by with_reducible repeat (first | exact IsGr.refl _ | refine IsGr.gr ?_ _ _ | refine IsGr.alloc ?_ _ | refine IsGr.drew ?_ | refine IsGr.drewN ?_ _))⟩
                  · go_wp2_with fail
                    refine (G3 _ ?_).mono ?_
                    exact (by with_reducible repeat (first | exact IsGr.refl _ | refine IsGr.gr ?_ _ _ | refine IsGr.alloc ?_ _ | refine IsGr.drew ?_ | refine IsGr.drewN ?_ _))
                    rintro e w1 ⟨rfl, os21, k21, rfl⟩
                    cases fr
                    · go_wp2
                      go_meet
                      case rel => exact ⟨by rfl, (by with_reducible repeat (first | exact IsGr.refl _ | refine IsGr.gr ?_ _ _ | refine IsGr.alloc ?_ _ | refine IsGr.drew ?_ | refine IsGr.drewN ?_ _))⟩
                    · go_wp2
                      go_meet
                      case rel => exact ⟨by rfl, (by with_reducible repeat (first | exact IsGr.refl _ | refine IsGr.gr ?_ _ _ | refine IsGr.alloc ?_ _ | refine IsGr.drew ?_ | refine IsGr.drewN ?_ _))⟩
                case rest =>
                  obtain ⟨rfl, hgr⟩ := hcut
                  obtain ⟨W9, hW9⟩ : ∃ W9, W9 = wc := ⟨_, rfl⟩
                  subst hW9
                  replace y0 := hgr.cell_eq ky y0
                  replace y1 := hgr.cell_eq ky y1
                  replace y2 := hgr.cell_eq ky y2
                  replace y3 := hgr.cell_eq ky y3
                  replace y4 := hgr.cell_eq ky y4
                  replace y5 := hgr.cell_eq ky y5
                  replace y6 := hgr.cell_eq ky y6
                  replace y7 := hgr.cell_eq ky y7
                  replace ky : g7 < W9.heap.size := Nat.lt_of_lt_of_le ky hgr.size
                  replace r1 := hgr.cell_eq kr r1
                  replace r2 := hgr.cell_eq kr r2
                  replace kr : gr < W9.heap.size := Nat.lt_of_lt_of_le kr hgr.size
                  replace Br := Br.gr hgr
                  replace p1 := hgr.cell_eq kp p1
                  replace p2 := hgr.cell_eq kp p2
                  replace kp : gp < W9.heap.size := Nat.lt_of_lt_of_le kp hgr.size
                  replace Bp := Bp.gr hgr
                  replace HG : Hid (IsGr w W9) := HG.out.trans hgr
                  clear hgr G4 G3 hokM hB hfl hfm hfz hfr hfp
                  cases okM
                  · obtain ⟨rfl, _, rfl, rfl, rfl, rfl, rfl, rfl, rfl, rfl⟩ : is = false ∧ True ∧ u0 = 0 ∧ u1 = 0 ∧ u2 = 0 ∧ u3 = 0 ∧ v0 = 0 ∧ v1 = 0 ∧ v2 = 0 ∧ v3 = 0 := by
                      rcases hP with ⟨_, k, _⟩ | ⟨h0, _, h1⟩
                      · exact absurd (hM.2 k) (by simp)
                      · exact ⟨h0, trivial, h1⟩
                    clear hP hM
                    go_wp2_with fail
                    refine (CA _).mono ?_
                    rintro e w1 ⟨rfl, os30, k30, rfl⟩
                    go_wp2
                    go_ret
                    exact ⟨rfl, HG.out.trans (by with_reducible repeat (first | exact IsGr.refl _ | refine IsGr.gr ?_ _ _ | refine IsGr.alloc ?_ _ | refine IsGr.drew ?_ | refine IsGr.drewN ?_ _))⟩
                  · obtain ⟨rfl, hu, hv⟩ : is = true ∧ IsI u0 u1 u2 u3 (n * q) ∧ IsI v0 v1 v2 v3 (d * c) := by
                      rcases hP with ⟨h0, _, h1, h2⟩ | ⟨_, k, _⟩
                      · exact ⟨h0, h1, h2⟩
                      · exact absurd (hM.1 rfl) k
                    clear hP hM
                    have RU := fun w => Read_any hu.1 hu.2.1 hu.2.2 w
                    have RV := fun w => Read_any hv.1 hv.2.1 hv.2.2 w
                    have E1 := fun w1 (hg : IsGr W9 w1) v (h : IsBig w1 v (n * q)) => BigSame_any v _ (n * q) w1 h (Bp.gr hg) s4
                    have E2 := fun w1 (hg : IsGr W9 w1) v (h : IsBig w1 v (d * c)) => BigSame_any v _ (d * c) w1 h (Br.gr hg) s3
                    clear hu hv
                    go_upto_region 13 with fail
                    as_aux_lemma =>
                      refine wp_region_held_drew (S := (fun w' => (w'.cell? ⟨g7, 0, none⟩ = some (.int .u64 u0) ∧ w'.cell? ⟨g7, 1, none⟩ = some (.int .u64 u1) ∧ w'.cell? ⟨g7, 2, none⟩ = some (.int .u64 u2) ∧ w'.cell? ⟨g7, 3, none⟩ = some (.int .u64 u3) ∧ w'.cell? ⟨g7, 4, none⟩ = some (.int .u64 v0) ∧ w'.cell? ⟨g7, 5, none⟩ = some (.int .u64 v1) ∧ w'.cell? ⟨g7, 6, none⟩ = some (.int .u64 v2) ∧ w'.cell? ⟨g7, 7, none⟩ = some (.int .u64 v3)) ∧ (w'.cell? ⟨gp, 0, none⟩ = some (.bool ps) ∧ w'.cell? ⟨gp, 1, none⟩ = some (.slice pa pn pc)) ∧ (w'.cell? ⟨gr, 0, none⟩ = some (.bool rs) ∧ w'.cell? ⟨gr, 1, none⟩ = some (.slice ra rn rc)))) (by kernel_rfl) (by (try dsimp only); simp [go_sem, y0, y1, y2, y3, y4, y5, y6, y7, p1, p2, r1, r2]) (fun hHeld => ?_)
                      refine wpAnyH_take (i := 0) (oi := { dst := some 112, op := Op.move (Operand.tmp 8), type := 4, pos := "law.go:107", after := #[], guard := none }) (v := ?_) rfl (by kernel_rfl) (by kernel_rfl) (by kernel_rfl) (fun _ _ _ h => h) (Or.inl ⟨by rfl, ?_⟩) (by assumption) ?_
                      rotate_left
                      · (intro w hSw; (try dsimp only at hSw); go_simp <;> with_reducible rfl)
                      (try simp only [Act.put, List.setIfInBounds_toArray, List.set_cons_zero, List.set_cons_succ])
                      refine wpAnyH_take (i := 1) (oi := { dst := some 113, op := Op.move (Operand.tmp 112), type := 4, pos := "law.go:107", after := #[{ on := 0, ground := Ground.data }], guard := none }) (v := ?_) rfl (by kernel_rfl) (by kernel_rfl) (by kernel_rfl) (fun _ _ _ h => h) (Or.inl ⟨by rfl, ?_⟩) (by assumption) ?_
                      rotate_left
                      · (intro w hSw; (try dsimp only at hSw); go_simp <;> with_reducible rfl)
                      (try simp only [Act.put, List.setIfInBounds_toArray, List.set_cons_zero, List.set_cons_succ])
                      refine wpAnyH_take (i := 2) (oi := { dst := some 114, op := Op.fieldAddr 26 (Operand.tmp 7) 0, type := 0, pos := "law.go:107", after := #[{ on := 1, ground := Ground.guard }], guard := some (1, true) }) (v := ?_) rfl (by kernel_rfl) (by kernel_rfl) (by kernel_rfl) (fun _ _ _ h => h) (Or.inl ⟨by rfl, ?_⟩) (by assumption) ?_
                      rotate_left
                      · (intro w hSw; (try dsimp only at hSw); go_simp <;> with_reducible rfl)
                      (try simp only [Act.put, List.setIfInBounds_toArray, List.set_cons_zero, List.set_cons_succ])
                      refine wpAnyH_take (i := 3) (oi := { dst := some 115, op := Op.load 24 (Operand.tmp 114), type := 24, pos := "law.go:107", after := #[{ on := 2, ground := Ground.data }, { on := 1, ground := Ground.guard }], guard := some (1, true) }) (v := ?_) rfl (by kernel_rfl) (by kernel_rfl) (by kernel_rfl) (fun _ _ _ h => h) (Or.inl ⟨by rfl, ?_⟩) (by assumption) ?_
                      rotate_left
                      · (intro w hSw; (try dsimp only at hSw); go_simp <;> with_reducible rfl)
                      (try simp only [Act.put, List.setIfInBounds_toArray, List.set_cons_zero, List.set_cons_succ])
                      refine wpAnyH_take (i := 5) (oi := { dst := some 117, op := Op.load 31 (Operand.tmp 14), type := 31, pos := "law.go:107", after := #[{ on := 1, ground := Ground.guard }], guard := some (1, true) }) (v := ?_) rfl (by kernel_rfl) (by kernel_rfl) (by kernel_rfl) (fun _ _ _ h => h) (Or.inl ⟨by rfl, ?_⟩) (by assumption) ?_
                      rotate_left
                      · (intro w hSw; (try dsimp only at hSw); go_simp <;> with_reducible rfl)
                      (try simp only [Act.put, List.setIfInBounds_toArray, List.set_cons_zero, List.set_cons_succ])
                      refine wpAnyH_ready (rs := [4]) (by kernel_rfl) (by simp) ?_
                      refine AllReadyH.cons (o := { dst := some 116, op := Op.call { callee := Callee.value (Operand.func 11), args := #[Operand.tmp 115], argTypes := #[23] }, type := 31, pos := "law.go:107", after := #[{ on := 3, ground := Ground.data }, { on := 1, ground := Ground.chain }, { on := 1, ground := Ground.guard }], guard := some (1, true) }) rfl (fun K hK => ?_) ?_
                      · go_simp
                        refine (RU _).mono ?_
                        rintro e w1 ⟨f, rfl, hf, os31, k31, rfl⟩
                        (try simp only [Gr.of_drew] at hf); (try simp only [Gr.gr] at hf); (try simp only [Array.append_assoc] at hf)
                        obtain ⟨fs, fa, fn, fc, rfl⟩ := hf.shape
                        (try go_wp2_with fail)
                        refine hK.out _ _ (by (try dsimp only); simp [go_sem, y0, y1, y2, y3, y4, y5, y6, y7, ky, p1, p2, kp, r1, r2, kr]) (fun hHeld2 => ?_)
                        clear hK K hHeld
                        have hHeld := hHeld2
                        clear hHeld2
                        (try simp only [Act.put, List.setIfInBounds_toArray, List.set_cons_zero, List.set_cons_succ])
                        refine wpAnyH_ready (rs := [6]) (by kernel_rfl) (by simp) ?_
                        refine AllReadyH.cons (o := { dst := some 118, op := Op.call { callee := Callee.value (Operand.func 15), args := #[Operand.tmp 116, Operand.tmp 117], argTypes := #[31, 31] }, type := 3, pos := "law.go:107", after := #[{ on := 4, ground := Ground.data }, { on := 5, ground := Ground.data }, { on := 4, ground := Ground.chain }, { on := 1, ground := Ground.guard }], guard := some (1, true) }) rfl (fun K hK => ?_) ?_
                        · go_simp
                          refine (E1 _ ?_ _ (hf.gr ?_)).mono ?_
                          · exact (by with_reducible repeat (first | exact IsGr.refl _ | refine IsGr.gr ?_ _ _ | refine IsGr.alloc ?_ _ | refine IsGr.drew ?_ | refine IsGr.drewN ?_ _))
                          · exact (by with_reducible repeat (first | exact IsGr.refl _ | exact IsGr.gapp0 _ _ _ _ | exact IsGr.gapp1 _ _ _ _ _ | exact IsGr.gapp2 _ _ _ _ _ _ | exact IsGr.gapp3 _ _ _ _ _ _ _ | exact IsGr.gapp4 _ _ _ _ _ _ _ _ | exact IsGr.gapp5 _ _ _ _ _ _ _ _ _ | exact IsGr.gapp6 _ _ _ _ _ _ _ _ _ _ | exact IsGr.gapp7 _ _ _ _ _ _ _ _ _ _ _ | exact IsGr.gapp8 _ _ _ _ _ _ _ _ _ _ _ _ | refine IsGr.gr ?_ _ _ | refine IsGr.alloc ?_ _ | refine IsGr.drew ?_))
                          rintro e w1 ⟨rfl, os32, k32, rfl⟩
                          (try go_wp2_with fail)
                          refine hK.out _ _ (by (try dsimp only); simp [go_sem, y0, y1, y2, y3, y4, y5, y6, y7, ky, p1, p2, kp, r1, r2, kr]) (fun hHeld2 => ?_)
                          clear hK K hHeld
                          have hHeld := hHeld2
                          clear hHeld2
                          (try simp only [Act.put, List.setIfInBounds_toArray, List.set_cons_zero, List.set_cons_succ])
                          refine wpAnyH_take (i := 7) (oi := { dst := some 119, op := Op.binOp BinOp.eql 3 (Operand.tmp 118) (Operand.const (Value.int IntKind.i64 0)) 3, type := 4, pos := "law.go:107", after := #[{ on := 6, ground := Ground.data }, { on := 1, ground := Ground.guard }], guard := some (1, true) }) (v := ?_) rfl (by kernel_rfl) (by kernel_rfl) (by kernel_rfl) (fun _ _ _ h => h) (Or.inl ⟨by rfl, ?_⟩) (by assumption) ?_
                          rotate_left
                          · (intro w hSw; (try dsimp only at hSw); go_simp <;> with_reducible rfl)
                          (try simp only [Act.put, List.setIfInBounds_toArray, List.set_cons_zero, List.set_cons_succ])
                          refine wpAnyH_take (i := 8) (oi := { dst := some 120, op := Op.pick (Operand.tmp 113) (Operand.tmp 119) (Operand.const (Value.bool false)), type := 4, pos := "law.go:107", after := #[{ on := 1, ground := Ground.data }, { on := 7, ground := Ground.data }], guard := none }) (v := ?_) rfl (by kernel_rfl) (by kernel_rfl) (by kernel_rfl) (fun _ _ _ h => h) (Or.inl ⟨by rfl, ?_⟩) (by assumption) ?_
                          rotate_left
                          · (intro w hSw; (try dsimp only at hSw); go_simp <;> with_reducible rfl)
                          (try simp only [Act.put, List.setIfInBounds_toArray, List.set_cons_zero, List.set_cons_succ])
                          refine wpAnyH_take (i := 9) (oi := { dst := some 121, op := Op.move (Operand.tmp 120), type := 4, pos := "law.go:107", after := #[{ on := 8, ground := Ground.data }, { on := 6, ground := Ground.chain }], guard := none }) (v := ?_) rfl (by kernel_rfl) (by kernel_rfl) (by kernel_rfl) (fun _ _ _ h => h) (Or.inl ⟨by rfl, ?_⟩) (by assumption) ?_
                          rotate_left
                          · (intro w hSw; (try dsimp only at hSw); go_simp <;> with_reducible rfl)
                          (try simp only [Act.put, List.setIfInBounds_toArray, List.set_cons_zero, List.set_cons_succ])
                          refine wpAnyH_take (i := 10) (oi := { dst := some 122, op := Op.fieldAddr 26 (Operand.tmp 7) 1, type := 0, pos := "law.go:107", after := #[{ on := 9, ground := Ground.guard }], guard := some (9, true) }) (v := ?_) rfl (by kernel_rfl) (by kernel_rfl) (by kernel_rfl) (fun _ _ _ h => h) (Or.inl ⟨by rfl, ?_⟩) (by assumption) ?_
                          rotate_left
                          · (intro w hSw; (try dsimp only at hSw); go_simp <;> with_reducible rfl)
                          (try simp only [Act.put, List.setIfInBounds_toArray, List.set_cons_zero, List.set_cons_succ])
                          refine wpAnyH_take (i := 11) (oi := { dst := some 123, op := Op.load 24 (Operand.tmp 122), type := 24, pos := "law.go:107", after := #[{ on := 10, ground := Ground.data }, { on := 9, ground := Ground.guard }], guard := some (9, true) }) (v := ?_) rfl (by kernel_rfl) (by kernel_rfl) (by kernel_rfl) (fun _ _ _ h => h) (Or.inl ⟨by rfl, ?_⟩) (by assumption) ?_
                          rotate_left
                          · (intro w hSw; (try dsimp only at hSw); go_simp <;> with_reducible rfl)
                          (try simp only [Act.put, List.setIfInBounds_toArray, List.set_cons_zero, List.set_cons_succ])
                          refine wpAnyH_take (i := 13) (oi := { dst := some 125, op := Op.load 31 (Operand.tmp 13), type := 31, pos := "law.go:107", after := #[{ on := 9, ground := Ground.guard }], guard := some (9, true) }) (v := ?_) rfl (by kernel_rfl) (by kernel_rfl) (by kernel_rfl) (fun _ _ _ h => h) (Or.inl ⟨by rfl, ?_⟩) (by assumption) ?_
                          rotate_left
                          · (intro w hSw; (try dsimp only at hSw); go_simp <;> with_reducible rfl)
                          (try simp only [Act.put, List.setIfInBounds_toArray, List.set_cons_zero, List.set_cons_succ])
                          refine wpAnyH_ready (rs := [12]) (by kernel_rfl) (by simp) ?_
                          refine AllReadyH.cons (o := { dst := some 124, op := Op.call { callee := Callee.value (Operand.func 11), args := #[Operand.tmp 123], argTypes := #[23] }, type := 31, pos := "law.go:107", after := #[{ on := 11, ground := Ground.data }, { on := 9, ground := Ground.chain }, { on := 9, ground := Ground.guard }], guard := some (9, true) }) rfl (fun K hK => ?_) ?_
                          · go_simp
                            refine (RV _).mono ?_
                            rintro e w1 ⟨o, rfl, ho, os33, k33, rfl⟩
                            (try simp only [Gr.of_drew] at ho); (try simp only [Gr.gr] at ho); (try simp only [Array.append_assoc] at ho)
                            obtain ⟨os, oa, on, oc, rfl⟩ := ho.shape
                            (try go_wp2_with fail)
                            refine hK.out _ _ (by (try dsimp only); simp [go_sem, y0, y1, y2, y3, y4, y5, y6, y7, ky, p1, p2, kp, r1, r2, kr]) (fun hHeld2 => ?_)
                            clear hK K hHeld
                            have hHeld := hHeld2
                            clear hHeld2
                            (try simp only [Act.put, List.setIfInBounds_toArray, List.set_cons_zero, List.set_cons_succ])
                            refine wpAnyH_ready (rs := [14]) (by kernel_rfl) (by simp) ?_
                            refine AllReadyH.cons (o := { dst := some 126, op := Op.call { callee := Callee.value (Operand.func 15), args := #[Operand.tmp 124, Operand.tmp 125], argTypes := #[31, 31] }, type := 3, pos := "law.go:107", after := #[{ on := 12, ground := Ground.data }, { on := 13, ground := Ground.data }, { on := 12, ground := Ground.chain }, { on := 9, ground := Ground.guard }], guard := some (9, true) }) rfl (fun K hK => ?_) ?_
                            · go_simp
                              refine (E2 _ ?_ _ (ho.gr ?_)).mono ?_
                              · exact (by with_reducible repeat (first | exact IsGr.refl _ | refine IsGr.gr ?_ _ _ | refine IsGr.alloc ?_ _ | refine IsGr.drew ?_ | refine IsGr.drewN ?_ _))
                              · exact (by with_reducible repeat (first | exact IsGr.refl _ | exact IsGr.gapp0 _ _ _ _ | exact IsGr.gapp1 _ _ _ _ _ | exact IsGr.gapp2 _ _ _ _ _ _ | exact IsGr.gapp3 _ _ _ _ _ _ _ | exact IsGr.gapp4 _ _ _ _ _ _ _ _ | exact IsGr.gapp5 _ _ _ _ _ _ _ _ _ | exact IsGr.gapp6 _ _ _ _ _ _ _ _ _ _ | exact IsGr.gapp7 _ _ _ _ _ _ _ _ _ _ _ | exact IsGr.gapp8 _ _ _ _ _ _ _ _ _ _ _ _ | refine IsGr.gr ?_ _ _ | refine IsGr.alloc ?_ _ | refine IsGr.drew ?_))
                              rintro e w1 ⟨rfl, os34, k34, rfl⟩
                              (try go_wp2_with fail)
                              refine hK.out _ _ (by (try dsimp only); simp [go_sem, y0, y1, y2, y3, y4, y5, y6, y7, ky, p1, p2, kp, r1, r2, kr]) (fun hHeld2 => ?_)
                              clear hK K hHeld
                              have hHeld := hHeld2
                              clear hHeld2
                              (try simp only [Act.put, List.setIfInBounds_toArray, List.set_cons_zero, List.set_cons_succ])
                              refine wpAnyH_take (i := 15) (oi := { dst := some 127, op := Op.binOp BinOp.eql 3 (Operand.tmp 126) (Operand.const (Value.int IntKind.i64 0)) 3, type := 4, pos := "law.go:107", after := #[{ on := 14, ground := Ground.data }, { on := 9, ground := Ground.guard }], guard := some (9, true) }) (v := ?_) rfl (by kernel_rfl) (by kernel_rfl) (by kernel_rfl) (fun _ _ _ h => h) (Or.inl ⟨by rfl, ?_⟩) (by assumption) ?_
                              rotate_left
                              · (intro w hSw; (try dsimp only at hSw); go_simp <;> with_reducible rfl)
                              (try simp only [Act.put, List.setIfInBounds_toArray, List.set_cons_zero, List.set_cons_succ])
                              refine wpAnyH_take (i := 16) (oi := { dst := some 128, op := Op.pick (Operand.tmp 121) (Operand.tmp 127) (Operand.const (Value.bool false)), type := 4, pos := "law.go:107", after := #[{ on := 9, ground := Ground.data }, { on := 15, ground := Ground.data }], guard := none }) (v := ?_) rfl (by kernel_rfl) (by kernel_rfl) (by kernel_rfl) (fun _ _ _ h => h) (Or.inl ⟨by rfl, ?_⟩) (by assumption) ?_
                              rotate_left
                              · (intro w hSw; (try dsimp only at hSw); go_simp <;> with_reducible rfl)
                              (try simp only [Act.put, List.setIfInBounds_toArray, List.set_cons_zero, List.set_cons_succ])
                              refine wpAnyH_take (i := 17) (oi := { dst := some 129, op := Op.move (Operand.tmp 128), type := 4, pos := "law.go:107", after := #[{ on := 16, ground := Ground.data }, { on := 14, ground := Ground.chain }], guard := none }) (v := ?_) rfl (by kernel_rfl) (by kernel_rfl) (by kernel_rfl) (fun _ _ _ h => h) (Or.inl ⟨by rfl, ?_⟩) (by assumption) ?_
                              rotate_left
                              · (intro w hSw; (try dsimp only at hSw); go_simp <;> with_reducible rfl)
                              (try simp only [Act.put, List.setIfInBounds_toArray, List.set_cons_zero, List.set_cons_succ])
                              refine wpAnyH_ready (rs := [18]) (by kernel_rfl) (by simp) ?_
                              refine AllReadyH.cons (o := { dst := some 130, op := Op.call { callee := Callee.value (Operand.func 16), args := #[], argTypes := #[] }, type := 4, pos := "law.go:107", after := #[{ on := 17, ground := Ground.chain }, { on := 17, ground := Ground.guard }], guard := some (17, true) }) rfl (fun K hK => ?_) ?_
                              · go_simp
                                refine (CA _).mono ?_
                                rintro e w1 ⟨rfl, os35, k35, rfl⟩
                                (try go_wp2_with fail)
                                refine hK.out _ _ (by (try dsimp only); simp [go_sem, y0, y1, y2, y3, y4, y5, y6, y7, ky, p1, p2, kp, r1, r2, kr]) (fun hHeld2 => ?_)
                                clear hK K hHeld
                                have hHeld := hHeld2
                                clear hHeld2
                                (try simp only [Act.put, List.setIfInBounds_toArray, List.set_cons_zero, List.set_cons_succ])
                                refine wpAnyH_take (i := 19) (oi := { dst := some 131, op := Op.pick (Operand.tmp 129) (Operand.tmp 130) (Operand.const (Value.bool false)), type := 4, pos := "law.go:107", after := #[{ on := 17, ground := Ground.data }, { on := 18, ground := Ground.data }], guard := none }) (v := ?_) rfl (by kernel_rfl) (by kernel_rfl) (by kernel_rfl) (fun _ _ _ h => h) (Or.inl ⟨by rfl, ?_⟩) (by assumption) ?_
                                rotate_left
                                · (intro w hSw; (try dsimp only at hSw); go_simp <;> with_reducible rfl)
                                (try simp only [Act.put, List.setIfInBounds_toArray, List.set_cons_zero, List.set_cons_succ])
                                refine wpAnyH_take (i := 20) (oi := { dst := some 4, op := Op.assign (Operand.tmp 131), type := 4, pos := "law.go:107", after := #[{ on := 19, ground := Ground.data }, { on := 18, ground := Ground.chain }, { on := 0, ground := Ground.phase }, { on := 1, ground := Ground.phase }, { on := 2, ground := Ground.phase }, { on := 3, ground := Ground.phase }, { on := 4, ground := Ground.phase }, { on := 5, ground := Ground.phase }, { on := 6, ground := Ground.phase }, { on := 7, ground := Ground.phase }, { on := 8, ground := Ground.phase }, { on := 9, ground := Ground.phase }, { on := 10, ground := Ground.phase }, { on := 11, ground := Ground.phase }, { on := 12, ground := Ground.phase }, { on := 13, ground := Ground.phase }, { on := 14, ground := Ground.phase }, { on := 15, ground := Ground.phase }, { on := 16, ground := Ground.phase }, { on := 17, ground := Ground.phase }, { on := 18, ground := Ground.phase }, { on := 19, ground := Ground.phase }], guard := none }) (v := ?_) rfl (by kernel_rfl) (by kernel_rfl) (by kernel_rfl) (fun _ _ _ h => h) (Or.inl ⟨by rfl, ?_⟩) (by assumption) ?_
                                rotate_left
                                · (intro w hSw; (try dsimp only at hSw); go_simp <;> with_reducible rfl)
                                (try simp only [Act.put, List.setIfInBounds_toArray, List.set_cons_zero, List.set_cons_succ])
                                refine wpAnyH_done (by kernel_rfl) ?_ _
                                go_wp2
                                go_ret
                                exact ⟨rfl, HG.out.trans (by with_reducible repeat (first | exact IsGr.refl _ | refine IsGr.gr ?_ _ _ | refine IsGr.alloc ?_ _ | refine IsGr.drew ?_ | refine IsGr.drewN ?_ _))⟩
                              exact AllReadyH.nil
                            exact AllReadyH.nil
                          exact AllReadyH.nil
                        exact AllReadyH.nil
                      exact AllReadyH.nil
end Go.Proofs.Ytecohcgcffhlnaa
