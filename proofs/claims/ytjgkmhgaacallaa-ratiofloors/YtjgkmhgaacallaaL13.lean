/- gromalaw02.RatioFloors: for every fraction the law answers true. -/
import Derived.Test.YtjgkmhgaacallaaT4
import Derived.Test.YtjgkmhgaacallaaT5
import Derived.Test.YtjgkmhgaacallaaL5
namespace Go.Proofs.Ytjgkmhgaacallaa
open Go.RowKit Go.Shelf
attribute [local go_sem] Gr.size Gr.cell? Gr.frozen? Gr.setCell Gr.drew Gr.drewN Gr.of_drew Gr.of_drewN Gr.gr Gr.lt_of1 Gr.le_of1 Gr.lt_of2 Gr.le_of2 Gr.lt_of3 Gr.le_of3 Gr.lt_of4 Gr.le_of4 Gr.lt_of5 Gr.le_of5 Gr.lt_of6 Gr.le_of6 Gr.lt_of7 Gr.le_of7 Gr.lt_of8 Gr.le_of8 Gr.lt_of9 Gr.le_of9 Gr.lt_of10 Gr.le_of10 Gr.lt_of11 Gr.le_of11 Gr.lt_of12 Gr.le_of12 Gr.lt_of13 Gr.le_of13 Gr.lt_of14 Gr.le_of14 Gr.lt_of15 Gr.le_of15 Gr.lt_of16 Gr.le_of16 Gr.lt_of17 Gr.le_of17 Gr.lt_of18 Gr.le_of18 Gr.lt_of19 Gr.le_of19 Gr.lt_of20 Gr.le_of20 Gr.lt_of21 Gr.le_of21 Gr.lt_of22 Gr.le_of22 Gr.lt_of23 Gr.le_of23 Gr.lt_of24 Gr.le_of24


set_option maxRecDepth 20000 in set_option maxHeartbeats 8000000 in
theorem law_floors (n0 n1 n2 n3 n d0 d1 d2 d3 d : Int) (hn : IsI n0 n1 n2 n3 n) (hd : IsI d0 d1 d2 d3 d) (w : World) :
    Calls Try.prog 12 #[.agg #[.int .u64 n0, .int .u64 n1, .int .u64 n2, .int .u64 n3, .int .u64 d0, .int .u64 d1, .int .u64 d2, .int .u64 d3]] w fun e w' => e = .returned (.bool true) ∧ IsGr w w' := by
  have CA := fun w => awake2_any w
  have CF := fun w => Floor_any n0 n1 n2 n3 n d0 d1 d2 d3 d hn hd w
  have CR := fun w => right_any n0 n1 n2 n3 d0 d1 d2 d3 d hd w
  have CW := fun w => Whole_any n0 n1 n2 n3 n d0 d1 d2 d3 d hn hd w
  by_cases h : 0 < d
  · have h0 : decide (0 < d) = true := by simp [h]
    rw [h0] at CR CW
    rw [Bool.true_and] at CW
    have CX := fun w => ref_any n0 n1 n2 n3 n d0 d1 d2 d3 d hn hd w
    have sn : Sm n := by have := hn.2; unfold Sm; omega
    have sd : Sm d := by have := hd.2; unfold Sm; omega
    have hff := fmod_facts n d (by omega)
    have HD : Hid (0 < d) := h
    have HR : Hid ((-57896044618658097711785492504343953926634992332820282019728792003956564819968 ≤ n ∧ n < 57896044618658097711785492504343953926634992332820282019728792003956564819968) ∧ (-57896044618658097711785492504343953926634992332820282019728792003956564819968 ≤ d ∧ d < 57896044618658097711785492504343953926634992332820282019728792003956564819968)) := ⟨hn.2, hd.2⟩
    obtain ⟨B, hB⟩ : ∃ B, decide (n.fmod d = 0) = B := ⟨_, rfl⟩
    rw [hB] at CW
    have HFF : Hid (n.fdiv d * d + n.fmod d = n ∧ 0 ≤ n.fmod d ∧ n.fmod d < d ∧ decide (n.fmod d = 0) = B) := ⟨hff.1, (hff.2.1 h).1, (hff.2.1 h).2, hB⟩
    clear h h0 hff hB hn hd
    go_enter Try.func12, Try.ntmps12
    go_wp2_with fail
    refine (CF _).mono ?_
    rintro e w1 ⟨f0, f1, f2, f3, ok, rfl, hF, os1, m1, rfl⟩
    obtain ⟨rfl, hf⟩ := hF.1 HD.out
    have RF := fun w => Read_any hf.1 hf.2.1 hf.2.2 w
    have sf : Sm (n.fdiv d) := by have := hf.2; unfold Sm; omega
    have sp : Sm (n.fdiv d * d) := prod_sm hf.2 HR.out.2
    have hff := HFF.out
    generalize n.fdiv d = Q at RF sf sp hff
    generalize n.fmod d = R at hff
    have sq : Sm (Q * d + d) := by have := HR.out; unfold Sm at sn ⊢; omega
    have HQ : Hid (Q * d + R = n ∧ 0 ≤ R ∧ R < d ∧ decide (R = 0) = B) := hff
    clear hF hf hff HFF CF
    go_wp2_with fail
    refine (CR _).mono ?_
    rintro e w1 ⟨rfl, os2, m2, rfl⟩
    go_upto_region 4 with fail
    go_cut [5] (fun t5 wr => ∃ (g : Nat) (xs ys : Bool) (xa ya : Option Addr) (xn xc yn yc : Nat), t5 = .pointer (some ⟨g, 0, none⟩) ∧ g < wr.heap.size ∧ w.heap.size + 1 + os1.size < wr.heap.size ∧ (wr.cell? ⟨g, 0, none⟩ = some (.bool xs) ∧ wr.cell? ⟨g, 1, none⟩ = some (.slice xa xn xc) ∧ wr.cell? ⟨g, 2, none⟩ = some (.bool ys) ∧ wr.cell? ⟨g, 3, none⟩ = some (.slice ya yn yc)) ∧ (wr.cell? ⟨w.heap.size + 1 + os1.size, 0, none⟩ = some (.int .u64 f0) ∧ wr.cell? ⟨w.heap.size + 1 + os1.size, 1, none⟩ = some (.int .u64 f1) ∧ wr.cell? ⟨w.heap.size + 1 + os1.size, 2, none⟩ = some (.int .u64 f2) ∧ wr.cell? ⟨w.heap.size + 1 + os1.size, 3, none⟩ = some (.int .u64 f3)) ∧ (wr.cell? ⟨w.heap.size, 0, none⟩ = some (.int .u64 n0) ∧ wr.cell? ⟨w.heap.size, 1, none⟩ = some (.int .u64 n1) ∧ wr.cell? ⟨w.heap.size, 2, none⟩ = some (.int .u64 n2) ∧ wr.cell? ⟨w.heap.size, 3, none⟩ = some (.int .u64 n3) ∧ wr.cell? ⟨w.heap.size, 4, none⟩ = some (.int .u64 d0) ∧ wr.cell? ⟨w.heap.size, 5, none⟩ = some (.int .u64 d1) ∧ wr.cell? ⟨w.heap.size, 6, none⟩ = some (.int .u64 d2) ∧ wr.cell? ⟨w.heap.size, 7, none⟩ = some (.int .u64 d3)) ∧ IsBig wr (.agg #[.bool xs, .slice xa xn xc]) n ∧ IsBig wr (.agg #[.bool ys, .slice ya yn yc]) d ∧ IsGr w wr)
    case first =>
      go_wp2_with fail
      refine (CX _).mono ?_
      rintro e w1 ⟨xs, ys, xa, ya, xn, xc, yn, yc, rfl, hX, hY, os3, m3, rfl⟩
      go_wp2
      go_meet
      case rel =>
        refine ⟨_, xs, ys, xa, ya, xn, xc, yn, yc, rfl, ?_, ?_, ?_, ?_, ?_, hX.gr (by repeat (first | with_reducible exact IsGr.refl _ | (refine ⟨#[], m3, ?_⟩; (try simp only [Gr.of_drew]); (try simp only [Gr.gr]); (try simp only [Array.append_assoc]); (try simp only [Array.append_empty]); (try with_reducible rfl); done) | with_reducible refine IsGr.alloc ?_ _ | with_reducible refine IsGr.gr ?_ _ _ | with_reducible refine IsGr.drew ?_ | with_reducible refine IsGr.drewN ?_ _)), hY.gr (by repeat (first | with_reducible exact IsGr.refl _ | (refine ⟨#[], m3, ?_⟩; (try simp only [Gr.of_drew]); (try simp only [Gr.gr]); (try simp only [Array.append_assoc]); (try simp only [Array.append_empty]); (try with_reducible rfl); done) | with_reducible refine IsGr.alloc ?_ _ | with_reducible refine IsGr.gr ?_ _ _ | with_reducible refine IsGr.drew ?_ | with_reducible refine IsGr.drewN ?_ _)), (by with_reducible repeat (first | exact IsGr.refl _ | refine IsGr.gr ?_ _ _ | refine IsGr.alloc ?_ _ | refine IsGr.drew ?_ | refine IsGr.drewN ?_ _))⟩
        · simp [Gr.size]
        · simp [Gr.size]
          try omega
        · simp [go_sem]
        · simp [go_sem]
        · simp [go_sem]
    case rest =>
      obtain ⟨g5, xs, ys, xa, ya, xn, xc, yn, yc, rfl, k5, kf, ⟨b1, b2, b3, b4⟩, ⟨f1', f2', f3', f4'⟩, ⟨c1, c2, c3, c4, c5, c6, c7, c8⟩, hX, hY, hgr⟩ := hcut
      obtain ⟨W1, hW1⟩ : ∃ W1, W1 = wc := ⟨_, rfl⟩
      subst hW1
      have kw : w.heap.size < W1.heap.size := by omega
      have HG : Hid (IsGr w W1) := hgr
      have HX := fun w1 (hg : IsGr W1 w1) => hX.gr hg
      have HY := fun w1 (hg : IsGr W1 w1) => hY.gr hg
      clear hX hY hgr CX CR
      go_upto_region 5 with fail
      go_cut [6] (fun t6 wr => ∃ (g : Nat) (zs : Bool) (za : Option Addr) (zn zc : Nat), t6 = .pointer (some ⟨g, 0, none⟩) ∧ g < wr.heap.size ∧ (wr.cell? ⟨g, 0, none⟩ = some (.bool zs) ∧ wr.cell? ⟨g, 1, none⟩ = some (.slice za zn zc)) ∧ IsBig wr (.agg #[.bool zs, .slice za zn zc]) (Q * d) ∧ IsGr W1 wr)
      case first =>
        go_region_held3 (fun w' => (w'.cell? ⟨g5, 2, none⟩ = some (.bool ys) ∧ w'.cell? ⟨g5, 3, none⟩ = some (.slice ya yn yc)) ∧ (w'.cell? ⟨w.heap.size + 1 + os1.size, 0, none⟩ = some (.int .u64 f0) ∧ w'.cell? ⟨w.heap.size + 1 + os1.size, 1, none⟩ = some (.int .u64 f1) ∧ w'.cell? ⟨w.heap.size + 1 + os1.size, 2, none⟩ = some (.int .u64 f2) ∧ w'.cell? ⟨w.heap.size + 1 + os1.size, 3, none⟩ = some (.int .u64 f3))) (simp [go_sem, b3, b4, f1', f2', f3', f4', k5, kf])
          ((first | (go_at_call 18; refine (RF _).mono ?_; rintro e w1 ⟨u, rfl, hu, os4, m4, rfl⟩; obtain ⟨us, ua, un, uc, rfl⟩ := hu.shape) | (go_at_call 17; refine (BigMul_any _ _ Q d _ (hu.gr ?_) (HY _ ?_) sf sd).mono ?_; exact (by repeat (first | with_reducible exact IsGr.refl _ | (refine ⟨#[], m4, ?_⟩; (try simp only [Gr.of_drew]); (try simp only [Gr.gr]); (try simp only [Array.append_assoc]); (try simp only [Array.append_empty]); (try with_reducible rfl); done) | with_reducible refine IsGr.alloc ?_ _ | with_reducible refine IsGr.gr ?_ _ _ | with_reducible refine IsGr.drew ?_ | with_reducible refine IsGr.drewN ?_ _)); exact (by with_reducible repeat (first | exact IsGr.refl _ | refine IsGr.gr ?_ _ _ | refine IsGr.alloc ?_ _ | refine IsGr.drew ?_ | refine IsGr.drewN ?_ _)); rintro e w1 ⟨t, rfl, ht, os5, m5, rfl⟩; obtain ⟨ts, ta, tn, tc, rfl⟩ := ht.shape)))
        all_goals
          go_wp2
          go_meet
          case rel =>
            (try simp only [Gr.of_drew] at ht)
            (try simp only [Gr.gr] at ht)
            refine ⟨_, ts, ta, tn, tc, rfl, ?_, ?_, ht.kb ?_, (by with_reducible repeat (first | exact IsGr.refl _ | refine IsGr.gr ?_ _ _ | refine IsGr.alloc ?_ _ | refine IsGr.drew ?_ | refine IsGr.drewN ?_ _))⟩
            · simp [Gr.size]
              try omega
            · simp [go_sem]
            · with_reducible repeat (first | exact Kb.refl _ | refine Kb.gr ?_ (by first | (simp; done) | simp [Gr.size]) _ _ _ | refine Kb.gr_app ?_ (by first | (simp; done) | simp [Gr.size]) _ _ _ _ | refine Kb.box ?_ (by first | (simp; done) | simp [Gr.size]) _ _ _ _ _ _ _ _ _ | refine Kb.alloc ?_ (by first | (simp; done) | simp [Gr.size]) _ | refine Kb.drew_l ?_ | refine Kb.drew_r ?_ | refine Kb.lay ?_ _ | refine Kb.grow ?_ _ _)
      case rest =>
        obtain ⟨g6, zs, za, zn, zc, rfl, k6, ⟨p1, p2⟩, hZ, hg2⟩ := hcut
        obtain ⟨W2, hW2⟩ : ∃ W2, W2 = wc := ⟨_, rfl⟩
        subst hW2
        replace b1 := hg2.cell_eq k5 b1
        replace b2 := hg2.cell_eq k5 b2
        replace b3 := hg2.cell_eq k5 b3
        replace b4 := hg2.cell_eq k5 b4
        replace c1 := hg2.cell_eq kw c1
        replace c2 := hg2.cell_eq kw c2
        replace c3 := hg2.cell_eq kw c3
        replace c4 := hg2.cell_eq kw c4
        replace c5 := hg2.cell_eq kw c5
        replace c6 := hg2.cell_eq kw c6
        replace c7 := hg2.cell_eq kw c7
        replace c8 := hg2.cell_eq kw c8
        replace k5 : g5 < W2.heap.size := Nat.lt_of_lt_of_le k5 hg2.size
        replace kw : w.heap.size < W2.heap.size := Nat.lt_of_lt_of_le kw hg2.size
        replace HG : Hid (IsGr w W2) := HG.out.trans hg2
        replace HX := fun w1 (hg : IsGr W2 w1) => HX w1 (hg2.trans hg)
        replace HY := fun w1 (hg : IsGr W2 w1) => HY w1 (hg2.trans hg)
        have HZ := fun w1 (hg : IsGr W2 w1) => hZ.gr hg
        clear hZ hg2 f1' f2' f3' f4' kf RF
        go_upto_region 6 with fail
        go_cut [7] (fun t7 wr => ∃ (g : Nat) (vs : Bool) (va : Option Addr) (vn vc : Nat), t7 = .pointer (some ⟨g, 0, none⟩) ∧ g < wr.heap.size ∧ (wr.cell? ⟨g, 0, none⟩ = some (.bool vs) ∧ wr.cell? ⟨g, 1, none⟩ = some (.slice va vn vc)) ∧ IsBig wr (.agg #[.bool vs, .slice va vn vc]) (Q * d + d) ∧ IsGr W2 wr)
        case first =>
          go_wp2_with fail
          refine (BigAdd_any _ _ (Q * d) d _ (HZ _ ?_) (HY _ ?_) sp sd).mono ?_
          exact (by with_reducible repeat (first | exact IsGr.refl _ | refine IsGr.gr ?_ _ _ | refine IsGr.alloc ?_ _ | refine IsGr.drew ?_ | refine IsGr.drewN ?_ _))
          exact (by with_reducible repeat (first | exact IsGr.refl _ | refine IsGr.gr ?_ _ _ | refine IsGr.alloc ?_ _ | refine IsGr.drew ?_ | refine IsGr.drewN ?_ _))
          rintro e w1 ⟨t, rfl, ht, os6, m6, rfl⟩
          obtain ⟨ts, ta, tn, tc, rfl⟩ := ht.shape
          go_wp2
          go_meet
          case rel =>
            refine ⟨_, ts, ta, tn, tc, rfl, ?_, ?_, ht.gr (by repeat (first | with_reducible exact IsGr.refl _ | (refine ⟨#[], m6, ?_⟩; (try simp only [Gr.of_drew]); (try simp only [Gr.gr]); (try simp only [Array.append_assoc]); (try simp only [Array.append_empty]); (try with_reducible rfl); done) | with_reducible refine IsGr.alloc ?_ _ | with_reducible refine IsGr.gr ?_ _ _ | with_reducible refine IsGr.drew ?_ | with_reducible refine IsGr.drewN ?_ _)), (by with_reducible repeat (first | exact IsGr.refl _ | refine IsGr.gr ?_ _ _ | refine IsGr.alloc ?_ _ | refine IsGr.drew ?_ | refine IsGr.drewN ?_ _))⟩
            · simp [Gr.size]
            · simp [go_sem]
        case rest =>
          obtain ⟨g7, vs, va, vn, vc, rfl, k7, ⟨q1, q2⟩, hV, hg3⟩ := hcut
          obtain ⟨W3, hW3⟩ : ∃ W3, W3 = wc := ⟨_, rfl⟩
          subst hW3
          replace b1 := hg3.cell_eq k5 b1
          replace b2 := hg3.cell_eq k5 b2
          replace p1 := hg3.cell_eq k6 p1
          replace p2 := hg3.cell_eq k6 p2
          replace c1 := hg3.cell_eq kw c1
          replace c2 := hg3.cell_eq kw c2
          replace c3 := hg3.cell_eq kw c3
          replace c4 := hg3.cell_eq kw c4
          replace c5 := hg3.cell_eq kw c5
          replace c6 := hg3.cell_eq kw c6
          replace c7 := hg3.cell_eq kw c7
          replace c8 := hg3.cell_eq kw c8
          replace k5 : g5 < W3.heap.size := Nat.lt_of_lt_of_le k5 hg3.size
          replace k6 : g6 < W3.heap.size := Nat.lt_of_lt_of_le k6 hg3.size
          replace kw : w.heap.size < W3.heap.size := Nat.lt_of_lt_of_le kw hg3.size
          replace HG : Hid (IsGr w W3) := HG.out.trans hg3
          replace HX := fun w1 (hg : IsGr W3 w1) => HX w1 (hg3.trans hg)
          replace HZ := fun w1 (hg : IsGr W3 w1) => HZ w1 (hg3.trans hg)
          have HV := fun w1 (hg : IsGr W3 w1) => hV.gr hg
          have BZ := fun w1 (hg : IsGr W3 w1) => BigCmp_any _ _ (Q * d) n w1 (HZ w1 hg) (HX w1 hg) sp sn
          have BV := fun w1 (hg : IsGr W3 w1) => BigCmp_any _ _ (Q * d + d) n w1 (HV w1 hg) (HX w1 hg) sq sn
          rw [cmpI_gt (by have := HQ.out; omega)] at BV
          obtain ⟨K, hK, hK2, hK3⟩ : ∃ K, cmpI (Q * d) n = K ∧ K ≤ 0 ∧ (K == 0) = B := by
            have := HQ.out
            refine ⟨_, rfl, ?_, ?_⟩
            · unfold cmpI
              repeat' split
              all_goals omega
            · rw [← this.2.2.2]
              unfold cmpI
              repeat' split
              all_goals simp
              all_goals omega
          rw [hK] at BZ
          have hBB : (B == B) = true := by simp
          have tok1 : True := trivial
          clear hK hV hg3 HQ HX HZ HV HY b3 b4
          go_upto_region 7 with fail
          go_region_held3 (fun w' => (w'.cell? ⟨g5, 0, none⟩ = some (.bool xs) ∧ w'.cell? ⟨g5, 1, none⟩ = some (.slice xa xn xc)) ∧ (w'.cell? ⟨g6, 0, none⟩ = some (.bool zs) ∧ w'.cell? ⟨g6, 1, none⟩ = some (.slice za zn zc)) ∧ (w'.cell? ⟨g7, 0, none⟩ = some (.bool vs) ∧ w'.cell? ⟨g7, 1, none⟩ = some (.slice va vn vc)) ∧ (w'.cell? ⟨w.heap.size, 0, none⟩ = some (.int .u64 n0) ∧ w'.cell? ⟨w.heap.size, 1, none⟩ = some (.int .u64 n1) ∧ w'.cell? ⟨w.heap.size, 2, none⟩ = some (.int .u64 n2) ∧ w'.cell? ⟨w.heap.size, 3, none⟩ = some (.int .u64 n3) ∧ w'.cell? ⟨w.heap.size, 4, none⟩ = some (.int .u64 d0) ∧ w'.cell? ⟨w.heap.size, 5, none⟩ = some (.int .u64 d1) ∧ w'.cell? ⟨w.heap.size, 6, none⟩ = some (.int .u64 d2) ∧ w'.cell? ⟨w.heap.size, 7, none⟩ = some (.int .u64 d3))) (simp [go_sem, b1, b2, p1, p2, q1, q2, c1, c2, c3, c4, c5, c6, c7, c8, k5, k6, k7, kw])
            ((first | (go_at_call_of 22 (Value.slice va vn vc); refine (BV _ ?_).mono ?_; exact (by with_reducible repeat (first | exact IsGr.refl _ | refine IsGr.gr ?_ _ _ | refine IsGr.alloc ?_ _ | refine IsGr.drew ?_ | refine IsGr.drewN ?_ _)); rintro e w1 ⟨rfl, os8, m8, rfl⟩) | (go_at_call 22; have _t := tok1; refine (BZ _ ?_).mono ?_; exact (by with_reducible repeat (first | exact IsGr.refl _ | refine IsGr.gr ?_ _ _ | refine IsGr.alloc ?_ _ | refine IsGr.drew ?_ | refine IsGr.drewN ?_ _)); rintro e w1 ⟨rfl, os7, m7, rfl⟩; clear tok1) | (go_at_call 49; refine (CW _).mono ?_; rintro e w1 ⟨rfl, os9, m9, rfl⟩) | (go_at_call 22; refine (BZ _ ?_).mono ?_; exact (by with_reducible repeat (first | exact IsGr.refl _ | refine IsGr.gr ?_ _ _ | refine IsGr.alloc ?_ _ | refine IsGr.drew ?_ | refine IsGr.drewN ?_ _)); rintro e w1 ⟨rfl, os10, m10, rfl⟩) | (go_at_call 40; refine (CA _).mono ?_; rintro e w1 ⟨rfl, os11, m11, rfl⟩)))
          all_goals
            go_wp2
            go_ret
            exact ⟨rfl, HG.out.trans (by with_reducible repeat (first | exact IsGr.refl _ | refine IsGr.gr ?_ _ _ | refine IsGr.alloc ?_ _ | refine IsGr.drew ?_ | refine IsGr.drewN ?_ _))⟩
  · have h0 : decide (0 < d) = false := by simp; omega
    rw [h0] at CR CW
    rw [Bool.false_and] at CW
    have HD : Hid (¬ 0 < d) := h
    have heI := fun w => eqI_t Is.zero Is.zero rfl w
    clear h h0 hn hd
    go_enter Try.func12, Try.ntmps12
    go_wp2_with fail
    refine (CF _).mono ?_
    rintro e w1 ⟨f0, f1, f2, f3, ok, rfl, hF, os1, m1, rfl⟩
    obtain ⟨rfl, rfl, rfl, rfl, rfl⟩ := hF.2 (by have := HD.out; omega)
    clear hF CF
    go_wp2_with fail
    refine (CR _).mono ?_
    rintro e w1 ⟨rfl, os2, m2, rfl⟩
    go_wp2_with fail
    refine (CW _).mono ?_
    rintro e w1 ⟨rfl, os3, m3, rfl⟩
    go_wp2_with fail
    refine (CA _).mono ?_
    rintro e w1 ⟨rfl, os4, m4, rfl⟩
    go_wp2
    go_ret
    exact ⟨rfl, (by with_reducible repeat (first | exact IsGr.refl _ | refine IsGr.gr ?_ _ _ | refine IsGr.alloc ?_ _ | refine IsGr.drew ?_ | refine IsGr.drewN ?_ _))⟩
end Go.Proofs.Ytjgkmhgaacallaa
