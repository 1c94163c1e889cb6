/- gromalaw02.RatioReduces: for every fraction and every Int the law answers true. -/
import Derived.Test.YtjgkmhgaacallaaT4
import Derived.Test.YtjgkmhgaacallaaT5
import Derived.Test.YtjgkmhgaacallaaT6
import Derived.Test.YtjgkmhgaacallaaL5
import Derived.Test.YtjgkmhgaacallaaL4
namespace Go.Proofs.Ytjgkmhgaacallaa
open Go.RowKit Go.Shelf
attribute [local go_sem] Gr.size Gr.cell? Gr.frozen? Gr.setCell Gr.drew Gr.drewN Gr.of_drew Gr.of_drewN Gr.gr Gr.lt_of1 Gr.le_of1 Gr.lt_of2 Gr.le_of2 Gr.lt_of3 Gr.le_of3 Gr.lt_of4 Gr.le_of4 Gr.lt_of5 Gr.le_of5 Gr.lt_of6 Gr.le_of6 Gr.lt_of7 Gr.le_of7 Gr.lt_of8 Gr.le_of8 Gr.lt_of9 Gr.le_of9 Gr.lt_of10 Gr.le_of10 Gr.lt_of11 Gr.le_of11 Gr.lt_of12 Gr.le_of12 Gr.lt_of13 Gr.le_of13 Gr.lt_of14 Gr.le_of14 Gr.lt_of15 Gr.le_of15 Gr.lt_of16 Gr.le_of16 Gr.lt_of17 Gr.le_of17 Gr.lt_of18 Gr.le_of18 Gr.lt_of19 Gr.le_of19 Gr.lt_of20 Gr.le_of20 Gr.lt_of21 Gr.le_of21 Gr.lt_of22 Gr.le_of22 Gr.lt_of23 Gr.le_of23 Gr.lt_of24 Gr.le_of24

/-- What reducing does to a fraction. -/
theorem red_facts (n d : Int) (hd : 0 < d) : ∃ N D : Int, n.fdiv (gcdI (abs n) (abs d)) = N ∧ d.fdiv (gcdI (abs n) (abs d)) = D ∧ 0 < D ∧ n * D = N * d ∧ gcdI (abs N) (abs D) = 1 := by
  have hg := gcdI_pos (n := n) hd
  have d1 : gcdI (abs n) (abs d) ∣ n := by rw [gcdI_eq]; exact Int.gcd_dvd_left n d
  have d2 : gcdI (abs n) (abs d) ∣ d := by rw [gcdI_eq]; exact Int.gcd_dvd_right n d
  refine ⟨_, _, rfl, rfl, ?_⟩
  have hG := gcdI_eq n d
  generalize hGG : gcdI (abs n) (abs d) = G at *
  obtain ⟨N, hN⟩ := d1
  obtain ⟨D, hD⟩ := d2
  have e1 : n.fdiv G = N := by rw [hN, Int.fdiv_eq_ediv_of_nonneg _ (by omega), Int.mul_ediv_cancel_left _ (by omega)]
  have e2 : d.fdiv G = D := by rw [hD, Int.fdiv_eq_ediv_of_nonneg _ (by omega), Int.mul_ediv_cancel_left _ (by omega)]
  rw [e1, e2]
  have hD0 : 0 < D := by
    rcases Int.lt_or_le 0 D with h | h
    · exact h
    · have := Int.mul_le_mul_of_nonneg_left h (show 0 ≤ G by omega); omega
  refine ⟨hD0, by rw [hN, hD, Int.mul_assoc, Int.mul_left_comm], ?_⟩
  rw [gcdI_eq]
  have h3 : (Int.gcd n d : Int) = G * (Int.gcd N D : Int) := by
    rw [hN, hD, Int.gcd_mul_left]
    have : ((G.natAbs : Nat) : Int) = G := by omega
    rw [Int.natCast_mul, this]
  rw [← hG] at h3
  have h4 : G * ((Int.gcd N D : Int) - 1) = 0 := by rw [Int.mul_sub]; omega
  rcases Int.mul_eq_zero.1 h4 with h | h <;> omega

theorem dvd_one_of {x y z : Int} (h : gcdI (abs x) (abs y) = 1) (h1 : x.fmod z = 0) (h2 : y.fmod z = 0) : z = 1 ∨ z = -1 := by
  have h3 : z ∣ (Int.gcd x y : Int) := Int.dvd_coe_gcd (Int.dvd_of_fmod_eq_zero h1) (Int.dvd_of_fmod_eq_zero h2)
  rw [gcdI_eq] at h
  rw [h] at h3
  have h4 := Int.natAbs_dvd_natAbs.2 h3
  have h5 : z.natAbs = 1 := Nat.dvd_one.1 h4
  omega
theorem not_both_even {x y : Int} (h : gcdI (abs x) (abs y) = 1) : ¬ (x % 2 = 0 ∧ y % 2 = 0) := by
  rintro ⟨h1, h2⟩
  have h3 : (2 : Int) ∣ (Int.gcd x y : Int) := Int.dvd_coe_gcd (Int.dvd_of_emod_eq_zero h1) (Int.dvd_of_emod_eq_zero h2)
  rw [gcdI_eq] at h
  rw [h] at h3
  omega
theorem fdiv_one (x : Int) : x.fdiv 1 = x := by rw [Int.fdiv_eq_ediv_of_nonneg _ (by decide)]; simp


set_option maxRecDepth 20000 in set_option maxHeartbeats 8000000 in
theorem law_reduces (n0 n1 n2 n3 n d0 d1 d2 d3 d y0 y1 y2 y3 y : Int) (hn : IsI n0 n1 n2 n3 n) (hd : IsI d0 d1 d2 d3 d) (hy : IsI y0 y1 y2 y3 y) (w : World) :
    Calls Try.prog 13 #[.agg #[.int .u64 n0, .int .u64 n1, .int .u64 n2, .int .u64 n3, .int .u64 d0, .int .u64 d1, .int .u64 d2, .int .u64 d3], .agg #[.int .u64 y0, .int .u64 y1, .int .u64 y2, .int .u64 y3]] w fun e w' => e = .returned (.bool true) ∧ IsGr w w' := by
  have CA := fun w => awake2_any w
  have CE := fun w => Reduced_any n0 n1 n2 n3 n d0 d1 d2 d3 d hn hd w
  have CR := fun w => right_any n0 n1 n2 n3 d0 d1 d2 d3 d hd w
  by_cases h : 0 < d
  · rw [show decide (0 < d) = true by simp [h]] at CR
    obtain ⟨N, D, eN, eD, hD0, hcr, hg1⟩ := red_facts n d h
    have CX := fun w => ref_any n0 n1 n2 n3 n d0 d1 d2 d3 d hn hd w
    have CY := fun w => Small_any y0 y1 y2 y3 y hy w
    have sn : Sm n := by have := hn.2; unfold Sm; omega
    have sd : Sm d := by have := hd.2; unfold Sm; omega
    have HD : Hid (0 < d) := h
    have HRn : Hid ((-57896044618658097711785492504343953926634992332820282019728792003956564819968 ≤ n ∧ n < 57896044618658097711785492504343953926634992332820282019728792003956564819968) ∧ (-57896044618658097711785492504343953926634992332820282019728792003956564819968 ≤ d ∧ d < 57896044618658097711785492504343953926634992332820282019728792003956564819968)) := ⟨hn.2, hd.2⟩
    have HF : Hid (0 < D ∧ n * D = N * d ∧ gcdI (abs N) (abs D) = 1) := ⟨hD0, hcr, hg1⟩
    clear h hD0 hcr hg1 hn hd
    go_enter Try.func13, Try.ntmps13
    go_wp2_with fail
    refine (CE _).mono ?_
    rintro e w1 ⟨p0, p1, p2, p3, q0, q1, q2, q3, ok, rfl, hE, os1, m1, rfl⟩
    obtain ⟨rfl, hp, hq⟩ := hE.1 HD.out
    rw [eN] at hp
    rw [eD] at hq
    clear hE CE eN eD
    have CR2 := fun w => right_any p0 p1 p2 p3 q0 q1 q2 q3 D hq w
    rw [show decide (0 < D) = true by simp [HF.out.1]] at CR2
    have CX2 := fun w => ref_any p0 p1 p2 p3 N q0 q1 q2 q3 D hp hq w
    have CE2 := fun w => Reduced_any p0 p1 p2 p3 N q0 q1 q2 q3 D hp hq w
    have sN : Sm N := by have := hp.2; unfold Sm; omega
    have sD : Sm D := by have := hq.2; unfold Sm; omega
    have s1 : Sm (n * D) := prod_sm HRn.out.1 hq.2
    have s2 : Sm (N * d) := prod_sm hp.2 HRn.out.2
    have eC : cmpI (n * D) (N * d) = 0 := cmpI_eq HF.out.2.1
    have tok1 : True := trivial
    go_wp2_with fail
    refine (CR _).mono ?_
    rintro e w1 ⟨rfl, os2, m2, rfl⟩
    go_upto_region 4 with fail
    go_cut [51] (fun t51 wr => t51 = .bool false ∧ w.heap.size + 1 + 1 + os1.size < wr.heap.size ∧ (wr.cell? ⟨w.heap.size + 1 + 1 + os1.size, 0, none⟩ = some (.int .u64 p0) ∧ wr.cell? ⟨w.heap.size + 1 + 1 + os1.size, 1, none⟩ = some (.int .u64 p1) ∧ wr.cell? ⟨w.heap.size + 1 + 1 + os1.size, 2, none⟩ = some (.int .u64 p2) ∧ wr.cell? ⟨w.heap.size + 1 + 1 + os1.size, 3, none⟩ = some (.int .u64 p3) ∧ wr.cell? ⟨w.heap.size + 1 + 1 + os1.size, 4, none⟩ = some (.int .u64 q0) ∧ wr.cell? ⟨w.heap.size + 1 + 1 + os1.size, 5, none⟩ = some (.int .u64 q1) ∧ wr.cell? ⟨w.heap.size + 1 + 1 + os1.size, 6, none⟩ = some (.int .u64 q2) ∧ wr.cell? ⟨w.heap.size + 1 + 1 + os1.size, 7, none⟩ = some (.int .u64 q3)) ∧ (wr.cell? ⟨w.heap.size + 1, 0, none⟩ = some (.int .u64 y0) ∧ wr.cell? ⟨w.heap.size + 1, 1, none⟩ = some (.int .u64 y1) ∧ wr.cell? ⟨w.heap.size + 1, 2, none⟩ = some (.int .u64 y2) ∧ wr.cell? ⟨w.heap.size + 1, 3, none⟩ = some (.int .u64 y3)) ∧ IsGr w wr)
    case first =>
      go_region_held3 (fun w' => (w'.cell? ⟨w.heap.size, 0, none⟩ = some (.int .u64 n0) ∧ w'.cell? ⟨w.heap.size, 1, none⟩ = some (.int .u64 n1) ∧ w'.cell? ⟨w.heap.size, 2, none⟩ = some (.int .u64 n2) ∧ w'.cell? ⟨w.heap.size, 3, none⟩ = some (.int .u64 n3) ∧ w'.cell? ⟨w.heap.size, 4, none⟩ = some (.int .u64 d0) ∧ w'.cell? ⟨w.heap.size, 5, none⟩ = some (.int .u64 d1) ∧ w'.cell? ⟨w.heap.size, 6, none⟩ = some (.int .u64 d2) ∧ w'.cell? ⟨w.heap.size, 7, none⟩ = some (.int .u64 d3)) ∧ (w'.cell? ⟨w.heap.size + 1 + 1 + os1.size, 0, none⟩ = some (.int .u64 p0) ∧ w'.cell? ⟨w.heap.size + 1 + 1 + os1.size, 1, none⟩ = some (.int .u64 p1) ∧ w'.cell? ⟨w.heap.size + 1 + 1 + os1.size, 2, none⟩ = some (.int .u64 p2) ∧ w'.cell? ⟨w.heap.size + 1 + 1 + os1.size, 3, none⟩ = some (.int .u64 p3) ∧ w'.cell? ⟨w.heap.size + 1 + 1 + os1.size, 4, none⟩ = some (.int .u64 q0) ∧ w'.cell? ⟨w.heap.size + 1 + 1 + os1.size, 5, none⟩ = some (.int .u64 q1) ∧ w'.cell? ⟨w.heap.size + 1 + 1 + os1.size, 6, none⟩ = some (.int .u64 q2) ∧ w'.cell? ⟨w.heap.size + 1 + 1 + os1.size, 7, none⟩ = some (.int .u64 q3))) (simp [go_sem])
        ((first | (go_at_call 43; refine (CR2 _).mono ?_; rintro e w1 ⟨rfl, os3, m3, rfl⟩) | (go_at_call 46; have _t := tok1; refine (CX _).mono ?_; rintro e w1 ⟨xs, ys, xa, ya, xn, xc, yn, yc, rfl, hX, hY, os4, m4, rfl⟩; clear tok1) | (go_at_call 46; refine (CX2 _).mono ?_; rintro e w1 ⟨us, vs, ua, va, un, uc, vn, vc, rfl, hU, hV, os5, m5, rfl⟩) | (go_at_call 47; refine (RefCmp_any _ _ _ _ _ _ _ _ _ _ _ _ _ _ _ _ n d N D _ (hX.gr ?_) (hY.gr ?_) (hU.gr ?_) (hV.gr ?_) sn sd sN sD s1 s2).mono ?_; exact (by repeat (first | with_reducible exact IsGr.refl _ | (refine ⟨os5, m5, ?_⟩; (try simp only [Gr.of_drew]); (try simp only [Gr.gr]); (try simp only [Array.append_assoc]); (try simp only [Array.append_empty]); (try with_reducible rfl); done) | with_reducible refine IsGr.alloc ?_ _ | with_reducible refine IsGr.gr ?_ _ _ | with_reducible refine IsGr.drew ?_ | with_reducible refine IsGr.drewN ?_ _)); exact (by repeat (first | with_reducible exact IsGr.refl _ | (refine ⟨os5, m5, ?_⟩; (try simp only [Gr.of_drew]); (try simp only [Gr.gr]); (try simp only [Array.append_assoc]); (try simp only [Array.append_empty]); (try with_reducible rfl); done) | with_reducible refine IsGr.alloc ?_ _ | with_reducible refine IsGr.gr ?_ _ _ | with_reducible refine IsGr.drew ?_ | with_reducible refine IsGr.drewN ?_ _)); exact (by repeat (first | with_reducible exact IsGr.refl _ | (refine ⟨#[], m5, ?_⟩; (try simp only [Gr.of_drew]); (try simp only [Gr.gr]); (try simp only [Array.append_assoc]); (try simp only [Array.append_empty]); (try with_reducible rfl); done) | with_reducible refine IsGr.alloc ?_ _ | with_reducible refine IsGr.gr ?_ _ _ | with_reducible refine IsGr.drew ?_ | with_reducible refine IsGr.drewN ?_ _)); exact (by repeat (first | with_reducible exact IsGr.refl _ | (refine ⟨#[], m5, ?_⟩; (try simp only [Gr.of_drew]); (try simp only [Gr.gr]); (try simp only [Array.append_assoc]); (try simp only [Array.append_empty]); (try with_reducible rfl); done) | with_reducible refine IsGr.alloc ?_ _ | with_reducible refine IsGr.gr ?_ _ _ | with_reducible refine IsGr.drew ?_ | with_reducible refine IsGr.drewN ?_ _)); rw [eC]; rintro e w1 ⟨rfl, os6, m6, rfl⟩)))
      all_goals
        go_wp2
        go_meet
        case rel =>
          refine ⟨rfl, ?_, ?_, ?_, (by with_reducible repeat (first | exact IsGr.refl _ | refine IsGr.gr ?_ _ _ | refine IsGr.alloc ?_ _ | refine IsGr.drew ?_ | refine IsGr.drewN ?_ _))⟩
          · simp [Gr.size]
            try omega
          · simp [go_sem]
          · simp [go_sem]
    case rest =>
      obtain ⟨rfl, k5, ⟨b1, b2, b3, b4, b5, b6, b7, b8⟩, ⟨i1, i2, i3, i4⟩, hgr⟩ := hcut
      obtain ⟨W1, hW1⟩ : ∃ W1, W1 = wc := ⟨_, rfl⟩
      subst hW1
      have ky : w.heap.size + 1 < W1.heap.size := by omega
      have kw : w.heap.size < W1.heap.size := by omega
      have HG : Hid (IsGr w W1) := hgr
      clear hgr CX CR CR2 eC s1 s2
      go_wp2_with fail
      refine (CX2 _).mono ?_
      rintro e w1 ⟨us, vs, ua, va, un, uc, vn, vc, rfl, hU, hV, os7, m7, rfl⟩
      have H1 := fun w1 v (h : IsBig w1 v N) => Halves_any v N w1 h sN
      have H2 := fun w1 v (h : IsBig w1 v D) => Halves_any v D w1 h sD
      have hnb := not_both_even HF.out.2.2
      obtain ⟨x1, hx1⟩ : ∃ b, decide (N % 2 = 0) = b := ⟨_, rfl⟩
      obtain ⟨x2, hx2⟩ : ∃ b, decide (D % 2 = 0) = b := ⟨_, rfl⟩
      rw [hx1] at H1
      rw [hx2] at H2
      have hxx : x1 = true → x2 = false := by
        intro e
        rw [← hx1] at e
        rw [← hx2]
        simp only [decide_eq_true_iff] at e
        rw [decide_eq_false_iff_not]
        exact fun e2 => hnb ⟨e, e2⟩
      clear hnb hx1 hx2
      go_upto_region 7 with fail
      go_cut [61] (fun t61 wr => t61 = .bool false ∧ IsGr W1 wr)
      case first =>
        cases x1 with
        | false =>
          go_wp2_with fail
          refine (H1 _ _ (hU.gr ?_)).mono ?_
          exact (by repeat (first | with_reducible exact IsGr.refl _ | (refine ⟨#[], m7, ?_⟩; (try simp only [Gr.of_drew]); (try simp only [Gr.gr]); (try simp only [Array.append_assoc]); (try simp only [Array.append_empty]); (try with_reducible rfl); done) | with_reducible refine IsGr.alloc ?_ _ | with_reducible refine IsGr.gr ?_ _ _ | with_reducible refine IsGr.drew ?_ | with_reducible refine IsGr.drewN ?_ _))
          rintro e w1 ⟨rfl, os8, m8, rfl⟩
          go_wp2
          go_meet
          case rel => exact ⟨rfl, (by with_reducible repeat (first | exact IsGr.refl _ | refine IsGr.gr ?_ _ _ | refine IsGr.alloc ?_ _ | refine IsGr.drew ?_ | refine IsGr.drewN ?_ _))⟩
        | true =>
          obtain rfl := hxx rfl
          go_wp2_with fail
          refine (H1 _ _ (hU.gr ?_)).mono ?_
          exact (by repeat (first | with_reducible exact IsGr.refl _ | (refine ⟨#[], m7, ?_⟩; (try simp only [Gr.of_drew]); (try simp only [Gr.gr]); (try simp only [Array.append_assoc]); (try simp only [Array.append_empty]); (try with_reducible rfl); done) | with_reducible refine IsGr.alloc ?_ _ | with_reducible refine IsGr.gr ?_ _ _ | with_reducible refine IsGr.drew ?_ | with_reducible refine IsGr.drewN ?_ _))
          rintro e w1 ⟨rfl, os8, m8, rfl⟩
          go_wp2_with fail
          refine (H2 _ _ (hV.gr ?_)).mono ?_
          exact (by repeat (first | with_reducible exact IsGr.refl _ | (refine ⟨#[], m7, ?_⟩; (try simp only [Gr.of_drew]); (try simp only [Gr.gr]); (try simp only [Array.append_assoc]); (try simp only [Array.append_empty]); (try with_reducible rfl); done) | with_reducible refine IsGr.alloc ?_ _ | with_reducible refine IsGr.gr ?_ _ _ | with_reducible refine IsGr.drew ?_ | with_reducible refine IsGr.drewN ?_ _))
          rintro e w1 ⟨rfl, os9, m9, rfl⟩
          go_wp2
          go_meet
          case rel => exact ⟨rfl, (by with_reducible repeat (first | exact IsGr.refl _ | refine IsGr.gr ?_ _ _ | refine IsGr.alloc ?_ _ | refine IsGr.drew ?_ | refine IsGr.drewN ?_ _))⟩
      case rest =>
        obtain ⟨rfl, hg2⟩ := hcut
        obtain ⟨W2, hW2⟩ : ∃ W2, W2 = wc := ⟨_, rfl⟩
        subst hW2
        replace b1 := hg2.cell_eq k5 b1
        replace b2 := hg2.cell_eq k5 b2
        replace b3 := hg2.cell_eq k5 b3
        replace b4 := hg2.cell_eq k5 b4
        replace b5 := hg2.cell_eq k5 b5
        replace b6 := hg2.cell_eq k5 b6
        replace b7 := hg2.cell_eq k5 b7
        replace b8 := hg2.cell_eq k5 b8
        replace i1 := hg2.cell_eq ky i1
        replace i2 := hg2.cell_eq ky i2
        replace i3 := hg2.cell_eq ky i3
        replace i4 := hg2.cell_eq ky i4
        replace k5 : w.heap.size + 1 + 1 + os1.size < W2.heap.size := Nat.lt_of_lt_of_le k5 hg2.size
        replace ky : w.heap.size + 1 < W2.heap.size := Nat.lt_of_lt_of_le ky hg2.size
        replace kw : w.heap.size < W2.heap.size := Nat.lt_of_lt_of_le kw hg2.size
        have HG2 : Hid (IsGr w W2) := HG.out.trans hg2
        clear hg2 HG hU hV H1 H2 hxx
        go_wp2_with fail
        refine (CE2 _).mono ?_
        rintro e w1 ⟨r0, r1, r2, r3, t0, t1, t2, t3, ok, rfl, hE, os10, m10, rfl⟩
        obtain ⟨rfl, hr, ht⟩ := hE.1 HF.out.1
        rw [HF.out.2.2, fdiv_one] at hr ht
        have heR := fun w => eqR_t hr.1 ht.1 hp.1 hq.1 rfl rfl w
        have D1 := fun w => Div_all p0 p1 p2 p3 N y0 y1 y2 y3 y hp hy w
        have D2 := fun w => Div_all q0 q1 q2 q3 D y0 y1 y2 y3 y hq hy w
        clear hE CE2 hr ht
        go_wp2_with fail
        refine (D1 _).mono ?_
        rintro e w1 ⟨a0, a1, a2, a3, f0, f1, f2, f3, ok1, rfl, hA, os11, m11, rfl⟩
        go_wp2_with fail
        refine (D2 _).mono ?_
        rintro e w1 ⟨c0, c1, c2, c3, g0, g1, g2, g3, ok2, rfl, hB, os12, m12, rfl⟩
        go_wp2_with fail
        refine (CY _).mono ?_
        rintro e w1 ⟨k, sml, rfl, hS, os13, m13, rfl⟩
        clear D1 D2 CY
        rcases hA with ⟨rfl, hy0, -, hf⟩ | ⟨rfl, -⟩
        · rcases hB with ⟨rfl, -, -, hg⟩ | ⟨rfl, -⟩
          · by_cases e1 : N.fmod y = 0
            · have he1 : ∀ w, (Op.equalIn 10000 24 (.agg #[.int .u64 f0, .int .u64 f1, .int .u64 f2, .int .u64 f3]) (.agg #[.int .u64 0, .int .u64 0, .int .u64 0, .int .u64 0])).run Try.prog w = .ok true w := fun w => eqI_t hf.1 Is.zero (by rw [e1]; rfl) w
              by_cases e2 : D.fmod y = 0
              · have he2 : ∀ w, (Op.equalIn 10000 24 (.agg #[.int .u64 g0, .int .u64 g1, .int .u64 g2, .int .u64 g3]) (.agg #[.int .u64 0, .int .u64 0, .int .u64 0, .int .u64 0])).run Try.prog w = .ok true w := fun w => eqI_t hg.1 Is.zero (by rw [e2]; rfl) w
                have hy1 := dvd_one_of HF.out.2.2 e1 e2
                obtain ⟨rfl, rfl⟩ := small_of hS (by omega)
                clear hf hg hS e1 e2
                rcases hy1 with rfl | rfl
                · skip
                  go_wp2_with fail
                  refine (CA _).mono ?_
                  rintro e w1 ⟨rfl, osa, na, rfl⟩
                  go_wp2
                  go_ret
                  exact ⟨rfl, HG2.out.trans (by with_reducible repeat (first | exact IsGr.refl _ | refine IsGr.gr ?_ _ _ | refine IsGr.alloc ?_ _ | refine IsGr.drew ?_ | refine IsGr.drewN ?_ _))⟩
                · skip
                  go_wp2_with fail
                  refine (CA _).mono ?_
                  rintro e w1 ⟨rfl, osa, na, rfl⟩
                  go_wp2
                  go_ret
                  exact ⟨rfl, HG2.out.trans (by with_reducible repeat (first | exact IsGr.refl _ | refine IsGr.gr ?_ _ _ | refine IsGr.alloc ?_ _ | refine IsGr.drew ?_ | refine IsGr.drewN ?_ _))⟩
              · have he2 : ∀ w, (Op.equalIn 10000 24 (.agg #[.int .u64 g0, .int .u64 g1, .int .u64 g2, .int .u64 g3]) (.agg #[.int .u64 0, .int .u64 0, .int .u64 0, .int .u64 0])).run Try.prog w = .ok false w := fun w => eqI_f hg.1 Is.zero (by have := hg.2; omega) w
                clear hf hg hS e1 e2
                go_wp2_with fail
                refine (CA _).mono ?_
                rintro e w1 ⟨rfl, osa, na, rfl⟩
                go_wp2
                go_ret
                exact ⟨rfl, HG2.out.trans (by with_reducible repeat (first | exact IsGr.refl _ | refine IsGr.gr ?_ _ _ | refine IsGr.alloc ?_ _ | refine IsGr.drew ?_ | refine IsGr.drewN ?_ _))⟩
            · have he1 : ∀ w, (Op.equalIn 10000 24 (.agg #[.int .u64 f0, .int .u64 f1, .int .u64 f2, .int .u64 f3]) (.agg #[.int .u64 0, .int .u64 0, .int .u64 0, .int .u64 0])).run Try.prog w = .ok false w := fun w => eqI_f hf.1 Is.zero (by have := hf.2; omega) w
              clear hf hg hS e1
              go_wp2_with fail
              refine (CA _).mono ?_
              rintro e w1 ⟨rfl, osa, na, rfl⟩
              go_wp2
              go_ret
              exact ⟨rfl, HG2.out.trans (by with_reducible repeat (first | exact IsGr.refl _ | refine IsGr.gr ?_ _ _ | refine IsGr.alloc ?_ _ | refine IsGr.drew ?_ | refine IsGr.drewN ?_ _))⟩
          · clear hf hS
            go_wp2_with fail
            refine (CA _).mono ?_
            rintro e w1 ⟨rfl, osa, na, rfl⟩
            go_wp2
            go_ret
            exact ⟨rfl, HG2.out.trans (by with_reducible repeat (first | exact IsGr.refl _ | refine IsGr.gr ?_ _ _ | refine IsGr.alloc ?_ _ | refine IsGr.drew ?_ | refine IsGr.drewN ?_ _))⟩
        · clear hB hS
          go_wp2_with fail
          refine (CA _).mono ?_
          rintro e w1 ⟨rfl, osa, na, rfl⟩
          go_wp2
          go_ret
          exact ⟨rfl, HG2.out.trans (by with_reducible repeat (first | exact IsGr.refl _ | refine IsGr.gr ?_ _ _ | refine IsGr.alloc ?_ _ | refine IsGr.drew ?_ | refine IsGr.drewN ?_ _))⟩
  · rw [show decide (0 < d) = false by simp; omega] at CR
    have HD : Hid (¬ 0 < d) := h
    have heR := fun w => eqR_t Is.zero Is.zero Is.zero Is.zero rfl rfl w
    clear h hn hd
    go_enter Try.func13, Try.ntmps13
    go_wp2_with fail
    refine (CE _).mono ?_
    rintro e w1 ⟨p0, p1, p2, p3, q0, q1, q2, q3, ok, rfl, hE, os1, m1, rfl⟩
    obtain ⟨rfl, rfl, rfl, rfl, rfl, rfl, rfl, rfl, rfl⟩ := hE.2 (by have := HD.out; omega)
    clear hE CE
    go_wp2_with fail
    refine (CR _).mono ?_
    rintro e w1 ⟨rfl, os2, m2, rfl⟩
    go_wp2_with fail
    refine (CA _).mono ?_
    rintro e w1 ⟨rfl, osa, na, rfl⟩
    go_wp2
    go_ret
    exact ⟨rfl, (by with_reducible repeat (first | exact IsGr.refl _ | refine IsGr.gr ?_ _ _ | refine IsGr.alloc ?_ _ | refine IsGr.drew ?_ | refine IsGr.drewN ?_ _))⟩
end Go.Proofs.Ytjgkmhgaacallaa
