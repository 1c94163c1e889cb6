/- gromalaw04.CrossAlong: for every two segments the law answers true. -/
import Derived.Test.YtohhlhoijanjfaaGF
namespace Go.Proofs.Ytohhlhoijanjfaa
open Go.RowKit Go.Shelf
attribute [local go_sem] Gr.size Gr.cell? Gr.frozen? Gr.setCell Gr.drew Gr.drewN Gr.of_drew Gr.of_drewN Gr.gr Gr.lt_of1 Gr.le_of1 Gr.lt_of2 Gr.le_of2 Gr.lt_of3 Gr.le_of3 Gr.lt_of4 Gr.le_of4 Gr.lt_of5 Gr.le_of5 Gr.lt_of6 Gr.le_of6 Gr.lt_of7 Gr.le_of7 Gr.lt_of8 Gr.le_of8 Gr.lt_of9 Gr.le_of9 Gr.lt_of10 Gr.le_of10 Gr.lt_of11 Gr.le_of11 Gr.lt_of12 Gr.le_of12 Gr.lt_of13 Gr.le_of13 Gr.lt_of14 Gr.le_of14 Gr.lt_of15 Gr.le_of15 Gr.lt_of16 Gr.le_of16 Gr.lt_of17 Gr.le_of17 Gr.lt_of18 Gr.le_of18 Gr.lt_of19 Gr.le_of19 Gr.lt_of20 Gr.le_of20 Gr.lt_of21 Gr.le_of21 Gr.lt_of22 Gr.le_of22 Gr.lt_of23 Gr.le_of23 Gr.lt_of24 Gr.le_of24


set_option maxRecDepth 20000 in set_option maxHeartbeats 2000000 in
theorem law_along (a1 a2 b1 b2 c1 c2 d1 d2 : Int) (w : World) :
    Calls Try.prog 9 #[.agg #[.int .i64 a1, .int .i64 a2, .int .i64 b1, .int .i64 b2], .agg #[.int .i64 c1, .int .i64 c2, .int .i64 d1, .int .i64 d2]] w fun e w' => e = .returned (.bool true) ∧ IsGr w w' := by
  obtain ⟨K, x, y, z, ⟨fx, fy, fz⟩, _, C1, C2, C3, C4⟩ := meet_four a1 a2 b1 b2 c1 c2 d1 d2
  obtain ⟨u, v, t, CF⟩ := meet_selfK a1 a2 b1 b2
  have CC := fun w => SpCmp_any x y z x y z fx fy fz fx fy fz w
  rw [spotC_self] at CC
  have R1 := fun w => lright_any a1 a2 b1 b2 w
  have CA := fun w => awake4_any w
  clear fx fy fz
  go_enter Try.func9, Try.ntmps9
  go_upto_region 1 with fail
  go_cut [5, 6] (fun t5 t6 wr => ∃ g6 : Nat, t5 = .int .i64 K ∧ t6 = .pointer (some ⟨g6, 0, none⟩) ∧ g6 < wr.heap.size ∧ (wr.cell? ⟨w.heap.size, 0, none⟩ = some (.int .i64 a1) ∧ wr.cell? ⟨w.heap.size, 1, none⟩ = some (.int .i64 a2) ∧ wr.cell? ⟨w.heap.size, 2, none⟩ = some (.int .i64 b1) ∧ wr.cell? ⟨w.heap.size, 3, none⟩ = some (.int .i64 b2)) ∧ (wr.cell? ⟨w.heap.size + 1, 0, none⟩ = some (.int .i64 c1) ∧ wr.cell? ⟨w.heap.size + 1, 1, none⟩ = some (.int .i64 c2) ∧ wr.cell? ⟨w.heap.size + 1, 2, none⟩ = some (.int .i64 d1) ∧ wr.cell? ⟨w.heap.size + 1, 3, none⟩ = some (.int .i64 d2)) ∧ (wr.cell? ⟨g6, 0, none⟩ = some (.int .u64 (wd0 x)) ∧ wr.cell? ⟨g6, 1, none⟩ = some (.int .u64 (wd1 x)) ∧ wr.cell? ⟨g6, 2, none⟩ = some (.int .u64 (wd2 x)) ∧ wr.cell? ⟨g6, 3, none⟩ = some (.int .u64 (wd3 x)) ∧ wr.cell? ⟨g6, 4, none⟩ = some (.int .u64 (wd0 y)) ∧ wr.cell? ⟨g6, 5, none⟩ = some (.int .u64 (wd1 y)) ∧ wr.cell? ⟨g6, 6, none⟩ = some (.int .u64 (wd2 y)) ∧ wr.cell? ⟨g6, 7, none⟩ = some (.int .u64 (wd3 y)) ∧ wr.cell? ⟨g6, 8, none⟩ = some (.int .u64 (wd0 z)) ∧ wr.cell? ⟨g6, 9, none⟩ = some (.int .u64 (wd1 z)) ∧ wr.cell? ⟨g6, 10, none⟩ = some (.int .u64 (wd2 z)) ∧ wr.cell? ⟨g6, 11, none⟩ = some (.int .u64 (wd3 z))) ∧ w.heap.size + 2 ≤ wr.heap.size ∧ IsGr w wr)
  case first =>
    go_wp2_with fail
    refine (C1 _).mono ?_
    rintro e w1 ⟨rfl, os1, dr1, rfl⟩
    go_wp2
    go_meet
    case rel =>
      refine ⟨_, rfl, rfl, ?_, ?_, ?_, ?_, ?_, (by with_reducible repeat (first | exact IsGr.refl _ | refine IsGr.gr ?_ _ _ | refine IsGr.alloc ?_ _ | refine IsGr.drew ?_ | refine IsGr.drewN ?_ _))⟩
      · first | omega | (simp; done) | (simp; omega) | (simp [Gr.size]; done) | (simp [Gr.size]; omega)
      · simp [go_sem]
      · simp [go_sem]
      · simp [go_sem]
      · first | omega | (simp; done) | (simp; omega) | (simp [Gr.size]; done) | (simp [Gr.size]; omega)
  case rest =>
    obtain ⟨g6, rfl, rfl, k6, qa, qc, q6, ks, hgw⟩ := hcut
    obtain ⟨W1, hW9⟩ : ∃ W1, W1 = wc := ⟨_, rfl⟩
    subst hW9
    have HG : Hid (IsGr w W1) := hgw
    have ka : w.heap.size < W1.heap.size := by omega
    have kc : w.heap.size + 1 < W1.heap.size := by omega
    obtain ⟨i0, i1, i2, i3⟩ := qa
    have HA : Hid _ := And.intro i0 (And.intro i1 (And.intro i2 i3))
    have HC : Hid _ := qc
    clear qc
    have H6 : Hid _ := q6
    clear q6
    clear hgw
    go_wp2
    go_loopw [30] (fun t30 wr => ∃ k : Nat, k ≤ 2 ∧ t30 = .int .i64 k ∧ (wr.cell? ⟨w.heap.size, 0, none⟩ = some (.int .i64 a1) ∧ wr.cell? ⟨w.heap.size, 1, none⟩ = some (.int .i64 a2) ∧ wr.cell? ⟨w.heap.size, 2, none⟩ = some (.int .i64 b1) ∧ wr.cell? ⟨w.heap.size, 3, none⟩ = some (.int .i64 b2)) ∧ (wr.cell? ⟨w.heap.size + 1, 0, none⟩ = some (.int .i64 c1) ∧ wr.cell? ⟨w.heap.size + 1, 1, none⟩ = some (.int .i64 c2) ∧ wr.cell? ⟨w.heap.size + 1, 2, none⟩ = some (.int .i64 d1) ∧ wr.cell? ⟨w.heap.size + 1, 3, none⟩ = some (.int .i64 d2)) ∧ (wr.cell? ⟨g6, 0, none⟩ = some (.int .u64 (wd0 x)) ∧ wr.cell? ⟨g6, 1, none⟩ = some (.int .u64 (wd1 x)) ∧ wr.cell? ⟨g6, 2, none⟩ = some (.int .u64 (wd2 x)) ∧ wr.cell? ⟨g6, 3, none⟩ = some (.int .u64 (wd3 x)) ∧ wr.cell? ⟨g6, 4, none⟩ = some (.int .u64 (wd0 y)) ∧ wr.cell? ⟨g6, 5, none⟩ = some (.int .u64 (wd1 y)) ∧ wr.cell? ⟨g6, 6, none⟩ = some (.int .u64 (wd2 y)) ∧ wr.cell? ⟨g6, 7, none⟩ = some (.int .u64 (wd3 y)) ∧ wr.cell? ⟨g6, 8, none⟩ = some (.int .u64 (wd0 z)) ∧ wr.cell? ⟨g6, 9, none⟩ = some (.int .u64 (wd1 z)) ∧ wr.cell? ⟨g6, 10, none⟩ = some (.int .u64 (wd2 z)) ∧ wr.cell? ⟨g6, 11, none⟩ = some (.int .u64 (wd3 z))) ∧ (wr.cell? ⟨W1.heap.size, 0, none⟩ = some (.int .i64 a1) ∧ wr.cell? ⟨W1.heap.size, 1, none⟩ = some (.int .i64 a2) ∧ wr.cell? ⟨W1.heap.size, 2, none⟩ = some (.int .i64 b1) ∧ wr.cell? ⟨W1.heap.size, 3, none⟩ = some (.int .i64 b2) ∧ wr.cell? ⟨W1.heap.size, 4, none⟩ = some (.int .i64 b1) ∧ wr.cell? ⟨W1.heap.size, 5, none⟩ = some (.int .i64 b2) ∧ wr.cell? ⟨W1.heap.size, 6, none⟩ = some (.int .i64 a1) ∧ wr.cell? ⟨W1.heap.size, 7, none⟩ = some (.int .i64 a2)) ∧ Hid ((g6 < wr.heap.size ∧ W1.heap.size < wr.heap.size ∧ w.heap.size + 2 ≤ wr.heap.size) ∧ IsGr w wr)) (fun t30 _ => (2 - intOf t30).toNat)
    case atStart =>
      refine (fun (hg : IsGr W1 _) => ⟨0, by omega, rfl, ⟨hg.cell_at ka HA.out.1, hg.cell_at ka HA.out.2.1, hg.cell_at ka HA.out.2.2.1, hg.cell_at ka HA.out.2.2.2⟩, ⟨hg.cell_at kc HC.out.1, hg.cell_at kc HC.out.2.1, hg.cell_at kc HC.out.2.2.1, hg.cell_at kc HC.out.2.2.2⟩, ⟨hg.cell_at k6 H6.out.1, hg.cell_at k6 H6.out.2.1, hg.cell_at k6 H6.out.2.2.1, hg.cell_at k6 H6.out.2.2.2.1, hg.cell_at k6 H6.out.2.2.2.2.1, hg.cell_at k6 H6.out.2.2.2.2.2.1, hg.cell_at k6 H6.out.2.2.2.2.2.2.1, hg.cell_at k6 H6.out.2.2.2.2.2.2.2.1, hg.cell_at k6 H6.out.2.2.2.2.2.2.2.2.1, hg.cell_at k6 H6.out.2.2.2.2.2.2.2.2.2.1, hg.cell_at k6 H6.out.2.2.2.2.2.2.2.2.2.2.1, hg.cell_at k6 H6.out.2.2.2.2.2.2.2.2.2.2.2⟩, ?_, ⟨⟨Nat.lt_of_lt_of_le k6 hg.size, ?_, Nat.le_trans ks hg.size⟩, HG.out.trans hg⟩⟩) ?_
      · exact (by with_reducible repeat (first | exact IsGr.refl _ | refine IsGr.gr ?_ _ _ | refine IsGr.alloc ?_ _ | refine IsGr.drew ?_ | refine IsGr.drewN ?_ _))
      · simp [go_sem]
      · first | omega | (simp; done) | (simp; omega) | (simp [Gr.size]; done) | (simp [Gr.size]; omega)
    case round =>
      clear i0 i1 i2 i3 HA HC H6 k6 ka kc
      obtain ⟨k, hk, rfl, qa, qc, q6, qs, HW⟩ := hrel
      obtain ⟨W2, hW2⟩ : ∃ W2, W2 = wr := ⟨_, rfl⟩
      subst hW2
      have HG2 : Hid (IsGr w W2) := HW.out.2
      obtain ⟨k6, ke, ks2⟩ := HW.out.1
      have ka : w.heap.size < W2.heap.size := by omega
      have kc : w.heap.size + 1 < W2.heap.size := by omega
      clear HW
      have HA : Hid _ := qa
      clear qa
      have HC : Hid _ := qc
      clear qc
      have H6 : Hid _ := q6
      clear q6
      have HE : Hid _ := qs
      clear qs
      by_cases hk2' : k < 2
      · obtain ⟨p1, p2, q1, q2, ⟨n0, n1, n2, n3⟩, M0, M1⟩ : ∃ p1 p2 q1 q2 : Int, (W2.cell? ⟨W1.heap.size, k * 4, none⟩ = some (.int .i64 p1) ∧ W2.cell? ⟨W1.heap.size, k * 4 + 1, none⟩ = some (.int .i64 p2) ∧ W2.cell? ⟨W1.heap.size, k * 4 + 2, none⟩ = some (.int .i64 q1) ∧ W2.cell? ⟨W1.heap.size, k * 4 + 3, none⟩ = some (.int .i64 q2)) ∧ (∀ w, Calls Try.prog 19 #[.agg #[.int .i64 p1, .int .i64 p2, .int .i64 q1, .int .i64 q2], .agg #[.int .i64 c1, .int .i64 c2, .int .i64 d1, .int .i64 d2]] w fun e w' => e = .returned (.tuple #[.int .i64 K, .agg #[.int .u64 (wd0 x), .int .u64 (wd1 x), .int .u64 (wd2 x), .int .u64 (wd3 x), .int .u64 (wd0 y), .int .u64 (wd1 y), .int .u64 (wd2 y), .int .u64 (wd3 y), .int .u64 (wd0 z), .int .u64 (wd1 z), .int .u64 (wd2 z), .int .u64 (wd3 z)]]) ∧ IsGr w w') ∧ (∀ w, Calls Try.prog 19 #[.agg #[.int .i64 p1, .int .i64 p2, .int .i64 q1, .int .i64 q2], .agg #[.int .i64 d1, .int .i64 d2, .int .i64 c1, .int .i64 c2]] w fun e w' => e = .returned (.tuple #[.int .i64 K, .agg #[.int .u64 (wd0 x), .int .u64 (wd1 x), .int .u64 (wd2 x), .int .u64 (wd3 x), .int .u64 (wd0 y), .int .u64 (wd1 y), .int .u64 (wd2 y), .int .u64 (wd3 y), .int .u64 (wd0 z), .int .u64 (wd1 z), .int .u64 (wd2 z), .int .u64 (wd3 z)]]) ∧ IsGr w w') := by
          rcases (by omega : k = 0 ∨ k = 1) with rfl | rfl
          · exact ⟨a1, a2, b1, b2, ⟨HE.out.1, HE.out.2.1, HE.out.2.2.1, HE.out.2.2.2.1⟩, C1, C3⟩
          · exact ⟨b1, b2, a1, a2, ⟨HE.out.2.2.2.2.1, HE.out.2.2.2.2.2.1, HE.out.2.2.2.2.2.2.1, HE.out.2.2.2.2.2.2.2⟩, C2, C4⟩
        obtain ⟨o0, o1, o2, o3⟩ := HC.out
        have hk' : (k : Int) < 2 := by omega
        clear C1 C2 C3 C4 CF R1 CA
        go_wp2
        go_loopw [42] (fun t42 wr => ∃ j : Nat, j ≤ 2 ∧ t42 = .int .i64 j ∧ (wr.cell? ⟨w.heap.size, 0, none⟩ = some (.int .i64 a1) ∧ wr.cell? ⟨w.heap.size, 1, none⟩ = some (.int .i64 a2) ∧ wr.cell? ⟨w.heap.size, 2, none⟩ = some (.int .i64 b1) ∧ wr.cell? ⟨w.heap.size, 3, none⟩ = some (.int .i64 b2)) ∧ (wr.cell? ⟨w.heap.size + 1, 0, none⟩ = some (.int .i64 c1) ∧ wr.cell? ⟨w.heap.size + 1, 1, none⟩ = some (.int .i64 c2) ∧ wr.cell? ⟨w.heap.size + 1, 2, none⟩ = some (.int .i64 d1) ∧ wr.cell? ⟨w.heap.size + 1, 3, none⟩ = some (.int .i64 d2)) ∧ (wr.cell? ⟨g6, 0, none⟩ = some (.int .u64 (wd0 x)) ∧ wr.cell? ⟨g6, 1, none⟩ = some (.int .u64 (wd1 x)) ∧ wr.cell? ⟨g6, 2, none⟩ = some (.int .u64 (wd2 x)) ∧ wr.cell? ⟨g6, 3, none⟩ = some (.int .u64 (wd3 x)) ∧ wr.cell? ⟨g6, 4, none⟩ = some (.int .u64 (wd0 y)) ∧ wr.cell? ⟨g6, 5, none⟩ = some (.int .u64 (wd1 y)) ∧ wr.cell? ⟨g6, 6, none⟩ = some (.int .u64 (wd2 y)) ∧ wr.cell? ⟨g6, 7, none⟩ = some (.int .u64 (wd3 y)) ∧ wr.cell? ⟨g6, 8, none⟩ = some (.int .u64 (wd0 z)) ∧ wr.cell? ⟨g6, 9, none⟩ = some (.int .u64 (wd1 z)) ∧ wr.cell? ⟨g6, 10, none⟩ = some (.int .u64 (wd2 z)) ∧ wr.cell? ⟨g6, 11, none⟩ = some (.int .u64 (wd3 z))) ∧ (wr.cell? ⟨W1.heap.size, 0, none⟩ = some (.int .i64 a1) ∧ wr.cell? ⟨W1.heap.size, 1, none⟩ = some (.int .i64 a2) ∧ wr.cell? ⟨W1.heap.size, 2, none⟩ = some (.int .i64 b1) ∧ wr.cell? ⟨W1.heap.size, 3, none⟩ = some (.int .i64 b2) ∧ wr.cell? ⟨W1.heap.size, 4, none⟩ = some (.int .i64 b1) ∧ wr.cell? ⟨W1.heap.size, 5, none⟩ = some (.int .i64 b2) ∧ wr.cell? ⟨W1.heap.size, 6, none⟩ = some (.int .i64 a1) ∧ wr.cell? ⟨W1.heap.size, 7, none⟩ = some (.int .i64 a2)) ∧ (wr.cell? ⟨W2.heap.size, 0, none⟩ = some (.int .i64 p1) ∧ wr.cell? ⟨W2.heap.size, 1, none⟩ = some (.int .i64 p2) ∧ wr.cell? ⟨W2.heap.size, 2, none⟩ = some (.int .i64 q1) ∧ wr.cell? ⟨W2.heap.size, 3, none⟩ = some (.int .i64 q2)) ∧ (wr.cell? ⟨W2.heap.size + 1, 0, none⟩ = some (.int .i64 c1) ∧ wr.cell? ⟨W2.heap.size + 1, 1, none⟩ = some (.int .i64 c2) ∧ wr.cell? ⟨W2.heap.size + 1, 2, none⟩ = some (.int .i64 d1) ∧ wr.cell? ⟨W2.heap.size + 1, 3, none⟩ = some (.int .i64 d2) ∧ wr.cell? ⟨W2.heap.size + 1, 4, none⟩ = some (.int .i64 d1) ∧ wr.cell? ⟨W2.heap.size + 1, 5, none⟩ = some (.int .i64 d2) ∧ wr.cell? ⟨W2.heap.size + 1, 6, none⟩ = some (.int .i64 c1) ∧ wr.cell? ⟨W2.heap.size + 1, 7, none⟩ = some (.int .i64 c2)) ∧ Hid (W2.heap.size + 2 ≤ wr.heap.size ∧ IsGr W2 wr)) (fun t42 _ => (2 - intOf t42).toNat)
        case atStart =>
          refine (fun (hg : IsGr W2 _) => ⟨0, by omega, rfl, ⟨hg.cell_at ka HA.out.1, hg.cell_at ka HA.out.2.1, hg.cell_at ka HA.out.2.2.1, hg.cell_at ka HA.out.2.2.2⟩, ⟨hg.cell_at kc HC.out.1, hg.cell_at kc HC.out.2.1, hg.cell_at kc HC.out.2.2.1, hg.cell_at kc HC.out.2.2.2⟩, ⟨hg.cell_at k6 H6.out.1, hg.cell_at k6 H6.out.2.1, hg.cell_at k6 H6.out.2.2.1, hg.cell_at k6 H6.out.2.2.2.1, hg.cell_at k6 H6.out.2.2.2.2.1, hg.cell_at k6 H6.out.2.2.2.2.2.1, hg.cell_at k6 H6.out.2.2.2.2.2.2.1, hg.cell_at k6 H6.out.2.2.2.2.2.2.2.1, hg.cell_at k6 H6.out.2.2.2.2.2.2.2.2.1, hg.cell_at k6 H6.out.2.2.2.2.2.2.2.2.2.1, hg.cell_at k6 H6.out.2.2.2.2.2.2.2.2.2.2.1, hg.cell_at k6 H6.out.2.2.2.2.2.2.2.2.2.2.2⟩, ⟨hg.cell_at ke HE.out.1, hg.cell_at ke HE.out.2.1, hg.cell_at ke HE.out.2.2.1, hg.cell_at ke HE.out.2.2.2.1, hg.cell_at ke HE.out.2.2.2.2.1, hg.cell_at ke HE.out.2.2.2.2.2.1, hg.cell_at ke HE.out.2.2.2.2.2.2.1, hg.cell_at ke HE.out.2.2.2.2.2.2.2⟩, ?_, ?_, ⟨?_, hg⟩⟩) ?_
          · exact (by with_reducible repeat (first | exact IsGr.refl _ | refine IsGr.gr ?_ _ _ | refine IsGr.alloc ?_ _ | refine IsGr.drew ?_ | refine IsGr.drewN ?_ _))
          · simp [go_sem]
          · simp [go_sem]
          · first | omega | (simp; done) | (simp; omega) | (simp [Gr.size]; done) | (simp [Gr.size]; omega)
        case round =>
          clear HA HC H6 HE n0 n1 n2 n3 o0 o1 o2 o3
          obtain ⟨j, hj, rfl, qa, qc, q6, qs, qx, qt, HW⟩ := hrel
          obtain ⟨W3, hW3⟩ : ∃ W3, W3 = wr := ⟨_, rfl⟩
          subst hW3
          have hgr : IsGr W2 W3 := HW.out.2
          have HGr : Hid (IsGr W2 W3) := hgr
          have hk2 := HW.out.1
          have HG3 : Hid (IsGr w W3) := HG2.out.trans hgr
          have ka3 : w.heap.size < W3.heap.size := by omega
          have kc3 : w.heap.size + 1 < W3.heap.size := by omega
          have k63 : g6 < W3.heap.size := by omega
          have ke3 : W1.heap.size < W3.heap.size := by omega
          have kx3 : W2.heap.size < W3.heap.size := by omega
          have kt3 : W2.heap.size + 1 < W3.heap.size := by omega
          clear HW hgr
          have HA : Hid _ := qa
          clear qa
          have HC : Hid _ := qc
          clear qc
          have H6 : Hid _ := q6
          clear q6
          have HE : Hid _ := qs
          clear qs
          have HX : Hid _ := qx
          clear qx
          have HY : Hid _ := qt
          clear qt
          by_cases hj2 : j < 2
          · obtain ⟨u1, u2, v1, v2, ⟨t0, t1, t2, t3⟩, CM⟩ : ∃ u1 u2 v1 v2 : Int, (W3.cell? ⟨W2.heap.size + 1, j * 4, none⟩ = some (.int .i64 u1) ∧ W3.cell? ⟨W2.heap.size + 1, j * 4 + 1, none⟩ = some (.int .i64 u2) ∧ W3.cell? ⟨W2.heap.size + 1, j * 4 + 2, none⟩ = some (.int .i64 v1) ∧ W3.cell? ⟨W2.heap.size + 1, j * 4 + 3, none⟩ = some (.int .i64 v2)) ∧ (∀ w, Calls Try.prog 19 #[.agg #[.int .i64 p1, .int .i64 p2, .int .i64 q1, .int .i64 q2], .agg #[.int .i64 u1, .int .i64 u2, .int .i64 v1, .int .i64 v2]] w fun e w' => e = .returned (.tuple #[.int .i64 K, .agg #[.int .u64 (wd0 x), .int .u64 (wd1 x), .int .u64 (wd2 x), .int .u64 (wd3 x), .int .u64 (wd0 y), .int .u64 (wd1 y), .int .u64 (wd2 y), .int .u64 (wd3 y), .int .u64 (wd0 z), .int .u64 (wd1 z), .int .u64 (wd2 z), .int .u64 (wd3 z)]]) ∧ IsGr w w') := by
              rcases (by omega : j = 0 ∨ j = 1) with rfl | rfl
              · exact ⟨c1, c2, d1, d2, ⟨HY.out.1, HY.out.2.1, HY.out.2.2.1, HY.out.2.2.2.1⟩, M0⟩
              · exact ⟨d1, d2, c1, c2, ⟨HY.out.2.2.2.2.1, HY.out.2.2.2.2.2.1, HY.out.2.2.2.2.2.2.1, HY.out.2.2.2.2.2.2.2⟩, M1⟩
            have hj' : (j : Int) < 2 := by omega
            have vj : IntKind.i64.wrap ((j : Int) + 1) = (j : Int) + 1 := by rw [IntKind.wrap_i64]; omega
            clear M0 M1
            obtain ⟨f0, f1, f2, f3⟩ := HX.out
            cases hK1 : (K == 1) with
            | false =>
              clear CC
              go_wp2_with fail
              refine (CM _).mono ?_
              rintro e w1 ⟨rfl, os1, dr1, rfl⟩
              go_wp2
              go_roundw
              case rel =>
                refine (fun (hg : IsGr W3 _) => ⟨j + 1, by omega, by go_num, ⟨hg.cell_at ka3 HA.out.1, hg.cell_at ka3 HA.out.2.1, hg.cell_at ka3 HA.out.2.2.1, hg.cell_at ka3 HA.out.2.2.2⟩, ⟨hg.cell_at kc3 HC.out.1, hg.cell_at kc3 HC.out.2.1, hg.cell_at kc3 HC.out.2.2.1, hg.cell_at kc3 HC.out.2.2.2⟩, ⟨hg.cell_at k63 H6.out.1, hg.cell_at k63 H6.out.2.1, hg.cell_at k63 H6.out.2.2.1, hg.cell_at k63 H6.out.2.2.2.1, hg.cell_at k63 H6.out.2.2.2.2.1, hg.cell_at k63 H6.out.2.2.2.2.2.1, hg.cell_at k63 H6.out.2.2.2.2.2.2.1, hg.cell_at k63 H6.out.2.2.2.2.2.2.2.1, hg.cell_at k63 H6.out.2.2.2.2.2.2.2.2.1, hg.cell_at k63 H6.out.2.2.2.2.2.2.2.2.2.1, hg.cell_at k63 H6.out.2.2.2.2.2.2.2.2.2.2.1, hg.cell_at k63 H6.out.2.2.2.2.2.2.2.2.2.2.2⟩, ⟨hg.cell_at ke3 HE.out.1, hg.cell_at ke3 HE.out.2.1, hg.cell_at ke3 HE.out.2.2.1, hg.cell_at ke3 HE.out.2.2.2.1, hg.cell_at ke3 HE.out.2.2.2.2.1, hg.cell_at ke3 HE.out.2.2.2.2.2.1, hg.cell_at ke3 HE.out.2.2.2.2.2.2.1, hg.cell_at ke3 HE.out.2.2.2.2.2.2.2⟩, ⟨hg.cell_at kx3 HX.out.1, hg.cell_at kx3 HX.out.2.1, hg.cell_at kx3 HX.out.2.2.1, hg.cell_at kx3 HX.out.2.2.2⟩, ⟨hg.cell_at kt3 HY.out.1, hg.cell_at kt3 HY.out.2.1, hg.cell_at kt3 HY.out.2.2.1, hg.cell_at kt3 HY.out.2.2.2.1, hg.cell_at kt3 HY.out.2.2.2.2.1, hg.cell_at kt3 HY.out.2.2.2.2.2.1, hg.cell_at kt3 HY.out.2.2.2.2.2.2.1, hg.cell_at kt3 HY.out.2.2.2.2.2.2.2⟩, ⟨Nat.le_trans hk2 hg.size, HGr.out.trans hg⟩⟩) ?_
                exact (by with_reducible repeat (first | exact IsGr.refl _ | refine IsGr.gr ?_ _ _ | refine IsGr.alloc ?_ _ | refine IsGr.drew ?_ | refine IsGr.drewN ?_ _))
              case measure => simp [intOf]; omega
            | true =>
              obtain ⟨s0, s1, s2, s3, s4, s5, s6, s7, s8, s9, s10, s11⟩ := H6.out
              go_wp2_with fail
              refine (CM _).mono ?_
              rintro e w1 ⟨rfl, os1, dr1, rfl⟩
              go_wp2_with fail
              refine (CC _).mono ?_
              rintro e w1 ⟨rfl, os2, dr2, rfl⟩
              go_wp2
              go_roundw
              case rel =>
                refine (fun (hg : IsGr W3 _) => ⟨j + 1, by omega, by go_num, ⟨hg.cell_at ka3 HA.out.1, hg.cell_at ka3 HA.out.2.1, hg.cell_at ka3 HA.out.2.2.1, hg.cell_at ka3 HA.out.2.2.2⟩, ⟨hg.cell_at kc3 HC.out.1, hg.cell_at kc3 HC.out.2.1, hg.cell_at kc3 HC.out.2.2.1, hg.cell_at kc3 HC.out.2.2.2⟩, ⟨hg.cell_at k63 H6.out.1, hg.cell_at k63 H6.out.2.1, hg.cell_at k63 H6.out.2.2.1, hg.cell_at k63 H6.out.2.2.2.1, hg.cell_at k63 H6.out.2.2.2.2.1, hg.cell_at k63 H6.out.2.2.2.2.2.1, hg.cell_at k63 H6.out.2.2.2.2.2.2.1, hg.cell_at k63 H6.out.2.2.2.2.2.2.2.1, hg.cell_at k63 H6.out.2.2.2.2.2.2.2.2.1, hg.cell_at k63 H6.out.2.2.2.2.2.2.2.2.2.1, hg.cell_at k63 H6.out.2.2.2.2.2.2.2.2.2.2.1, hg.cell_at k63 H6.out.2.2.2.2.2.2.2.2.2.2.2⟩, ⟨hg.cell_at ke3 HE.out.1, hg.cell_at ke3 HE.out.2.1, hg.cell_at ke3 HE.out.2.2.1, hg.cell_at ke3 HE.out.2.2.2.1, hg.cell_at ke3 HE.out.2.2.2.2.1, hg.cell_at ke3 HE.out.2.2.2.2.2.1, hg.cell_at ke3 HE.out.2.2.2.2.2.2.1, hg.cell_at ke3 HE.out.2.2.2.2.2.2.2⟩, ⟨hg.cell_at kx3 HX.out.1, hg.cell_at kx3 HX.out.2.1, hg.cell_at kx3 HX.out.2.2.1, hg.cell_at kx3 HX.out.2.2.2⟩, ⟨hg.cell_at kt3 HY.out.1, hg.cell_at kt3 HY.out.2.1, hg.cell_at kt3 HY.out.2.2.1, hg.cell_at kt3 HY.out.2.2.2.1, hg.cell_at kt3 HY.out.2.2.2.2.1, hg.cell_at kt3 HY.out.2.2.2.2.2.1, hg.cell_at kt3 HY.out.2.2.2.2.2.2.1, hg.cell_at kt3 HY.out.2.2.2.2.2.2.2⟩, ⟨Nat.le_trans hk2 hg.size, HGr.out.trans hg⟩⟩) ?_
                exact (by with_reducible repeat (first | exact IsGr.refl _ | refine IsGr.gr ?_ _ _ | refine IsGr.alloc ?_ _ | refine IsGr.drew ?_ | refine IsGr.drewN ?_ _))
              case measure => simp [intOf]; omega
          · obtain rfl : j = 2 := by omega
            have vk : IntKind.i64.wrap ((k : Int) + 1) = (k : Int) + 1 := by rw [IntKind.wrap_i64]; omega
            clear HX HY M0 M1 CC kx3 kt3 HGr
            go_wp2
            go_roundw
            case rel => exact ⟨k + 1, by omega, by go_num, HA.out, HC.out, H6.out, HE.out, ⟨⟨k63, ke3, by omega⟩, HG3.out⟩⟩
            case measure => simp [intOf]; omega
      · obtain rfl : k = 2 := by omega
        clear HE HC H6 C1 C2 C3 C4 CC
        obtain ⟨i0, i1, i2, i3⟩ := HA.out
        cases r : segR a1 a2 b1 b2 with
        | false =>
          rw [r] at R1
          by_cases e1 : a1 = b1
          · by_cases e2 : a2 = b2
            · have f1 : (a1 == b1) = true := by simp [e1]
              have f2 : (a2 == b2) = true := by simp [e2]
              have hv : selfK a1 a2 b1 b2 = 0 := by unfold selfK; rw [r]; simp
              rw [hv] at CF
              clear hv r e1 e2
              go_wp2_with fail
              refine (CF _).mono ?_
              rintro e w1 ⟨rfl, os1, dr1, rfl⟩
              go_wp2_with fail
              refine (R1 _).mono ?_
              rintro e w1 ⟨rfl, os2, dr2, rfl⟩
              go_wp2_with fail
              refine (CA _).mono ?_
              rintro e w1 ⟨rfl, os3, dr3, rfl⟩
              go_wp2
              go_ret
              exact ⟨rfl, HG2.out.trans (by with_reducible repeat (first | exact IsGr.refl _ | refine IsGr.gr ?_ _ _ | refine IsGr.alloc ?_ _ | refine IsGr.drew ?_ | refine IsGr.drewN ?_ _))⟩
            · have f1 : (a1 == b1) = true := by simp [e1]
              have f2 : (a2 == b2) = false := by simp [e2]
              have hv : selfK a1 a2 b1 b2 = 0 := by unfold selfK; rw [r]; simp
              rw [hv] at CF
              clear hv r e1 e2
              go_wp2_with fail
              refine (CF _).mono ?_
              rintro e w1 ⟨rfl, os1, dr1, rfl⟩
              go_wp2_with fail
              refine (R1 _).mono ?_
              rintro e w1 ⟨rfl, os2, dr2, rfl⟩
              go_wp2_with fail
              refine (CA _).mono ?_
              rintro e w1 ⟨rfl, os3, dr3, rfl⟩
              go_wp2
              go_ret
              exact ⟨rfl, HG2.out.trans (by with_reducible repeat (first | exact IsGr.refl _ | refine IsGr.gr ?_ _ _ | refine IsGr.alloc ?_ _ | refine IsGr.drew ?_ | refine IsGr.drewN ?_ _))⟩
          · have f1 : (a1 == b1) = false := by simp [e1]
            have hv : selfK a1 a2 b1 b2 = 0 := by unfold selfK; rw [r]; simp
            rw [hv] at CF
            clear hv r e1
            go_wp2_with fail
            refine (CF _).mono ?_
            rintro e w1 ⟨rfl, os1, dr1, rfl⟩
            go_wp2_with fail
            refine (R1 _).mono ?_
            rintro e w1 ⟨rfl, os2, dr2, rfl⟩
            go_wp2_with fail
            refine (CA _).mono ?_
            rintro e w1 ⟨rfl, os3, dr3, rfl⟩
            go_wp2
            go_ret
            exact ⟨rfl, HG2.out.trans (by with_reducible repeat (first | exact IsGr.refl _ | refine IsGr.gr ?_ _ _ | refine IsGr.alloc ?_ _ | refine IsGr.drew ?_ | refine IsGr.drewN ?_ _))⟩
        | true =>
          rw [r] at R1
          by_cases e1 : a1 = b1
          · by_cases e2 : a2 = b2
            · have f1 : (a1 == b1) = true := by simp [e1]
              have f2 : (a2 == b2) = true := by simp [e2]
              have hv : selfK a1 a2 b1 b2 = 1 := by unfold selfK; rw [r]; simp [e1, e2]
              rw [hv] at CF
              clear hv r e1 e2
              go_wp2_with fail
              refine (CF _).mono ?_
              rintro e w1 ⟨rfl, os1, dr1, rfl⟩
              go_wp2_with fail
              refine (R1 _).mono ?_
              rintro e w1 ⟨rfl, os2, dr2, rfl⟩
              go_wp2_with fail
              refine (CA _).mono ?_
              rintro e w1 ⟨rfl, os3, dr3, rfl⟩
              go_wp2
              go_ret
              exact ⟨rfl, HG2.out.trans (by with_reducible repeat (first | exact IsGr.refl _ | refine IsGr.gr ?_ _ _ | refine IsGr.alloc ?_ _ | refine IsGr.drew ?_ | refine IsGr.drewN ?_ _))⟩
            · have f1 : (a1 == b1) = true := by simp [e1]
              have f2 : (a2 == b2) = false := by simp [e2]
              have hv : selfK a1 a2 b1 b2 = 2 := by unfold selfK; rw [r]; simp [e2]
              rw [hv] at CF
              clear hv r e1 e2
              go_wp2_with fail
              refine (CF _).mono ?_
              rintro e w1 ⟨rfl, os1, dr1, rfl⟩
              go_wp2_with fail
              refine (R1 _).mono ?_
              rintro e w1 ⟨rfl, os2, dr2, rfl⟩
              go_wp2_with fail
              refine (CA _).mono ?_
              rintro e w1 ⟨rfl, os3, dr3, rfl⟩
              go_wp2
              go_ret
              exact ⟨rfl, HG2.out.trans (by with_reducible repeat (first | exact IsGr.refl _ | refine IsGr.gr ?_ _ _ | refine IsGr.alloc ?_ _ | refine IsGr.drew ?_ | refine IsGr.drewN ?_ _))⟩
          · have f1 : (a1 == b1) = false := by simp [e1]
            have hv : selfK a1 a2 b1 b2 = 2 := by unfold selfK; rw [r]; simp [e1]
            rw [hv] at CF
            clear hv r e1
            go_wp2_with fail
            refine (CF _).mono ?_
            rintro e w1 ⟨rfl, os1, dr1, rfl⟩
            go_wp2_with fail
            refine (R1 _).mono ?_
            rintro e w1 ⟨rfl, os2, dr2, rfl⟩
            go_wp2_with fail
            refine (CA _).mono ?_
            rintro e w1 ⟨rfl, os3, dr3, rfl⟩
            go_wp2
            go_ret
            exact ⟨rfl, HG2.out.trans (by with_reducible repeat (first | exact IsGr.refl _ | refine IsGr.gr ?_ _ _ | refine IsGr.alloc ?_ _ | refine IsGr.drew ?_ | refine IsGr.drewN ?_ _))⟩

end Go.Proofs.Ytohhlhoijanjfaa
