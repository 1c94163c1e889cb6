/- gromalaw04.CrossMeets: for every two segments the law answers true. -/
import Derived.Test.YtohhlhoijanjfaaZ7g
import Derived.Test.YtohhlhoijanjfaaY5g
import Derived.Test.YtohhlhoijanjfaaY3g
import Derived.Test.YtohhlhoijanjfaaGE
namespace Go.Proofs.Ytohhlhoijanjfaa
open Go.RowKit Go.Shelf
attribute [local go_sem] Gr.size Gr.cell? Gr.frozen? Gr.setCell Gr.drew Gr.drewN Gr.of_drew Gr.of_drewN Gr.gr Gr.lt_of1 Gr.le_of1 Gr.lt_of2 Gr.le_of2 Gr.lt_of3 Gr.le_of3 Gr.lt_of4 Gr.le_of4 Gr.lt_of5 Gr.le_of5 Gr.lt_of6 Gr.le_of6 Gr.lt_of7 Gr.le_of7 Gr.lt_of8 Gr.le_of8 Gr.lt_of9 Gr.le_of9 Gr.lt_of10 Gr.le_of10 Gr.lt_of11 Gr.le_of11 Gr.lt_of12 Gr.le_of12 Gr.lt_of13 Gr.le_of13 Gr.lt_of14 Gr.le_of14 Gr.lt_of15 Gr.le_of15 Gr.lt_of16 Gr.le_of16 Gr.lt_of17 Gr.le_of17 Gr.lt_of18 Gr.le_of18 Gr.lt_of19 Gr.le_of19 Gr.lt_of20 Gr.le_of20 Gr.lt_of21 Gr.le_of21 Gr.lt_of22 Gr.le_of22 Gr.lt_of23 Gr.le_of23 Gr.lt_of24 Gr.le_of24

theorem spotD_self (x y z : Int) : spotD x y z x y z = 0 := by
  unfold spotD
  rw [cmpI_eq rfl, if_pos rfl]
  exact cmpI_eq rfl

set_option maxRecDepth 20000 in set_option maxHeartbeats 2000000 in
theorem law_meets_n1 (a1 a2 b1 b2 c1 c2 d1 d2 : Int) (C1 : (∀ w, Calls Try.prog 19 #[.agg #[.int .i64 a1, .int .i64 a2, .int .i64 b1, .int .i64 b2], .agg #[.int .i64 c1, .int .i64 c2, .int .i64 d1, .int .i64 d2]] w fun e w' => e = .returned (.tuple #[.int .i64 0, .agg #[.int .u64 0, .int .u64 0, .int .u64 0, .int .u64 0, .int .u64 0, .int .u64 0, .int .u64 0, .int .u64 0, .int .u64 0, .int .u64 0, .int .u64 0, .int .u64 0]]) ∧ IsGr w w')) (C2 : (∀ w, Calls Try.prog 19 #[.agg #[.int .i64 c1, .int .i64 c2, .int .i64 d1, .int .i64 d2], .agg #[.int .i64 a1, .int .i64 a2, .int .i64 b1, .int .i64 b2]] w fun e w' => e = .returned (.tuple #[.int .i64 0, .agg #[.int .u64 0, .int .u64 0, .int .u64 0, .int .u64 0, .int .u64 0, .int .u64 0, .int .u64 0, .int .u64 0, .int .u64 0, .int .u64 0, .int .u64 0, .int .u64 0]]) ∧ IsGr w w')) (hA : segR a1 a2 b1 b2 = false)
    (w : World) : Calls Try.prog 5 #[.agg #[.int .i64 a1, .int .i64 a2, .int .i64 b1, .int .i64 b2], .agg #[.int .i64 c1, .int .i64 c2, .int .i64 d1, .int .i64 d2]] w fun e w' => e = .returned (.bool true) ∧ IsGr w w' := by
  have R1 := fun w => lright_any a1 a2 b1 b2 w
  have S1 := fun w => SRight_any a1 a2 b1 b2 w
  have CA := fun w => awake4_any w
  have heS := fun w => eqS_self 0 0 0 0 0 0 0 0 0 0 0 0 w
  rw [hA] at R1 S1
  clear hA
  go_enter Try.func5, Try.ntmps5
  go_upto_region 1 with fail
  go_cut [5, 6] (fun t5 t6 wr => ∃ g6 : Nat, t5 = .int .i64 0 ∧ t6 = .pointer (some ⟨g6, 0, none⟩) ∧ g6 < wr.heap.size ∧ Zc wr g6  ∧ Sc wr (w.heap.size) a1 a2 b1 b2 ∧ Sc wr (w.heap.size + 1) c1 c2 d1 d2 ∧ w.heap.size + 2 ≤ wr.heap.size ∧ IsGr w wr)
  case first =>
    go_wp2_with fail
    refine (C1 _).mono ?_
    rintro e w1 ⟨rfl, os1, dr1, rfl⟩
    go_wp2
    go_meet
    case rel =>
      refine ⟨_, rfl, rfl, ?_, ?_, ?_, ?_, ?_, (by with_reducible repeat (first | exact IsGr.refl _ | refine IsGr.gr ?_ _ _ | refine IsGr.alloc ?_ _ | refine IsGr.drew ?_ | refine IsGr.drewN ?_ _))⟩
      · first | omega | (simp; done) | (simp; omega) | (simp [Gr.size]; done) | (simp [Gr.size]; omega)
      · unfold Zc; simp [go_sem]
      · unfold Sc; simp [go_sem]
      · unfold Sc; simp [go_sem]
      · first | omega | (simp; done) | (simp; omega) | (simp [Gr.size]; done) | (simp [Gr.size]; omega)
  case rest =>
    obtain ⟨g6, rfl, rfl, k6, q6, qa, qc, ks, hgw⟩ := hcut
    obtain ⟨W1, hW9⟩ : ∃ W1, W1 = wc := ⟨_, rfl⟩
    subst hW9
    have HG : Hid (IsGr w W1) := hgw
    obtain ⟨x1, x2, x3, x4⟩ := id qa
    obtain ⟨y1, y2, y3, y4⟩ := id qc
    have ka : w.heap.size < W1.heap.size := by omega
    have kc : w.heap.size + 1 < W1.heap.size := by omega
    clear hgw C1
    go_upto_region 2 with fail
    go_cut [7, 8] (fun t7 t8 wr => ∃ g8 : Nat, t7 = .int .i64 0 ∧ t8 = .pointer (some ⟨g8, 0, none⟩) ∧ g8 < wr.heap.size ∧ Zc wr g8  ∧ IsGr W1 wr)
    case first =>
      go_wp2_with fail
      refine (C2 _).mono ?_
      rintro e w1 ⟨rfl, os2, dr2, rfl⟩
      go_wp2
      go_meet
      case rel =>
        refine ⟨_, rfl, rfl, ?_, ?_, (by with_reducible repeat (first | exact IsGr.refl _ | refine IsGr.gr ?_ _ _ | refine IsGr.alloc ?_ _ | refine IsGr.drew ?_ | refine IsGr.drewN ?_ _))⟩
        · first | omega | (simp; done) | (simp; omega) | (simp [Gr.size]; done) | (simp [Gr.size]; omega)
        · unfold Zc; simp [go_sem]
    case rest =>
      obtain ⟨g8, rfl, rfl, k8, q8, hgr⟩ := hcut
      obtain ⟨W2, hW9⟩ : ∃ W2, W2 = wc := ⟨_, rfl⟩
      subst hW9
      clear C2 x1 x2 x3 x4 y1 y2 y3 y4
      replace qa := qa.gr hgr (by omega)
      replace qc := qc.gr hgr (by omega)
      replace q6 := q6.gr hgr (by omega)
      have hsz := hgr.size
      replace HG : Hid (IsGr w W2) := HG.out.trans hgr
      replace k6 : g6 < W2.heap.size := by omega
      replace ka : w.heap.size < W2.heap.size := by omega
      replace kc : w.heap.size + 1 < W2.heap.size := by omega
      replace ks : w.heap.size + 2 ≤ W2.heap.size := by omega
      clear hsz hgr
      go_upto_region 4 with fail
      go_cut [29] (fun t29 wr => t29 = .bool false ∧ IsGr W2 wr)
      case first =>
        obtain ⟨x1, x2, x3, x4⟩ := qa
        go_wp2_with fail
        refine (R1 _).mono ?_
        rintro e w1 ⟨rfl, os3, dr3, rfl⟩
        go_wp2
        go_meet
        case rel => exact ⟨by first | rfl | simp, (by with_reducible repeat (first | exact IsGr.refl _ | refine IsGr.gr ?_ _ _ | refine IsGr.alloc ?_ _ | refine IsGr.drew ?_ | refine IsGr.drewN ?_ _))⟩
      case rest =>
        obtain ⟨rfl, hgr⟩ := hcut
        obtain ⟨W3, hW9⟩ : ∃ W3, W3 = wc := ⟨_, rfl⟩
        subst hW9
        replace qa := qa.gr hgr (by omega)
        replace qc := qc.gr hgr (by omega)
        replace q6 := q6.gr hgr (by omega)
        replace q8 := q8.gr hgr (by omega)
        have hsz := hgr.size
        replace HG : Hid (IsGr w W3) := HG.out.trans hgr
        replace k6 : g6 < W3.heap.size := by omega
        replace k8 : g8 < W3.heap.size := by omega
        replace ka : w.heap.size < W3.heap.size := by omega
        replace kc : w.heap.size + 1 < W3.heap.size := by omega
        replace ks : w.heap.size + 2 ≤ W3.heap.size := by omega
        clear hsz hgr
        go_upto_region 6 with fail
        go_cut [57] (fun t57 wr => t57 = .bool false ∧ IsGr W3 wr)
        case first => as_aux_lemma =>
          clear HG CA
          obtain ⟨C, hin, hcl, hcells, hgr⟩ : ∃ C : World → Prop, (∀ w', W3.heap.size ≤ w'.heap.size ∧ IsGr W3 w' ∧ Sc w' (w.heap.size) a1 a2 b1 b2 → C w') ∧ (∀ u u', C u → IsGr u u' → C u') ∧ (∀ w', C w' → Sc w' (w.heap.size) a1 a2 b1 b2) ∧ (∀ w', C w' → IsGr W3 w') := by
            refine ⟨fun w' => W3.heap.size ≤ w'.heap.size ∧ IsGr W3 w' ∧ Sc w' (w.heap.size) a1 a2 b1 b2, fun w' h => h, ?_, fun w' h => h.2.2, fun w' h => h.2.1⟩
            rintro u u' ⟨h0, h1, h2⟩ hg
            exact ⟨Nat.le_trans h0 hg.size, h1.trans hg, h2.gr hg (by omega)⟩
          refine wp_region_quietV C (by kernel_rfl) (by kernel_rfl) (hin _ ⟨by simp, (by with_reducible repeat (first | exact IsGr.refl _ | refine IsGr.gr ?_ _ _ | refine IsGr.alloc ?_ _ | refine IsGr.drew ?_ | refine IsGr.drewN ?_ _)), qa⟩) (fun K HK => ?_)
          refine QK.take HK ?_ (by rfl) ?_ ?_
          rotate_left
          · (intro w hw; (try have hcs := hcells w hw); (try unfold Sc at hcs); (try go_split_ands); go_simp <;> with_reducible rfl)
          (try simp only [Act.put, qA, qB, qC])
          refine QK.take HK ?_ (by rfl) ?_ ?_
          rotate_left
          · (intro w hw; (try have hcs := hcells w hw); (try unfold Sc at hcs); (try go_split_ands); go_simp <;> with_reducible rfl)
          (try simp only [Act.put, qA, qB, qC])
          refine QK.take HK ?_ (by rfl) ?_ ?_
          rotate_left
          · (intro w hw; (try have hcs := hcells w hw); (try unfold Sc at hcs); (try go_split_ands); go_simp <;> with_reducible rfl)
          (try simp only [Act.put, qA, qB, qC])
          refine QK.take HK ?_ (by rfl) ?_ ?_
          rotate_left
          · (intro w hw; (try have hcs := hcells w hw); (try unfold Sc at hcs); (try go_split_ands); go_simp <;> with_reducible rfl)
          (try simp only [Act.put, qA, qB, qC])
          refine QK.take HK ?_ (by rfl) ?_ ?_
          rotate_left
          · (intro w hw; (try have hcs := hcells w hw); (try unfold Sc at hcs); (try go_split_ands); go_simp <;> with_reducible rfl)
          (try simp only [Act.put, qA, qB, qC])
          refine QK.take HK ?_ (by rfl) ?_ ?_
          rotate_left
          · (intro w hw; (try have hcs := hcells w hw); (try unfold Sc at hcs); (try go_split_ands); go_simp <;> with_reducible rfl)
          (try simp only [Act.put, qA, qB, qC])
          refine QK.take HK ?_ (by rfl) ?_ ?_
          rotate_left
          · (intro w hw; (try have hcs := hcells w hw); (try unfold Sc at hcs); (try go_split_ands); go_simp <;> with_reducible rfl)
          (try simp only [Act.put, qA, qB, qC])
          refine QK.take HK ?_ (by rfl) ?_ ?_
          rotate_left
          · (intro w hw; (try have hcs := hcells w hw); (try unfold Sc at hcs); (try go_split_ands); go_simp <;> with_reducible rfl)
          (try simp only [Act.put, qA, qB, qC])
          refine QK.take HK ?_ (by rfl) ?_ ?_
          rotate_left
          · (intro w hw; (try have hcs := hcells w hw); (try unfold Sc at hcs); (try go_split_ands); go_simp <;> with_reducible rfl)
          (try simp only [Act.put, qA, qB, qC])
          refine QK.take HK ?_ (by rfl) ?_ ?_
          rotate_left
          · (intro w hw; (try have hcs := hcells w hw); (try unfold Sc at hcs); (try go_split_ands); go_simp <;> with_reducible rfl)
          (try simp only [Act.put, qA, qB, qC])
          refine QK.call HK 23 #[.agg #[.int .i64 a1, .int .i64 a2, .int .i64 b1, .int .i64 b2]] (.bool false) hcl (by rfl) (fun w => by go_simp) S1 ?_
          (try simp only [Act.put, qA, qB, qC])
          refine QK.take HK ?_ (by rfl) ?_ ?_
          rotate_left
          · (intro w hw; (try have hcs := hcells w hw); (try unfold Sc at hcs); (try go_split_ands); go_simp <;> with_reducible rfl)
          (try simp only [Act.put, qA, qB, qC])
          refine QK.call HK 20 #[.agg #[.int .i64 a1, .int .i64 a2, .int .i64 b1, .int .i64 b2]] (.bool false) hcl (by rfl) (fun w => by go_simp) R1 ?_
          (try simp only [Act.put, qA, qB, qC])
          refine QK.take HK ?_ (by rfl) ?_ ?_
          rotate_left
          · (intro w hw; (try have hcs := hcells w hw); (try unfold Sc at hcs); (try go_split_ands); go_simp <;> with_reducible rfl)
          (try simp only [Act.put, qA, qB, qC])
          refine QK.take HK ?_ (by rfl) ?_ ?_
          rotate_left
          · (intro w hw; (try have hcs := hcells w hw); (try unfold Sc at hcs); (try go_split_ands); go_simp <;> with_reducible rfl)
          (try simp only [Act.put, qA, qB, qC])
          refine QK.nil HK ?_
          clear HK K
          intro wq hq
          have hg := hgr wq hq
          clear hcells hin hcl hgr hq
          go_wp2
          go_meet
          case rel => exact ⟨by simp, hg⟩
        case rest =>
          obtain ⟨rfl, hgr⟩ := hcut
          obtain ⟨W4, hW9⟩ : ∃ W4, W4 = wc := ⟨_, rfl⟩
          subst hW9
          replace qa := qa.gr hgr (by omega)
          replace qc := qc.gr hgr (by omega)
          replace q6 := q6.gr hgr (by omega)
          replace q8 := q8.gr hgr (by omega)
          have hsz := hgr.size
          replace HG : Hid (IsGr w W4) := HG.out.trans hgr
          replace k6 : g6 < W4.heap.size := by omega
          replace k8 : g8 < W4.heap.size := by omega
          replace ka : w.heap.size < W4.heap.size := by omega
          replace kc : w.heap.size + 1 < W4.heap.size := by omega
          replace ks : w.heap.size + 2 ≤ W4.heap.size := by omega
          clear hsz hgr
          obtain ⟨s0, s1, s2, s3, s4, s5, s6, s7, s8, s9, s10, s11⟩ := q6
          obtain ⟨v0, v1, v2, v3, v4, v5, v6, v7, v8, v9, v10, v11⟩ := q8
          clear qa qc S1 R1
          go_wp2_with fail
          refine (CA _).mono ?_
          rintro e w1 ⟨rfl, os9, dr9, rfl⟩
          go_wp2
          go_ret
          exact ⟨rfl, HG.out.trans (by with_reducible repeat (first | exact IsGr.refl _ | refine IsGr.gr ?_ _ _ | refine IsGr.alloc ?_ _ | refine IsGr.drew ?_ | refine IsGr.drewN ?_ _))⟩

set_option maxRecDepth 20000 in set_option maxHeartbeats 2000000 in
theorem law_meets_n2 (a1 a2 b1 b2 c1 c2 d1 d2 : Int) (C1 : (∀ w, Calls Try.prog 19 #[.agg #[.int .i64 a1, .int .i64 a2, .int .i64 b1, .int .i64 b2], .agg #[.int .i64 c1, .int .i64 c2, .int .i64 d1, .int .i64 d2]] w fun e w' => e = .returned (.tuple #[.int .i64 0, .agg #[.int .u64 0, .int .u64 0, .int .u64 0, .int .u64 0, .int .u64 0, .int .u64 0, .int .u64 0, .int .u64 0, .int .u64 0, .int .u64 0, .int .u64 0, .int .u64 0]]) ∧ IsGr w w')) (C2 : (∀ w, Calls Try.prog 19 #[.agg #[.int .i64 c1, .int .i64 c2, .int .i64 d1, .int .i64 d2], .agg #[.int .i64 a1, .int .i64 a2, .int .i64 b1, .int .i64 b2]] w fun e w' => e = .returned (.tuple #[.int .i64 0, .agg #[.int .u64 0, .int .u64 0, .int .u64 0, .int .u64 0, .int .u64 0, .int .u64 0, .int .u64 0, .int .u64 0, .int .u64 0, .int .u64 0, .int .u64 0, .int .u64 0]]) ∧ IsGr w w')) (hA : segR a1 a2 b1 b2 = true) (hB : segR c1 c2 d1 d2 = false)
    (w : World) : Calls Try.prog 5 #[.agg #[.int .i64 a1, .int .i64 a2, .int .i64 b1, .int .i64 b2], .agg #[.int .i64 c1, .int .i64 c2, .int .i64 d1, .int .i64 d2]] w fun e w' => e = .returned (.bool true) ∧ IsGr w w' := by
  have R1 := fun w => lright_any a1 a2 b1 b2 w
  have R2 := fun w => lright_any c1 c2 d1 d2 w
  have S1 := fun w => SRight_any a1 a2 b1 b2 w
  have CA := fun w => awake4_any w
  have heS := fun w => eqS_self 0 0 0 0 0 0 0 0 0 0 0 0 w
  rw [hA] at R1 S1
  rw [hB] at R2
  clear hB
  clear hA
  go_enter Try.func5, Try.ntmps5
  go_upto_region 1 with fail
  go_cut [5, 6] (fun t5 t6 wr => ∃ g6 : Nat, t5 = .int .i64 0 ∧ t6 = .pointer (some ⟨g6, 0, none⟩) ∧ g6 < wr.heap.size ∧ Zc wr g6  ∧ Sc wr (w.heap.size) a1 a2 b1 b2 ∧ Sc wr (w.heap.size + 1) c1 c2 d1 d2 ∧ w.heap.size + 2 ≤ wr.heap.size ∧ IsGr w wr)
  case first =>
    go_wp2_with fail
    refine (C1 _).mono ?_
    rintro e w1 ⟨rfl, os1, dr1, rfl⟩
    go_wp2
    go_meet
    case rel =>
      refine ⟨_, rfl, rfl, ?_, ?_, ?_, ?_, ?_, (by with_reducible repeat (first | exact IsGr.refl _ | refine IsGr.gr ?_ _ _ | refine IsGr.alloc ?_ _ | refine IsGr.drew ?_ | refine IsGr.drewN ?_ _))⟩
      · first | omega | (simp; done) | (simp; omega) | (simp [Gr.size]; done) | (simp [Gr.size]; omega)
      · unfold Zc; simp [go_sem]
      · unfold Sc; simp [go_sem]
      · unfold Sc; simp [go_sem]
      · first | omega | (simp; done) | (simp; omega) | (simp [Gr.size]; done) | (simp [Gr.size]; omega)
  case rest =>
    obtain ⟨g6, rfl, rfl, k6, q6, qa, qc, ks, hgw⟩ := hcut
    obtain ⟨W1, hW9⟩ : ∃ W1, W1 = wc := ⟨_, rfl⟩
    subst hW9
    have HG : Hid (IsGr w W1) := hgw
    obtain ⟨x1, x2, x3, x4⟩ := id qa
    obtain ⟨y1, y2, y3, y4⟩ := id qc
    have ka : w.heap.size < W1.heap.size := by omega
    have kc : w.heap.size + 1 < W1.heap.size := by omega
    clear hgw C1
    go_upto_region 2 with fail
    go_cut [7, 8] (fun t7 t8 wr => ∃ g8 : Nat, t7 = .int .i64 0 ∧ t8 = .pointer (some ⟨g8, 0, none⟩) ∧ g8 < wr.heap.size ∧ Zc wr g8  ∧ IsGr W1 wr)
    case first =>
      go_wp2_with fail
      refine (C2 _).mono ?_
      rintro e w1 ⟨rfl, os2, dr2, rfl⟩
      go_wp2
      go_meet
      case rel =>
        refine ⟨_, rfl, rfl, ?_, ?_, (by with_reducible repeat (first | exact IsGr.refl _ | refine IsGr.gr ?_ _ _ | refine IsGr.alloc ?_ _ | refine IsGr.drew ?_ | refine IsGr.drewN ?_ _))⟩
        · first | omega | (simp; done) | (simp; omega) | (simp [Gr.size]; done) | (simp [Gr.size]; omega)
        · unfold Zc; simp [go_sem]
    case rest =>
      obtain ⟨g8, rfl, rfl, k8, q8, hgr⟩ := hcut
      obtain ⟨W2, hW9⟩ : ∃ W2, W2 = wc := ⟨_, rfl⟩
      subst hW9
      clear C2 x1 x2 x3 x4 y1 y2 y3 y4
      replace qa := qa.gr hgr (by omega)
      replace qc := qc.gr hgr (by omega)
      replace q6 := q6.gr hgr (by omega)
      have hsz := hgr.size
      replace HG : Hid (IsGr w W2) := HG.out.trans hgr
      replace k6 : g6 < W2.heap.size := by omega
      replace ka : w.heap.size < W2.heap.size := by omega
      replace kc : w.heap.size + 1 < W2.heap.size := by omega
      replace ks : w.heap.size + 2 ≤ W2.heap.size := by omega
      clear hsz hgr
      go_upto_region 4 with fail
      go_cut [29] (fun t29 wr => t29 = .bool false ∧ IsGr W2 wr)
      case first =>
        obtain ⟨x1, x2, x3, x4⟩ := qa
        obtain ⟨y1, y2, y3, y4⟩ := qc
        go_wp2_with fail
        refine (R1 _).mono ?_
        rintro e w1 ⟨rfl, os3, dr3, rfl⟩
        go_wp2_with fail
        refine (R2 _).mono ?_
        rintro e w1 ⟨rfl, os4, dr4, rfl⟩
        go_wp2
        go_meet
        case rel => exact ⟨by first | rfl | simp, (by with_reducible repeat (first | exact IsGr.refl _ | refine IsGr.gr ?_ _ _ | refine IsGr.alloc ?_ _ | refine IsGr.drew ?_ | refine IsGr.drewN ?_ _))⟩
      case rest =>
        obtain ⟨rfl, hgr⟩ := hcut
        obtain ⟨W3, hW9⟩ : ∃ W3, W3 = wc := ⟨_, rfl⟩
        subst hW9
        replace qa := qa.gr hgr (by omega)
        replace qc := qc.gr hgr (by omega)
        replace q6 := q6.gr hgr (by omega)
        replace q8 := q8.gr hgr (by omega)
        have hsz := hgr.size
        replace HG : Hid (IsGr w W3) := HG.out.trans hgr
        replace k6 : g6 < W3.heap.size := by omega
        replace k8 : g8 < W3.heap.size := by omega
        replace ka : w.heap.size < W3.heap.size := by omega
        replace kc : w.heap.size + 1 < W3.heap.size := by omega
        replace ks : w.heap.size + 2 ≤ W3.heap.size := by omega
        clear hsz hgr
        clear R2
        go_upto_region 6 with fail
        go_cut [57] (fun t57 wr => t57 = .bool false ∧ IsGr W3 wr)
        case first => as_aux_lemma =>
          clear HG CA
          obtain ⟨C, hin, hcl, hcells, hgr⟩ : ∃ C : World → Prop, (∀ w', W3.heap.size ≤ w'.heap.size ∧ IsGr W3 w' ∧ Sc w' (w.heap.size) a1 a2 b1 b2 → C w') ∧ (∀ u u', C u → IsGr u u' → C u') ∧ (∀ w', C w' → Sc w' (w.heap.size) a1 a2 b1 b2) ∧ (∀ w', C w' → IsGr W3 w') := by
            refine ⟨fun w' => W3.heap.size ≤ w'.heap.size ∧ IsGr W3 w' ∧ Sc w' (w.heap.size) a1 a2 b1 b2, fun w' h => h, ?_, fun w' h => h.2.2, fun w' h => h.2.1⟩
            rintro u u' ⟨h0, h1, h2⟩ hg
            exact ⟨Nat.le_trans h0 hg.size, h1.trans hg, h2.gr hg (by omega)⟩
          refine wp_region_quietV C (by kernel_rfl) (by kernel_rfl) (hin _ ⟨by simp, (by with_reducible repeat (first | exact IsGr.refl _ | refine IsGr.gr ?_ _ _ | refine IsGr.alloc ?_ _ | refine IsGr.drew ?_ | refine IsGr.drewN ?_ _)), qa⟩) (fun K HK => ?_)
          refine QK.take HK ?_ (by rfl) ?_ ?_
          rotate_left
          · (intro w hw; (try have hcs := hcells w hw); (try unfold Sc at hcs); (try go_split_ands); go_simp <;> with_reducible rfl)
          (try simp only [Act.put, qA, qB, qC])
          refine QK.take HK ?_ (by rfl) ?_ ?_
          rotate_left
          · (intro w hw; (try have hcs := hcells w hw); (try unfold Sc at hcs); (try go_split_ands); go_simp <;> with_reducible rfl)
          (try simp only [Act.put, qA, qB, qC])
          refine QK.take HK ?_ (by rfl) ?_ ?_
          rotate_left
          · (intro w hw; (try have hcs := hcells w hw); (try unfold Sc at hcs); (try go_split_ands); go_simp <;> with_reducible rfl)
          (try simp only [Act.put, qA, qB, qC])
          refine QK.take HK ?_ (by rfl) ?_ ?_
          rotate_left
          · (intro w hw; (try have hcs := hcells w hw); (try unfold Sc at hcs); (try go_split_ands); go_simp <;> with_reducible rfl)
          (try simp only [Act.put, qA, qB, qC])
          refine QK.take HK ?_ (by rfl) ?_ ?_
          rotate_left
          · (intro w hw; (try have hcs := hcells w hw); (try unfold Sc at hcs); (try go_split_ands); go_simp <;> with_reducible rfl)
          (try simp only [Act.put, qA, qB, qC])
          refine QK.take HK ?_ (by rfl) ?_ ?_
          rotate_left
          · (intro w hw; (try have hcs := hcells w hw); (try unfold Sc at hcs); (try go_split_ands); go_simp <;> with_reducible rfl)
          (try simp only [Act.put, qA, qB, qC])
          refine QK.take HK ?_ (by rfl) ?_ ?_
          rotate_left
          · (intro w hw; (try have hcs := hcells w hw); (try unfold Sc at hcs); (try go_split_ands); go_simp <;> with_reducible rfl)
          (try simp only [Act.put, qA, qB, qC])
          refine QK.take HK ?_ (by rfl) ?_ ?_
          rotate_left
          · (intro w hw; (try have hcs := hcells w hw); (try unfold Sc at hcs); (try go_split_ands); go_simp <;> with_reducible rfl)
          (try simp only [Act.put, qA, qB, qC])
          refine QK.take HK ?_ (by rfl) ?_ ?_
          rotate_left
          · (intro w hw; (try have hcs := hcells w hw); (try unfold Sc at hcs); (try go_split_ands); go_simp <;> with_reducible rfl)
          (try simp only [Act.put, qA, qB, qC])
          refine QK.take HK ?_ (by rfl) ?_ ?_
          rotate_left
          · (intro w hw; (try have hcs := hcells w hw); (try unfold Sc at hcs); (try go_split_ands); go_simp <;> with_reducible rfl)
          (try simp only [Act.put, qA, qB, qC])
          refine QK.call HK 23 #[.agg #[.int .i64 a1, .int .i64 a2, .int .i64 b1, .int .i64 b2]] (.bool true) hcl (by rfl) (fun w => by go_simp) S1 ?_
          (try simp only [Act.put, qA, qB, qC])
          refine QK.take HK ?_ (by rfl) ?_ ?_
          rotate_left
          · (intro w hw; (try have hcs := hcells w hw); (try unfold Sc at hcs); (try go_split_ands); go_simp <;> with_reducible rfl)
          (try simp only [Act.put, qA, qB, qC])
          refine QK.call HK 20 #[.agg #[.int .i64 a1, .int .i64 a2, .int .i64 b1, .int .i64 b2]] (.bool true) hcl (by rfl) (fun w => by go_simp) R1 ?_
          (try simp only [Act.put, qA, qB, qC])
          refine QK.take HK ?_ (by rfl) ?_ ?_
          rotate_left
          · (intro w hw; (try have hcs := hcells w hw); (try unfold Sc at hcs); (try go_split_ands); go_simp <;> with_reducible rfl)
          (try simp only [Act.put, qA, qB, qC])
          refine QK.take HK ?_ (by rfl) ?_ ?_
          rotate_left
          · (intro w hw; (try have hcs := hcells w hw); (try unfold Sc at hcs); (try go_split_ands); go_simp <;> with_reducible rfl)
          (try simp only [Act.put, qA, qB, qC])
          refine QK.nil HK ?_
          clear HK K
          intro wq hq
          have hg := hgr wq hq
          clear hcells hin hcl hgr hq
          go_wp2
          go_meet
          case rel => exact ⟨by simp, hg⟩
        case rest =>
          obtain ⟨rfl, hgr⟩ := hcut
          obtain ⟨W4, hW9⟩ : ∃ W4, W4 = wc := ⟨_, rfl⟩
          subst hW9
          replace qa := qa.gr hgr (by omega)
          replace qc := qc.gr hgr (by omega)
          replace q6 := q6.gr hgr (by omega)
          replace q8 := q8.gr hgr (by omega)
          have hsz := hgr.size
          replace HG : Hid (IsGr w W4) := HG.out.trans hgr
          replace k6 : g6 < W4.heap.size := by omega
          replace k8 : g8 < W4.heap.size := by omega
          replace ka : w.heap.size < W4.heap.size := by omega
          replace kc : w.heap.size + 1 < W4.heap.size := by omega
          replace ks : w.heap.size + 2 ≤ W4.heap.size := by omega
          clear hsz hgr
          obtain ⟨s0, s1, s2, s3, s4, s5, s6, s7, s8, s9, s10, s11⟩ := q6
          obtain ⟨v0, v1, v2, v3, v4, v5, v6, v7, v8, v9, v10, v11⟩ := q8
          clear qa qc S1 R1
          go_wp2_with fail
          refine (CA _).mono ?_
          rintro e w1 ⟨rfl, os9, dr9, rfl⟩
          go_wp2
          go_ret
          exact ⟨rfl, HG.out.trans (by with_reducible repeat (first | exact IsGr.refl _ | refine IsGr.gr ?_ _ _ | refine IsGr.alloc ?_ _ | refine IsGr.drew ?_ | refine IsGr.drewN ?_ _))⟩

set_option maxRecDepth 20000 in set_option maxHeartbeats 2000000 in
theorem law_meets_y0 (a1 a2 b1 b2 c1 c2 d1 d2 : Int) (N0 : Int) (C1 : (∀ w, Calls Try.prog 19 #[.agg #[.int .i64 a1, .int .i64 a2, .int .i64 b1, .int .i64 b2], .agg #[.int .i64 c1, .int .i64 c2, .int .i64 d1, .int .i64 d2]] w fun e w' => e = .returned (.tuple #[.int .i64 N0, .agg #[.int .u64 0, .int .u64 0, .int .u64 0, .int .u64 0, .int .u64 0, .int .u64 0, .int .u64 0, .int .u64 0, .int .u64 0, .int .u64 0, .int .u64 0, .int .u64 0]]) ∧ IsGr w w')) (C2 : (∀ w, Calls Try.prog 19 #[.agg #[.int .i64 c1, .int .i64 c2, .int .i64 d1, .int .i64 d2], .agg #[.int .i64 a1, .int .i64 a2, .int .i64 b1, .int .i64 b2]] w fun e w' => e = .returned (.tuple #[.int .i64 N0, .agg #[.int .u64 0, .int .u64 0, .int .u64 0, .int .u64 0, .int .u64 0, .int .u64 0, .int .u64 0, .int .u64 0, .int .u64 0, .int .u64 0, .int .u64 0, .int .u64 0]]) ∧ IsGr w w')) (hA : segR a1 a2 b1 b2 = true) (hB : segR c1 c2 d1 d2 = true) (hK : refK a1 a2 b1 b2 c1 c2 d1 d2 = N0) (hn : (N0 == 1) = false)
    (w : World) : Calls Try.prog 5 #[.agg #[.int .i64 a1, .int .i64 a2, .int .i64 b1, .int .i64 b2], .agg #[.int .i64 c1, .int .i64 c2, .int .i64 d1, .int .i64 d2]] w fun e w' => e = .returned (.bool true) ∧ IsGr w w' := by
  have R1 := fun w => lright_any a1 a2 b1 b2 w
  have R2 := fun w => lright_any c1 c2 d1 d2 w
  have S1 := fun w => SRight_any a1 a2 b1 b2 w
  have CA := fun w => awake4_any w
  have Fa := fun w => xref_any a1 a2 w
  have Fb := fun w => xref_any b1 b2 w
  have Fc := fun w => xref_any c1 c2 w
  have Fd := fun w => xref_any d1 d2 w
  have CM := fun w => RSMeet_any a1 a2 b1 b2 c1 c2 d1 d2 w
  rw [hK] at CM
  rw [hA] at R1 S1
  rw [hB] at R2
  clear hA hB hK
  have heS := fun w => eqS_self 0 0 0 0 0 0 0 0 0 0 0 0 w
  go_enter Try.func5, Try.ntmps5
  go_upto_region 1 with fail
  go_cut [5, 6] (fun t5 t6 wr => ∃ g6 : Nat, t5 = .int .i64 N0 ∧ t6 = .pointer (some ⟨g6, 0, none⟩) ∧ g6 < wr.heap.size ∧ Zc wr g6  ∧ Sc wr (w.heap.size) a1 a2 b1 b2 ∧ Sc wr (w.heap.size + 1) c1 c2 d1 d2 ∧ w.heap.size + 2 ≤ wr.heap.size ∧ IsGr w wr)
  case first =>
    go_wp2_with fail
    refine (C1 _).mono ?_
    rintro e w1 ⟨rfl, os1, dr1, rfl⟩
    go_wp2
    go_meet
    case rel =>
      refine ⟨_, rfl, rfl, ?_, ?_, ?_, ?_, ?_, (by with_reducible repeat (first | exact IsGr.refl _ | refine IsGr.gr ?_ _ _ | refine IsGr.alloc ?_ _ | refine IsGr.drew ?_ | refine IsGr.drewN ?_ _))⟩
      · first | omega | (simp; done) | (simp; omega) | (simp [Gr.size]; done) | (simp [Gr.size]; omega)
      · unfold Zc; simp [go_sem]
      · unfold Sc; simp [go_sem]
      · unfold Sc; simp [go_sem]
      · first | omega | (simp; done) | (simp; omega) | (simp [Gr.size]; done) | (simp [Gr.size]; omega)
  case rest =>
    obtain ⟨g6, rfl, rfl, k6, q6, qa, qc, ks, hgw⟩ := hcut
    obtain ⟨W1, hW9⟩ : ∃ W1, W1 = wc := ⟨_, rfl⟩
    subst hW9
    have HG : Hid (IsGr w W1) := hgw
    obtain ⟨x1, x2, x3, x4⟩ := id qa
    obtain ⟨y1, y2, y3, y4⟩ := id qc
    have ka : w.heap.size < W1.heap.size := by omega
    have kc : w.heap.size + 1 < W1.heap.size := by omega
    clear hgw C1
    go_upto_region 2 with fail
    go_cut [7, 8] (fun t7 t8 wr => ∃ g8 : Nat, t7 = .int .i64 N0 ∧ t8 = .pointer (some ⟨g8, 0, none⟩) ∧ g8 < wr.heap.size ∧ Zc wr g8  ∧ IsGr W1 wr)
    case first =>
      go_wp2_with fail
      refine (C2 _).mono ?_
      rintro e w1 ⟨rfl, os2, dr2, rfl⟩
      go_wp2
      go_meet
      case rel =>
        refine ⟨_, rfl, rfl, ?_, ?_, (by with_reducible repeat (first | exact IsGr.refl _ | refine IsGr.gr ?_ _ _ | refine IsGr.alloc ?_ _ | refine IsGr.drew ?_ | refine IsGr.drewN ?_ _))⟩
        · first | omega | (simp; done) | (simp; omega) | (simp [Gr.size]; done) | (simp [Gr.size]; omega)
        · unfold Zc; simp [go_sem]
    case rest =>
      obtain ⟨g8, rfl, rfl, k8, q8, hgr⟩ := hcut
      obtain ⟨W2, hW9⟩ : ∃ W2, W2 = wc := ⟨_, rfl⟩
      subst hW9
      clear C2 x1 x2 x3 x4 y1 y2 y3 y4
      replace qa := qa.gr hgr (by omega)
      replace qc := qc.gr hgr (by omega)
      replace q6 := q6.gr hgr (by omega)
      have hsz := hgr.size
      replace HG : Hid (IsGr w W2) := HG.out.trans hgr
      replace k6 : g6 < W2.heap.size := by omega
      replace ka : w.heap.size < W2.heap.size := by omega
      replace kc : w.heap.size + 1 < W2.heap.size := by omega
      replace ks : w.heap.size + 2 ≤ W2.heap.size := by omega
      clear hsz hgr
      go_upto_region 4 with fail
      go_cut [29] (fun t29 wr => t29 = .bool true ∧ IsGr W2 wr)
      case first =>
        obtain ⟨x1, x2, x3, x4⟩ := qa
        obtain ⟨y1, y2, y3, y4⟩ := qc
        go_wp2_with fail
        refine (R1 _).mono ?_
        rintro e w1 ⟨rfl, os3, dr3, rfl⟩
        go_wp2_with fail
        refine (R2 _).mono ?_
        rintro e w1 ⟨rfl, os4, dr4, rfl⟩
        go_wp2
        go_meet
        case rel => exact ⟨by first | rfl | simp, (by with_reducible repeat (first | exact IsGr.refl _ | refine IsGr.gr ?_ _ _ | refine IsGr.alloc ?_ _ | refine IsGr.drew ?_ | refine IsGr.drewN ?_ _))⟩
      case rest =>
        obtain ⟨rfl, hgr⟩ := hcut
        obtain ⟨W5, hW9⟩ : ∃ W5, W5 = wc := ⟨_, rfl⟩
        subst hW9
        replace qa := qa.gr hgr (by omega)
        replace qc := qc.gr hgr (by omega)
        replace q6 := q6.gr hgr (by omega)
        replace q8 := q8.gr hgr (by omega)
        have hsz := hgr.size
        replace HG : Hid (IsGr w W5) := HG.out.trans hgr
        replace k6 : g6 < W5.heap.size := by omega
        replace k8 : g8 < W5.heap.size := by omega
        replace ka : w.heap.size < W5.heap.size := by omega
        replace kc : w.heap.size + 1 < W5.heap.size := by omega
        replace ks : w.heap.size + 2 ≤ W5.heap.size := by omega
        clear hsz hgr
        clear R2
        go_upto_region 5 with fail
        go_cut [9] (fun t9 wr => t9 = .int .i64 N0 ∧ IsGr W5 wr)
        case first => as_aux_lemma =>
          clear HG CA
          obtain ⟨C, hin, hcl, hcells, hgr⟩ : ∃ C : World → Prop, (∀ w', W5.heap.size ≤ w'.heap.size ∧ IsGr W5 w' ∧ Sc w' (w.heap.size) a1 a2 b1 b2 ∧ Sc w' (w.heap.size + 1) c1 c2 d1 d2 → C w') ∧ (∀ u u', C u → IsGr u u' → C u') ∧ (∀ w', C w' → Sc w' (w.heap.size) a1 a2 b1 b2 ∧ Sc w' (w.heap.size + 1) c1 c2 d1 d2) ∧ (∀ w', C w' → IsGr W5 w') := by
            refine ⟨fun w' => W5.heap.size ≤ w'.heap.size ∧ IsGr W5 w' ∧ Sc w' (w.heap.size) a1 a2 b1 b2 ∧ Sc w' (w.heap.size + 1) c1 c2 d1 d2, fun w' h => h, ?_, fun w' h => h.2.2, fun w' h => h.2.1⟩
            rintro u u' ⟨h0, h1, h2⟩ hg
            exact ⟨Nat.le_trans h0 hg.size, h1.trans hg, h2.1.gr hg (by omega), h2.2.gr hg (by omega)⟩
          refine wp_region_quietV C (by kernel_rfl) (by kernel_rfl) (hin _ ⟨by simp, (by with_reducible repeat (first | exact IsGr.refl _ | refine IsGr.gr ?_ _ _ | refine IsGr.alloc ?_ _ | refine IsGr.drew ?_ | refine IsGr.drewN ?_ _)), ⟨qa, qc⟩⟩) (fun K HK => ?_)
          refine QK.take HK ?_ (by rfl) ?_ ?_
          rotate_left
          · (intro w hw; (try have hcs := hcells w hw); (try unfold Sc at hcs); (try go_split_ands); go_simp <;> with_reducible rfl)
          (try simp only [Act.put, qA, qB, qC])
          refine QK.take HK ?_ (by rfl) ?_ ?_
          rotate_left
          · (intro w hw; (try have hcs := hcells w hw); (try unfold Sc at hcs); (try go_split_ands); go_simp <;> with_reducible rfl)
          (try simp only [Act.put, qA, qB, qC])
          refine QK.call HK 22 #[.agg #[.int .i64 a1, .int .i64 a2]] (.agg #[.int .i64 a1, .int .i64 a2]) hcl (by rfl) (fun w => by go_simp) Fa ?_
          (try simp only [Act.put, qA, qB, qC])
          refine QK.take HK ?_ (by rfl) ?_ ?_
          rotate_left
          · (intro w hw; (try have hcs := hcells w hw); (try unfold Sc at hcs); (try go_split_ands); go_simp <;> with_reducible rfl)
          (try simp only [Act.put, qA, qB, qC])
          refine QK.take HK ?_ (by rfl) ?_ ?_
          rotate_left
          · (intro w hw; (try have hcs := hcells w hw); (try unfold Sc at hcs); (try go_split_ands); go_simp <;> with_reducible rfl)
          (try simp only [Act.put, qA, qB, qC])
          refine QK.call HK 22 #[.agg #[.int .i64 b1, .int .i64 b2]] (.agg #[.int .i64 b1, .int .i64 b2]) hcl (by rfl) (fun w => by go_simp) Fb ?_
          (try simp only [Act.put, qA, qB, qC])
          refine QK.take HK ?_ (by rfl) ?_ ?_
          rotate_left
          · (intro w hw; (try have hcs := hcells w hw); (try unfold Sc at hcs); (try go_split_ands); go_simp <;> with_reducible rfl)
          (try simp only [Act.put, qA, qB, qC])
          refine QK.take HK ?_ (by rfl) ?_ ?_
          rotate_left
          · (intro w hw; (try have hcs := hcells w hw); (try unfold Sc at hcs); (try go_split_ands); go_simp <;> with_reducible rfl)
          (try simp only [Act.put, qA, qB, qC])
          refine QK.call HK 22 #[.agg #[.int .i64 c1, .int .i64 c2]] (.agg #[.int .i64 c1, .int .i64 c2]) hcl (by rfl) (fun w => by go_simp) Fc ?_
          (try simp only [Act.put, qA, qB, qC])
          refine QK.take HK ?_ (by rfl) ?_ ?_
          rotate_left
          · (intro w hw; (try have hcs := hcells w hw); (try unfold Sc at hcs); (try go_split_ands); go_simp <;> with_reducible rfl)
          (try simp only [Act.put, qA, qB, qC])
          refine QK.take HK ?_ (by rfl) ?_ ?_
          rotate_left
          · (intro w hw; (try have hcs := hcells w hw); (try unfold Sc at hcs); (try go_split_ands); go_simp <;> with_reducible rfl)
          (try simp only [Act.put, qA, qB, qC])
          refine QK.call HK 22 #[.agg #[.int .i64 d1, .int .i64 d2]] (.agg #[.int .i64 d1, .int .i64 d2]) hcl (by rfl) (fun w => by go_simp) Fd ?_
          (try simp only [Act.put, qA, qB, qC])
          refine QK.call HK 21 #[.agg #[.int .i64 a1, .int .i64 a2], .agg #[.int .i64 b1, .int .i64 b2], .agg #[.int .i64 c1, .int .i64 c2], .agg #[.int .i64 d1, .int .i64 d2]] (.int .i64 N0) hcl (by rfl) (fun w => by go_simp) CM ?_
          (try simp only [Act.put, qA, qB, qC])
          refine QK.take HK ?_ (by rfl) ?_ ?_
          rotate_left
          · (intro w hw; (try have hcs := hcells w hw); (try unfold Sc at hcs); (try go_split_ands); go_simp <;> with_reducible rfl)
          (try simp only [Act.put, qA, qB, qC])
          refine QK.nil HK ?_
          clear HK K
          intro wq hq
          have hg := hgr wq hq
          clear hcells hin hcl hgr hq
          go_wp2
          go_meet
          case rel => exact ⟨rfl, hg⟩
        case rest =>
          obtain ⟨rfl, hgr⟩ := hcut
          obtain ⟨W3, hW9⟩ : ∃ W3, W3 = wc := ⟨_, rfl⟩
          subst hW9
          replace qa := qa.gr hgr (by omega)
          replace qc := qc.gr hgr (by omega)
          replace q6 := q6.gr hgr (by omega)
          replace q8 := q8.gr hgr (by omega)
          have hsz := hgr.size
          replace HG : Hid (IsGr w W3) := HG.out.trans hgr
          replace k6 : g6 < W3.heap.size := by omega
          replace k8 : g8 < W3.heap.size := by omega
          replace ka : w.heap.size < W3.heap.size := by omega
          replace kc : w.heap.size + 1 < W3.heap.size := by omega
          replace ks : w.heap.size + 2 ≤ W3.heap.size := by omega
          clear hsz hgr
          clear CM
          go_upto_region 6 with fail
          go_cut [57] (fun t57 wr => t57 = .bool false ∧ IsGr W3 wr)
          case first => as_aux_lemma =>
            clear HG CA
            obtain ⟨C, hin, hcl, hcells, hgr⟩ : ∃ C : World → Prop, (∀ w', W3.heap.size ≤ w'.heap.size ∧ IsGr W3 w' ∧ Sc w' (w.heap.size) a1 a2 b1 b2 → C w') ∧ (∀ u u', C u → IsGr u u' → C u') ∧ (∀ w', C w' → Sc w' (w.heap.size) a1 a2 b1 b2) ∧ (∀ w', C w' → IsGr W3 w') := by
              refine ⟨fun w' => W3.heap.size ≤ w'.heap.size ∧ IsGr W3 w' ∧ Sc w' (w.heap.size) a1 a2 b1 b2, fun w' h => h, ?_, fun w' h => h.2.2, fun w' h => h.2.1⟩
              rintro u u' ⟨h0, h1, h2⟩ hg
              exact ⟨Nat.le_trans h0 hg.size, h1.trans hg, h2.gr hg (by omega)⟩
            refine wp_region_quietV C (by kernel_rfl) (by kernel_rfl) (hin _ ⟨by simp, (by with_reducible repeat (first | exact IsGr.refl _ | refine IsGr.gr ?_ _ _ | refine IsGr.alloc ?_ _ | refine IsGr.drew ?_ | refine IsGr.drewN ?_ _)), qa⟩) (fun K HK => ?_)
            refine QK.take HK ?_ (by rfl) ?_ ?_
            rotate_left
            · (intro w hw; (try have hcs := hcells w hw); (try unfold Sc at hcs); (try go_split_ands); go_simp <;> with_reducible rfl)
            (try simp only [Act.put, qA, qB, qC])
            refine QK.take HK ?_ (by rfl) ?_ ?_
            rotate_left
            · (intro w hw; (try have hcs := hcells w hw); (try unfold Sc at hcs); (try go_split_ands); go_simp <;> with_reducible rfl)
            (try simp only [Act.put, qA, qB, qC])
            refine QK.take HK ?_ (by rfl) ?_ ?_
            rotate_left
            · (intro w hw; (try have hcs := hcells w hw); (try unfold Sc at hcs); (try go_split_ands); go_simp <;> with_reducible rfl)
            (try simp only [Act.put, qA, qB, qC])
            refine QK.take HK ?_ (by rfl) ?_ ?_
            rotate_left
            · (intro w hw; (try have hcs := hcells w hw); (try unfold Sc at hcs); (try go_split_ands); go_simp <;> with_reducible rfl)
            (try simp only [Act.put, qA, qB, qC])
            refine QK.take HK ?_ (by rfl) ?_ ?_
            rotate_left
            · (intro w hw; (try have hcs := hcells w hw); (try unfold Sc at hcs); (try go_split_ands); go_simp <;> with_reducible rfl)
            (try simp only [Act.put, qA, qB, qC])
            refine QK.take HK ?_ (by rfl) ?_ ?_
            rotate_left
            · (intro w hw; (try have hcs := hcells w hw); (try unfold Sc at hcs); (try go_split_ands); go_simp <;> with_reducible rfl)
            (try simp only [Act.put, qA, qB, qC])
            refine QK.take HK ?_ (by rfl) ?_ ?_
            rotate_left
            · (intro w hw; (try have hcs := hcells w hw); (try unfold Sc at hcs); (try go_split_ands); go_simp <;> with_reducible rfl)
            (try simp only [Act.put, qA, qB, qC])
            refine QK.take HK ?_ (by rfl) ?_ ?_
            rotate_left
            · (intro w hw; (try have hcs := hcells w hw); (try unfold Sc at hcs); (try go_split_ands); go_simp <;> with_reducible rfl)
            (try simp only [Act.put, qA, qB, qC])
            refine QK.take HK ?_ (by rfl) ?_ ?_
            rotate_left
            · (intro w hw; (try have hcs := hcells w hw); (try unfold Sc at hcs); (try go_split_ands); go_simp <;> with_reducible rfl)
            (try simp only [Act.put, qA, qB, qC])
            refine QK.take HK ?_ (by rfl) ?_ ?_
            rotate_left
            · (intro w hw; (try have hcs := hcells w hw); (try unfold Sc at hcs); (try go_split_ands); go_simp <;> with_reducible rfl)
            (try simp only [Act.put, qA, qB, qC])
            refine QK.call HK 23 #[.agg #[.int .i64 a1, .int .i64 a2, .int .i64 b1, .int .i64 b2]] (.bool true) hcl (by rfl) (fun w => by go_simp) S1 ?_
            (try simp only [Act.put, qA, qB, qC])
            refine QK.take HK ?_ (by rfl) ?_ ?_
            rotate_left
            · (intro w hw; (try have hcs := hcells w hw); (try unfold Sc at hcs); (try go_split_ands); go_simp <;> with_reducible rfl)
            (try simp only [Act.put, qA, qB, qC])
            refine QK.call HK 20 #[.agg #[.int .i64 a1, .int .i64 a2, .int .i64 b1, .int .i64 b2]] (.bool true) hcl (by rfl) (fun w => by go_simp) R1 ?_
            (try simp only [Act.put, qA, qB, qC])
            refine QK.take HK ?_ (by rfl) ?_ ?_
            rotate_left
            · (intro w hw; (try have hcs := hcells w hw); (try unfold Sc at hcs); (try go_split_ands); go_simp <;> with_reducible rfl)
            (try simp only [Act.put, qA, qB, qC])
            refine QK.take HK ?_ (by rfl) ?_ ?_
            rotate_left
            · (intro w hw; (try have hcs := hcells w hw); (try unfold Sc at hcs); (try go_split_ands); go_simp <;> with_reducible rfl)
            (try simp only [Act.put, qA, qB, qC])
            refine QK.nil HK ?_
            clear HK K
            intro wq hq
            have hg := hgr wq hq
            clear hcells hin hcl hgr hq
            go_wp2
            go_meet
            case rel => exact ⟨by simp, hg⟩
          case rest =>
            obtain ⟨rfl, hgr⟩ := hcut
            obtain ⟨W4, hW9⟩ : ∃ W4, W4 = wc := ⟨_, rfl⟩
            subst hW9
            replace qa := qa.gr hgr (by omega)
            replace qc := qc.gr hgr (by omega)
            replace q6 := q6.gr hgr (by omega)
            replace q8 := q8.gr hgr (by omega)
            have hsz := hgr.size
            replace HG : Hid (IsGr w W4) := HG.out.trans hgr
            replace k6 : g6 < W4.heap.size := by omega
            replace k8 : g8 < W4.heap.size := by omega
            replace ka : w.heap.size < W4.heap.size := by omega
            replace kc : w.heap.size + 1 < W4.heap.size := by omega
            replace ks : w.heap.size + 2 ≤ W4.heap.size := by omega
            clear hsz hgr
            obtain ⟨s0, s1, s2, s3, s4, s5, s6, s7, s8, s9, s10, s11⟩ := q6
            obtain ⟨v0, v1, v2, v3, v4, v5, v6, v7, v8, v9, v10, v11⟩ := q8
            clear qa qc S1 R1
            go_wp2_with fail
            refine (CA _).mono ?_
            rintro e w1 ⟨rfl, os9, dr9, rfl⟩
            go_wp2
            go_ret
            exact ⟨rfl, HG.out.trans (by with_reducible repeat (first | exact IsGr.refl _ | refine IsGr.gr ?_ _ _ | refine IsGr.alloc ?_ _ | refine IsGr.drew ?_ | refine IsGr.drewN ?_ _))⟩

set_option maxRecDepth 20000 in set_option maxHeartbeats 2000000 in
theorem law_meets_y1 (a1 a2 b1 b2 c1 c2 d1 d2 : Int) (x y z : Int) (C1 : (∀ w, Calls Try.prog 19 #[.agg #[.int .i64 a1, .int .i64 a2, .int .i64 b1, .int .i64 b2], .agg #[.int .i64 c1, .int .i64 c2, .int .i64 d1, .int .i64 d2]] w fun e w' => e = .returned (.tuple #[.int .i64 1, .agg #[.int .u64 (wd0 x), .int .u64 (wd1 x), .int .u64 (wd2 x), .int .u64 (wd3 x), .int .u64 (wd0 y), .int .u64 (wd1 y), .int .u64 (wd2 y), .int .u64 (wd3 y), .int .u64 (wd0 z), .int .u64 (wd1 z), .int .u64 (wd2 z), .int .u64 (wd3 z)]]) ∧ IsGr w w')) (C2 : (∀ w, Calls Try.prog 19 #[.agg #[.int .i64 c1, .int .i64 c2, .int .i64 d1, .int .i64 d2], .agg #[.int .i64 a1, .int .i64 a2, .int .i64 b1, .int .i64 b2]] w fun e w' => e = .returned (.tuple #[.int .i64 1, .agg #[.int .u64 (wd0 x), .int .u64 (wd1 x), .int .u64 (wd2 x), .int .u64 (wd3 x), .int .u64 (wd0 y), .int .u64 (wd1 y), .int .u64 (wd2 y), .int .u64 (wd3 y), .int .u64 (wd0 z), .int .u64 (wd1 z), .int .u64 (wd2 z), .int .u64 (wd3 z)]]) ∧ IsGr w w')) (hA : segR a1 a2 b1 b2 = true) (hB : segR c1 c2 d1 d2 = true) (hK : refK a1 a2 b1 b2 c1 c2 d1 d2 = 1) (fx : Fit x) (fy : Fit y) (fz : Fit z) (hs : spotR x y z = true) (h1 : holdsR a1 a2 b1 b2 x y z = true) (h2 : holdsR c1 c2 d1 d2 x y z = true)
    (w : World) : Calls Try.prog 5 #[.agg #[.int .i64 a1, .int .i64 a2, .int .i64 b1, .int .i64 b2], .agg #[.int .i64 c1, .int .i64 c2, .int .i64 d1, .int .i64 d2]] w fun e w' => e = .returned (.bool true) ∧ IsGr w w' := by
  obtain ⟨ra, rb⟩ : rightP a1 a2 = true ∧ rightP b1 b2 = true := by simpa [segR] using hA
  obtain ⟨rc, rd⟩ : rightP c1 c2 = true ∧ rightP d1 d2 = true := by simpa [segR] using hB
  have CX := fun w => lspot_any x y z fx fy fz w
  have R1 := fun w => lright_any a1 a2 b1 b2 w
  have R2 := fun w => lright_any c1 c2 d1 d2 w
  have S1 := fun w => SRight_any a1 a2 b1 b2 w
  have CA := fun w => awake4_any w
  have Fa := fun w => xref_any a1 a2 w
  have Fb := fun w => xref_any b1 b2 w
  have Fc := fun w => xref_any c1 c2 w
  have Fd := fun w => xref_any d1 d2 w
  have CM := fun w => RSMeet_any a1 a2 b1 b2 c1 c2 d1 d2 w
  rw [hK] at CM
  rw [hA] at R1 S1
  rw [hB] at R2
  clear hA hB hK
  go_enter Try.func5, Try.ntmps5
  go_upto_region 1 with fail
  go_cut [5, 6] (fun t5 t6 wr => ∃ g6 : Nat, t5 = .int .i64 1 ∧ t6 = .pointer (some ⟨g6, 0, none⟩) ∧ g6 < wr.heap.size ∧ Kc wr g6 x y z ∧ Sc wr (w.heap.size) a1 a2 b1 b2 ∧ Sc wr (w.heap.size + 1) c1 c2 d1 d2 ∧ w.heap.size + 2 ≤ wr.heap.size ∧ IsGr w wr)
  case first =>
    go_wp2_with fail
    refine (C1 _).mono ?_
    rintro e w1 ⟨rfl, os1, dr1, rfl⟩
    go_wp2
    go_meet
    case rel =>
      refine ⟨_, rfl, rfl, ?_, ?_, ?_, ?_, ?_, (by with_reducible repeat (first | exact IsGr.refl _ | refine IsGr.gr ?_ _ _ | refine IsGr.alloc ?_ _ | refine IsGr.drew ?_ | refine IsGr.drewN ?_ _))⟩
      · first | omega | (simp; done) | (simp; omega) | (simp [Gr.size]; done) | (simp [Gr.size]; omega)
      · unfold Kc; simp [go_sem]
      · unfold Sc; simp [go_sem]
      · unfold Sc; simp [go_sem]
      · first | omega | (simp; done) | (simp; omega) | (simp [Gr.size]; done) | (simp [Gr.size]; omega)
  case rest =>
    obtain ⟨g6, rfl, rfl, k6, q6, qa, qc, ks, hgw⟩ := hcut
    obtain ⟨W1, hW9⟩ : ∃ W1, W1 = wc := ⟨_, rfl⟩
    subst hW9
    have HG : Hid (IsGr w W1) := hgw
    obtain ⟨x1, x2, x3, x4⟩ := id qa
    obtain ⟨y1, y2, y3, y4⟩ := id qc
    have ka : w.heap.size < W1.heap.size := by omega
    have kc : w.heap.size + 1 < W1.heap.size := by omega
    clear hgw C1
    go_upto_region 2 with fail
    go_cut [7, 8] (fun t7 t8 wr => ∃ g8 : Nat, t7 = .int .i64 1 ∧ t8 = .pointer (some ⟨g8, 0, none⟩) ∧ g8 < wr.heap.size ∧ Kc wr g8 x y z ∧ IsGr W1 wr)
    case first =>
      go_wp2_with fail
      refine (C2 _).mono ?_
      rintro e w1 ⟨rfl, os2, dr2, rfl⟩
      go_wp2
      go_meet
      case rel =>
        refine ⟨_, rfl, rfl, ?_, ?_, (by with_reducible repeat (first | exact IsGr.refl _ | refine IsGr.gr ?_ _ _ | refine IsGr.alloc ?_ _ | refine IsGr.drew ?_ | refine IsGr.drewN ?_ _))⟩
        · first | omega | (simp; done) | (simp; omega) | (simp [Gr.size]; done) | (simp [Gr.size]; omega)
        · unfold Kc; simp [go_sem]
    case rest =>
      obtain ⟨g8, rfl, rfl, k8, q8, hgr⟩ := hcut
      obtain ⟨W2, hW9⟩ : ∃ W2, W2 = wc := ⟨_, rfl⟩
      subst hW9
      clear C2 x1 x2 x3 x4 y1 y2 y3 y4
      replace qa := qa.gr hgr (by omega)
      replace qc := qc.gr hgr (by omega)
      replace q6 := q6.gr hgr (by omega)
      have hsz := hgr.size
      replace HG : Hid (IsGr w W2) := HG.out.trans hgr
      replace k6 : g6 < W2.heap.size := by omega
      replace ka : w.heap.size < W2.heap.size := by omega
      replace kc : w.heap.size + 1 < W2.heap.size := by omega
      replace ks : w.heap.size + 2 ≤ W2.heap.size := by omega
      clear hsz hgr
      go_upto_region 4 with fail
      go_cut [29] (fun t29 wr => t29 = .bool true ∧ IsGr W2 wr)
      case first =>
        obtain ⟨x1, x2, x3, x4⟩ := qa
        obtain ⟨y1, y2, y3, y4⟩ := qc
        go_wp2_with fail
        refine (R1 _).mono ?_
        rintro e w1 ⟨rfl, os3, dr3, rfl⟩
        go_wp2_with fail
        refine (R2 _).mono ?_
        rintro e w1 ⟨rfl, os4, dr4, rfl⟩
        go_wp2
        go_meet
        case rel => exact ⟨by first | rfl | simp, (by with_reducible repeat (first | exact IsGr.refl _ | refine IsGr.gr ?_ _ _ | refine IsGr.alloc ?_ _ | refine IsGr.drew ?_ | refine IsGr.drewN ?_ _))⟩
      case rest =>
        obtain ⟨rfl, hgr⟩ := hcut
        obtain ⟨W5, hW9⟩ : ∃ W5, W5 = wc := ⟨_, rfl⟩
        subst hW9
        replace qa := qa.gr hgr (by omega)
        replace qc := qc.gr hgr (by omega)
        replace q6 := q6.gr hgr (by omega)
        replace q8 := q8.gr hgr (by omega)
        have hsz := hgr.size
        replace HG : Hid (IsGr w W5) := HG.out.trans hgr
        replace k6 : g6 < W5.heap.size := by omega
        replace k8 : g8 < W5.heap.size := by omega
        replace ka : w.heap.size < W5.heap.size := by omega
        replace kc : w.heap.size + 1 < W5.heap.size := by omega
        replace ks : w.heap.size + 2 ≤ W5.heap.size := by omega
        clear hsz hgr
        clear R2
        go_upto_region 5 with fail
        go_cut [9] (fun t9 wr => t9 = .int .i64 1 ∧ IsGr W5 wr)
        case first => as_aux_lemma =>
          clear HG CA
          obtain ⟨C, hin, hcl, hcells, hgr⟩ : ∃ C : World → Prop, (∀ w', W5.heap.size ≤ w'.heap.size ∧ IsGr W5 w' ∧ Sc w' (w.heap.size) a1 a2 b1 b2 ∧ Sc w' (w.heap.size + 1) c1 c2 d1 d2 → C w') ∧ (∀ u u', C u → IsGr u u' → C u') ∧ (∀ w', C w' → Sc w' (w.heap.size) a1 a2 b1 b2 ∧ Sc w' (w.heap.size + 1) c1 c2 d1 d2) ∧ (∀ w', C w' → IsGr W5 w') := by
            refine ⟨fun w' => W5.heap.size ≤ w'.heap.size ∧ IsGr W5 w' ∧ Sc w' (w.heap.size) a1 a2 b1 b2 ∧ Sc w' (w.heap.size + 1) c1 c2 d1 d2, fun w' h => h, ?_, fun w' h => h.2.2, fun w' h => h.2.1⟩
            rintro u u' ⟨h0, h1, h2⟩ hg
            exact ⟨Nat.le_trans h0 hg.size, h1.trans hg, h2.1.gr hg (by omega), h2.2.gr hg (by omega)⟩
          refine wp_region_quietV C (by kernel_rfl) (by kernel_rfl) (hin _ ⟨by simp, (by with_reducible repeat (first | exact IsGr.refl _ | refine IsGr.gr ?_ _ _ | refine IsGr.alloc ?_ _ | refine IsGr.drew ?_ | refine IsGr.drewN ?_ _)), ⟨qa, qc⟩⟩) (fun K HK => ?_)
          refine QK.take HK ?_ (by rfl) ?_ ?_
          rotate_left
          · (intro w hw; (try have hcs := hcells w hw); (try unfold Sc at hcs); (try go_split_ands); go_simp <;> with_reducible rfl)
          (try simp only [Act.put, qA, qB, qC])
          refine QK.take HK ?_ (by rfl) ?_ ?_
          rotate_left
          · (intro w hw; (try have hcs := hcells w hw); (try unfold Sc at hcs); (try go_split_ands); go_simp <;> with_reducible rfl)
          (try simp only [Act.put, qA, qB, qC])
          refine QK.call HK 22 #[.agg #[.int .i64 a1, .int .i64 a2]] (.agg #[.int .i64 a1, .int .i64 a2]) hcl (by rfl) (fun w => by go_simp) Fa ?_
          (try simp only [Act.put, qA, qB, qC])
          refine QK.take HK ?_ (by rfl) ?_ ?_
          rotate_left
          · (intro w hw; (try have hcs := hcells w hw); (try unfold Sc at hcs); (try go_split_ands); go_simp <;> with_reducible rfl)
          (try simp only [Act.put, qA, qB, qC])
          refine QK.take HK ?_ (by rfl) ?_ ?_
          rotate_left
          · (intro w hw; (try have hcs := hcells w hw); (try unfold Sc at hcs); (try go_split_ands); go_simp <;> with_reducible rfl)
          (try simp only [Act.put, qA, qB, qC])
          refine QK.call HK 22 #[.agg #[.int .i64 b1, .int .i64 b2]] (.agg #[.int .i64 b1, .int .i64 b2]) hcl (by rfl) (fun w => by go_simp) Fb ?_
          (try simp only [Act.put, qA, qB, qC])
          refine QK.take HK ?_ (by rfl) ?_ ?_
          rotate_left
          · (intro w hw; (try have hcs := hcells w hw); (try unfold Sc at hcs); (try go_split_ands); go_simp <;> with_reducible rfl)
          (try simp only [Act.put, qA, qB, qC])
          refine QK.take HK ?_ (by rfl) ?_ ?_
          rotate_left
          · (intro w hw; (try have hcs := hcells w hw); (try unfold Sc at hcs); (try go_split_ands); go_simp <;> with_reducible rfl)
          (try simp only [Act.put, qA, qB, qC])
          refine QK.call HK 22 #[.agg #[.int .i64 c1, .int .i64 c2]] (.agg #[.int .i64 c1, .int .i64 c2]) hcl (by rfl) (fun w => by go_simp) Fc ?_
          (try simp only [Act.put, qA, qB, qC])
          refine QK.take HK ?_ (by rfl) ?_ ?_
          rotate_left
          · (intro w hw; (try have hcs := hcells w hw); (try unfold Sc at hcs); (try go_split_ands); go_simp <;> with_reducible rfl)
          (try simp only [Act.put, qA, qB, qC])
          refine QK.take HK ?_ (by rfl) ?_ ?_
          rotate_left
          · (intro w hw; (try have hcs := hcells w hw); (try unfold Sc at hcs); (try go_split_ands); go_simp <;> with_reducible rfl)
          (try simp only [Act.put, qA, qB, qC])
          refine QK.call HK 22 #[.agg #[.int .i64 d1, .int .i64 d2]] (.agg #[.int .i64 d1, .int .i64 d2]) hcl (by rfl) (fun w => by go_simp) Fd ?_
          (try simp only [Act.put, qA, qB, qC])
          refine QK.call HK 21 #[.agg #[.int .i64 a1, .int .i64 a2], .agg #[.int .i64 b1, .int .i64 b2], .agg #[.int .i64 c1, .int .i64 c2], .agg #[.int .i64 d1, .int .i64 d2]] (.int .i64 1) hcl (by rfl) (fun w => by go_simp) CM ?_
          (try simp only [Act.put, qA, qB, qC])
          refine QK.take HK ?_ (by rfl) ?_ ?_
          rotate_left
          · (intro w hw; (try have hcs := hcells w hw); (try unfold Sc at hcs); (try go_split_ands); go_simp <;> with_reducible rfl)
          (try simp only [Act.put, qA, qB, qC])
          refine QK.nil HK ?_
          clear HK K
          intro wq hq
          have hg := hgr wq hq
          clear hcells hin hcl hgr hq
          go_wp2
          go_meet
          case rel => exact ⟨rfl, hg⟩
        case rest =>
          obtain ⟨rfl, hgr⟩ := hcut
          obtain ⟨W3, hW9⟩ : ∃ W3, W3 = wc := ⟨_, rfl⟩
          subst hW9
          replace qa := qa.gr hgr (by omega)
          replace qc := qc.gr hgr (by omega)
          replace q6 := q6.gr hgr (by omega)
          replace q8 := q8.gr hgr (by omega)
          have hsz := hgr.size
          replace HG : Hid (IsGr w W3) := HG.out.trans hgr
          replace k6 : g6 < W3.heap.size := by omega
          replace k8 : g8 < W3.heap.size := by omega
          replace ka : w.heap.size < W3.heap.size := by omega
          replace kc : w.heap.size + 1 < W3.heap.size := by omega
          replace ks : w.heap.size + 2 ≤ W3.heap.size := by omega
          clear hsz hgr
          clear CM
          go_upto_region 6 with fail
          go_cut [57] (fun t57 wr => t57 = .bool false ∧ IsGr W3 wr)
          case first => as_aux_lemma =>
            clear HG CA
            obtain ⟨C, hin, hcl, hcells, hgr⟩ : ∃ C : World → Prop, (∀ w', W3.heap.size ≤ w'.heap.size ∧ IsGr W3 w' ∧ Sc w' (w.heap.size) a1 a2 b1 b2 → C w') ∧ (∀ u u', C u → IsGr u u' → C u') ∧ (∀ w', C w' → Sc w' (w.heap.size) a1 a2 b1 b2) ∧ (∀ w', C w' → IsGr W3 w') := by
              refine ⟨fun w' => W3.heap.size ≤ w'.heap.size ∧ IsGr W3 w' ∧ Sc w' (w.heap.size) a1 a2 b1 b2, fun w' h => h, ?_, fun w' h => h.2.2, fun w' h => h.2.1⟩
              rintro u u' ⟨h0, h1, h2⟩ hg
              exact ⟨Nat.le_trans h0 hg.size, h1.trans hg, h2.gr hg (by omega)⟩
            refine wp_region_quietV C (by kernel_rfl) (by kernel_rfl) (hin _ ⟨by simp, (by with_reducible repeat (first | exact IsGr.refl _ | refine IsGr.gr ?_ _ _ | refine IsGr.alloc ?_ _ | refine IsGr.drew ?_ | refine IsGr.drewN ?_ _)), qa⟩) (fun K HK => ?_)
            refine QK.take HK ?_ (by rfl) ?_ ?_
            rotate_left
            · (intro w hw; (try have hcs := hcells w hw); (try unfold Sc at hcs); (try go_split_ands); go_simp <;> with_reducible rfl)
            (try simp only [Act.put, qA, qB, qC])
            refine QK.take HK ?_ (by rfl) ?_ ?_
            rotate_left
            · (intro w hw; (try have hcs := hcells w hw); (try unfold Sc at hcs); (try go_split_ands); go_simp <;> with_reducible rfl)
            (try simp only [Act.put, qA, qB, qC])
            refine QK.take HK ?_ (by rfl) ?_ ?_
            rotate_left
            · (intro w hw; (try have hcs := hcells w hw); (try unfold Sc at hcs); (try go_split_ands); go_simp <;> with_reducible rfl)
            (try simp only [Act.put, qA, qB, qC])
            refine QK.take HK ?_ (by rfl) ?_ ?_
            rotate_left
            · (intro w hw; (try have hcs := hcells w hw); (try unfold Sc at hcs); (try go_split_ands); go_simp <;> with_reducible rfl)
            (try simp only [Act.put, qA, qB, qC])
            refine QK.take HK ?_ (by rfl) ?_ ?_
            rotate_left
            · (intro w hw; (try have hcs := hcells w hw); (try unfold Sc at hcs); (try go_split_ands); go_simp <;> with_reducible rfl)
            (try simp only [Act.put, qA, qB, qC])
            refine QK.take HK ?_ (by rfl) ?_ ?_
            rotate_left
            · (intro w hw; (try have hcs := hcells w hw); (try unfold Sc at hcs); (try go_split_ands); go_simp <;> with_reducible rfl)
            (try simp only [Act.put, qA, qB, qC])
            refine QK.take HK ?_ (by rfl) ?_ ?_
            rotate_left
            · (intro w hw; (try have hcs := hcells w hw); (try unfold Sc at hcs); (try go_split_ands); go_simp <;> with_reducible rfl)
            (try simp only [Act.put, qA, qB, qC])
            refine QK.take HK ?_ (by rfl) ?_ ?_
            rotate_left
            · (intro w hw; (try have hcs := hcells w hw); (try unfold Sc at hcs); (try go_split_ands); go_simp <;> with_reducible rfl)
            (try simp only [Act.put, qA, qB, qC])
            refine QK.take HK ?_ (by rfl) ?_ ?_
            rotate_left
            · (intro w hw; (try have hcs := hcells w hw); (try unfold Sc at hcs); (try go_split_ands); go_simp <;> with_reducible rfl)
            (try simp only [Act.put, qA, qB, qC])
            refine QK.take HK ?_ (by rfl) ?_ ?_
            rotate_left
            · (intro w hw; (try have hcs := hcells w hw); (try unfold Sc at hcs); (try go_split_ands); go_simp <;> with_reducible rfl)
            (try simp only [Act.put, qA, qB, qC])
            refine QK.call HK 23 #[.agg #[.int .i64 a1, .int .i64 a2, .int .i64 b1, .int .i64 b2]] (.bool true) hcl (by rfl) (fun w => by go_simp) S1 ?_
            (try simp only [Act.put, qA, qB, qC])
            refine QK.take HK ?_ (by rfl) ?_ ?_
            rotate_left
            · (intro w hw; (try have hcs := hcells w hw); (try unfold Sc at hcs); (try go_split_ands); go_simp <;> with_reducible rfl)
            (try simp only [Act.put, qA, qB, qC])
            refine QK.call HK 20 #[.agg #[.int .i64 a1, .int .i64 a2, .int .i64 b1, .int .i64 b2]] (.bool true) hcl (by rfl) (fun w => by go_simp) R1 ?_
            (try simp only [Act.put, qA, qB, qC])
            refine QK.take HK ?_ (by rfl) ?_ ?_
            rotate_left
            · (intro w hw; (try have hcs := hcells w hw); (try unfold Sc at hcs); (try go_split_ands); go_simp <;> with_reducible rfl)
            (try simp only [Act.put, qA, qB, qC])
            refine QK.take HK ?_ (by rfl) ?_ ?_
            rotate_left
            · (intro w hw; (try have hcs := hcells w hw); (try unfold Sc at hcs); (try go_split_ands); go_simp <;> with_reducible rfl)
            (try simp only [Act.put, qA, qB, qC])
            refine QK.nil HK ?_
            clear HK K
            intro wq hq
            have hg := hgr wq hq
            clear hcells hin hcl hgr hq
            go_wp2
            go_meet
            case rel => exact ⟨by simp, hg⟩
          case rest =>
            obtain ⟨rfl, hgr⟩ := hcut
            obtain ⟨W4, hW9⟩ : ∃ W4, W4 = wc := ⟨_, rfl⟩
            subst hW9
            replace qa := qa.gr hgr (by omega)
            replace qc := qc.gr hgr (by omega)
            replace q6 := q6.gr hgr (by omega)
            replace q8 := q8.gr hgr (by omega)
            have hsz := hgr.size
            replace HG : Hid (IsGr w W4) := HG.out.trans hgr
            replace k6 : g6 < W4.heap.size := by omega
            replace k8 : g8 < W4.heap.size := by omega
            replace ka : w.heap.size < W4.heap.size := by omega
            replace kc : w.heap.size + 1 < W4.heap.size := by omega
            replace ks : w.heap.size + 2 ≤ W4.heap.size := by omega
            clear hsz hgr
            clear S1 R1
            go_upto_region 10 with fail
            go_cut [10, 11] (fun t10 t11 wr => SpBox wr t10 x y z ∧ SpBox wr t11 x y z ∧ IsGr W4 wr)
            case first => as_aux_lemma =>
              clear HG CA Fa Fb Fc Fd
              have SO : ∀ w', IsGr W4 w' → Kc w' g6 x y z ∧ Kc w' g8 x y z := fun w' hgr => ⟨q6.gr hgr k6, q8.gr hgr k8⟩
              refine wp_region_held_drew (S := (fun w' => Kc w' g6 x y z ∧ Kc w' g8 x y z)) (by kernel_rfl) (by (try dsimp only); exact SO _ (by with_reducible repeat (first | exact IsGr.refl _ | refine IsGr.gr ?_ _ _ | refine IsGr.alloc ?_ _ | refine IsGr.drew ?_ | refine IsGr.drewN ?_ _))) (fun hHeld => ?_)
              refine wpAnyH_take (i := 0) (oi := { dst := some 71, op := Op.load 46 (Operand.tmp 6), type := 46, pos := "law.go:43", after := #[], guard := none }) (v := ?_) rfl (by kernel_rfl) (by kernel_rfl) (by kernel_rfl) (fun _ _ _ h => h) (Or.inl ⟨by rfl, ?_⟩) (by assumption) ?_
              rotate_left
              · (intro w hSw; (try dsimp only at hSw); unfold Kc at hSw; (try go_split_ands); go_simp <;> with_reducible rfl)
              (try simp only [Act.put, qA, qB, qC])
              refine wpAnyH_take (i := 2) (oi := { dst := some 73, op := Op.load 46 (Operand.tmp 8), type := 46, pos := "law.go:43", after := #[], guard := none }) (v := ?_) rfl (by kernel_rfl) (by kernel_rfl) (by kernel_rfl) (fun _ _ _ h => h) (Or.inl ⟨by rfl, ?_⟩) (by assumption) ?_
              rotate_left
              · (intro w hSw; (try dsimp only at hSw); unfold Kc at hSw; (try go_split_ands); go_simp <;> with_reducible rfl)
              (try simp only [Act.put, qA, qB, qC])
              refine wpAnyH_invA [1, 3, 4, 5, 6, 7] (fun A D a w => ∃ t1 t3 t4 t5 : Value, a = ((((A.put (some 72) t1).put (some 74) t3).put (some 10) t4).put (some 11) t5) ∧ IsGr W4 w ∧ (D 1 → IsSp w t1 x y z) ∧ (D 3 → IsSp w t3 x y z) ∧ (D 4 → BxS W4 w 55 t4) ∧ (D 5 → BxS W4 w 55 t5) ∧ (D 4 → D 5 → t4 ≠ t5) ∧ (D 6 → D 4 ∧ D 1 ∧ ∃ c0 c1 c2 c3 c4 c5 : Value, t1 = .agg #[c0, c1, c2, c3, c4, c5] ∧ Hx6 w 55 t4 c0 c1 c2 c3 c4 c5) ∧ (D 7 → D 5 ∧ D 3 ∧ ∃ c0 c1 c2 c3 c4 c5 : Value, t3 = .agg #[c0, c1, c2, c3, c4, c5] ∧ Hx6 w 55 t5 c0 c1 c2 c3 c4 c5)) (by kernel_rfl) (by assumption) ?_ ?_ ?_
              · exact ⟨_, _, _, _, by (simp only [Act.put, qA, qB, qC]); try rfl, (by with_reducible repeat (first | exact IsGr.refl _ | refine IsGr.gr ?_ _ _ | refine IsGr.alloc ?_ _ | refine IsGr.drew ?_ | refine IsGr.drewN ?_ _)), fun h => h.elim, fun h => h.elim, fun h => h.elim, fun h => h.elim, fun h => h.elim, fun h => h.elim, fun h => h.elim⟩
              · intro D a w hD hF hSw
                obtain ⟨t1, t3, t4, t5, ha, hg, f1, f3, b4, b5, p4_5, h6, h7⟩ := hF
                replace f1 := f1 (hD 1 (by simp))
                replace f3 := f3 (hD 3 (by simp))
                replace h6 := (h6 (hD 6 (by simp))).2.2
                replace h7 := (h7 (hD 7 (by simp))).2.2
                clear hD hHeld b4 b5 p4_5
                subst ha
                (try simp only [Act.put, qA, qB, qC])
                have A1 := SpBox.of h6 f1
                have A2 := SpBox.of h7 f3
                clear f1 f3 h6 h7 hSw
                go_wp2
                go_meet
                case rel => exact ⟨A1, A2, hg⟩
              refine StepI.cons (i := 1) (o := { dst := some 72, op := Op.call { callee := Callee.value (Operand.func 25), args := #[Operand.tmp 71], argTypes := #[46] }, type := 55, pos := "law.go:43", after := #[{ on := 0, ground := Ground.data }], guard := none }) (ns := []) rfl (by kernel_rfl) (fun D a w nD hn hF hSw K hK => ?_) ?_
              · obtain ⟨t1, t3, t4, t5, ha, hg, f1, f3, b4, b5, p4_5, h6, h7⟩ := hF
                subst ha
                (try simp only [Act.put, qA, qB, qC])
                go_simp
                refine (CX _).mono ?_
                rintro e w1 ⟨q, rfl, hq, hg1⟩
                (try go_wp2_with fail)
                refine hK.out _ _ (SO _ (hg.trans hg1)) (fun _ => ?_)
                refine ⟨q, t3, t4, t5, by (simp only [Act.put, qA, qB, qC]); try rfl, (hg.trans hg1), ?_, ?_, ?_, ?_, ?_, ?_, ?_⟩
                · exact fun _ => hq
                · exact fun h => (f3 (Or.resolve_left h (by decide))).gr hg1
                · exact fun h => (b4 (Or.resolve_left h (by decide))).gr hg1
                · exact fun h => (b5 (Or.resolve_left h (by decide))).gr hg1
                · exact fun h h' => p4_5 (Or.resolve_left h (by decide)) (Or.resolve_left h' (by decide))
                · exact fun h => absurd (h6 (Or.resolve_left h (by decide))).2.1 nD
                · exact fun h => (h7 (Or.resolve_left h (by decide))).imp Or.inr (fun ⟨x1, c0, c1, c2, c3, c4, c5, x2, x3⟩ => ⟨Or.inr x1, c0, c1, c2, c3, c4, c5, x2, x3.gr hg1⟩)
              refine StepI.cons (i := 3) (o := { dst := some 74, op := Op.call { callee := Callee.value (Operand.func 25), args := #[Operand.tmp 73], argTypes := #[46] }, type := 55, pos := "law.go:43", after := #[{ on := 2, ground := Ground.data }, { on := 1, ground := Ground.chain }], guard := none }) (ns := [1]) rfl (by kernel_rfl) (fun D a w nD hn hF hSw K hK => ?_) ?_
              · obtain ⟨t1, t3, t4, t5, ha, hg, f1, f3, b4, b5, p4_5, h6, h7⟩ := hF
                have d1 : D 1 := hn 1 (by simp)
                subst ha
                (try simp only [Act.put, qA, qB, qC])
                go_simp
                refine (CX _).mono ?_
                rintro e w1 ⟨q, rfl, hq, hg1⟩
                (try go_wp2_with fail)
                refine hK.out _ _ (SO _ (hg.trans hg1)) (fun _ => ?_)
                refine ⟨t1, q, t4, t5, by (simp only [Act.put, qA, qB, qC]); try rfl, (hg.trans hg1), ?_, ?_, ?_, ?_, ?_, ?_, ?_⟩
                · exact fun h => (f1 (Or.resolve_left h (by decide))).gr hg1
                · exact fun _ => hq
                · exact fun h => (b4 (Or.resolve_left h (by decide))).gr hg1
                · exact fun h => (b5 (Or.resolve_left h (by decide))).gr hg1
                · exact fun h h' => p4_5 (Or.resolve_left h (by decide)) (Or.resolve_left h' (by decide))
                · exact fun h => (h6 (Or.resolve_left h (by decide))).imp Or.inr (fun ⟨x1, c0, c1, c2, c3, c4, c5, x2, x3⟩ => ⟨Or.inr x1, c0, c1, c2, c3, c4, c5, x2, x3.gr hg1⟩)
                · exact fun h => absurd (h7 (Or.resolve_left h (by decide))).2.1 nD
              refine StepI.cons (i := 4) (o := { dst := some 10, op := Op.alloc 55, type := 0, pos := "law.go:43", after := #[], guard := none }) (ns := []) rfl (by kernel_rfl) (fun D a w nD hn hF hSw K hK => ?_) ?_
              · obtain ⟨t1, t3, t4, t5, ha, hg, f1, f3, b4, b5, p4_5, h6, h7⟩ := hF
                subst ha
                (try simp only [Act.put, qA, qB, qC])
                go_simp
                refine hK.out _ _ (SO _ (hg.alloc _)) (fun _ => ?_)
                refine ⟨t1, t3, _, t5, by (simp only [Act.put, qA, qB, qC]); try rfl, (hg.alloc _), ?_, ?_, ?_, ?_, ?_, ?_, ?_⟩
                · exact fun h => (f1 (Or.resolve_left h (by decide))).gr ((IsGr.refl _).alloc _)
                · exact fun h => (f3 (Or.resolve_left h (by decide))).gr ((IsGr.refl _).alloc _)
                · exact fun _ => BxS.lay hg
                · exact fun h => (b5 (Or.resolve_left h (by decide))).gr ((IsGr.refl _).alloc _)
                · exact fun _ h' => Ne.symm (b5 (Or.resolve_left h' (by decide))).ne
                · exact fun h => absurd (h6 (Or.resolve_left h (by decide))).1 nD
                · exact fun h => (h7 (Or.resolve_left h (by decide))).imp Or.inr (fun ⟨x1, c0, c1, c2, c3, c4, c5, x2, x3⟩ => ⟨Or.inr x1, c0, c1, c2, c3, c4, c5, x2, x3.gr ((IsGr.refl _).alloc _)⟩)
              refine StepI.cons (i := 5) (o := { dst := some 11, op := Op.alloc 55, type := 0, pos := "law.go:43", after := #[], guard := none }) (ns := []) rfl (by kernel_rfl) (fun D a w nD hn hF hSw K hK => ?_) ?_
              · obtain ⟨t1, t3, t4, t5, ha, hg, f1, f3, b4, b5, p4_5, h6, h7⟩ := hF
                subst ha
                (try simp only [Act.put, qA, qB, qC])
                go_simp
                refine hK.out _ _ (SO _ (hg.alloc _)) (fun _ => ?_)
                refine ⟨t1, t3, t4, _, by (simp only [Act.put, qA, qB, qC]); try rfl, (hg.alloc _), ?_, ?_, ?_, ?_, ?_, ?_, ?_⟩
                · exact fun h => (f1 (Or.resolve_left h (by decide))).gr ((IsGr.refl _).alloc _)
                · exact fun h => (f3 (Or.resolve_left h (by decide))).gr ((IsGr.refl _).alloc _)
                · exact fun h => (b4 (Or.resolve_left h (by decide))).gr ((IsGr.refl _).alloc _)
                · exact fun _ => BxS.lay hg
                · exact fun h _ => (b4 (Or.resolve_left h (by decide))).ne
                · exact fun h => (h6 (Or.resolve_left h (by decide))).imp Or.inr (fun ⟨x1, c0, c1, c2, c3, c4, c5, x2, x3⟩ => ⟨Or.inr x1, c0, c1, c2, c3, c4, c5, x2, x3.gr ((IsGr.refl _).alloc _)⟩)
                · exact fun h => absurd (h7 (Or.resolve_left h (by decide))).1 nD
              refine StepI.cons (i := 6) (o := { dst := none, op := Op.store 55 (Operand.tmp 10) (Operand.tmp 72), type := 0, pos := "law.go:43", after := #[{ on := 4, ground := Ground.data }, { on := 1, ground := Ground.data }, { on := 3, ground := Ground.chain }, { on := 0, ground := Ground.phase }, { on := 1, ground := Ground.phase }, { on := 2, ground := Ground.textOnly Departure.lateStores }, { on := 3, ground := Ground.textOnly Departure.lateStoresUnsure }, { on := 4, ground := Ground.phase }, { on := 5, ground := Ground.phase }], guard := none }) (ns := [4, 1, 3, 1, 4, 5]) rfl (by kernel_rfl) (fun D a w nD hn hF hSw K hK => ?_) ?_
              · obtain ⟨t1, t3, t4, t5, ha, hg, f1, f3, b4, b5, p4_5, h6, h7⟩ := hF
                have d1 : D 1 := hn 1 (by simp)
                have d3 : D 3 := hn 3 (by simp)
                have d4 : D 4 := hn 4 (by simp)
                have d5 : D 5 := hn 5 (by simp)
                obtain ⟨z0, z1, z2, z3, z4, z5, hz0, hz1⟩ := sp_cells (f1 d1)
                obtain ⟨bb, y0, y1, y2, y3, y4, y5, hb0, hb1, hb2, hb3⟩ := b4 d4
                obtain ⟨k1, ⟨kc0, kc1, kc2, kc3, kc4, kc5⟩, kf0, kf1, kf2, kf3, kf4, kf5⟩ := block_cells6 hb2
                have hz2 := hz1
                obtain ⟨xs, xa, xn, xc, ys, ya, yn, yc, zs, za, zn, zc, rfl, rfl, rfl, rfl, rfl, rfl⟩ := hz1
                subst hz0
                subst hb0
                subst ha
                (try simp only [Act.put, qA, qB, qC])
                go_simp
                refine hK.out _ _ (SO _ (put6_gr hg hb1)) (fun _ => ?_)
                refine ⟨(.agg #[.bool xs, .slice xa xn xc, .bool ys, .slice ya yn yc, .bool zs, .slice za zn zc]), t3, (.pointer (some ⟨bb, 0, none⟩)), t5, by (simp only [Act.put, qA, qB, qC]); try rfl, (put6_gr hg hb1), ?_, ?_, ?_, ?_, ?_, ?_, ?_⟩
                · exact fun h => (f1 (Or.resolve_left h (by decide))).kb (put6_kb hb2 hb3)
                · exact fun h => (f3 (Or.resolve_left h (by decide))).kb (put6_kb hb2 hb3)
                · exact fun h => put6_bxS hb2 hz2 (b4 (Or.resolve_left h (by decide)))
                · exact fun h => put6_bxS hb2 hz2 (b5 (Or.resolve_left h (by decide)))
                · exact fun h h' => p4_5 (Or.resolve_left h (by decide)) (Or.resolve_left h' (by decide))
                · exact fun _ => ⟨Or.inr d4, Or.inr d1, _, _, _, _, _, _, rfl, put6_new hb2⟩
                · exact fun h => (fun ⟨x0, x1, c0, c1, c2, c3, c4, c5, x2, x3⟩ => ⟨Or.inr x0, Or.inr x1, c0, c1, c2, c3, c4, c5, x2, put6_hx hb2 x3 (Ne.symm (p4_5 d4 x0))⟩) (h7 (Or.resolve_left h (by decide)))
              refine StepI.cons (i := 7) (o := { dst := none, op := Op.store 55 (Operand.tmp 11) (Operand.tmp 74), type := 0, pos := "law.go:43", after := #[{ on := 5, ground := Ground.data }, { on := 3, ground := Ground.data }, { on := 6, ground := Ground.chain }, { on := 0, ground := Ground.phase }, { on := 1, ground := Ground.phase }, { on := 2, ground := Ground.phase }, { on := 3, ground := Ground.phase }, { on := 4, ground := Ground.phase }, { on := 5, ground := Ground.phase }, { on := 6, ground := Ground.phase }], guard := none }) (ns := [5, 3, 6, 1, 3, 4, 5, 6]) rfl (by kernel_rfl) (fun D a w nD hn hF hSw K hK => ?_) ?_
              · obtain ⟨t1, t3, t4, t5, ha, hg, f1, f3, b4, b5, p4_5, h6, h7⟩ := hF
                have d1 : D 1 := hn 1 (by simp)
                have d3 : D 3 := hn 3 (by simp)
                have d4 : D 4 := hn 4 (by simp)
                have d5 : D 5 := hn 5 (by simp)
                have d6 : D 6 := hn 6 (by simp)
                obtain ⟨z0, z1, z2, z3, z4, z5, hz0, hz1⟩ := sp_cells (f3 d3)
                obtain ⟨bb, y0, y1, y2, y3, y4, y5, hb0, hb1, hb2, hb3⟩ := b5 d5
                obtain ⟨k1, ⟨kc0, kc1, kc2, kc3, kc4, kc5⟩, kf0, kf1, kf2, kf3, kf4, kf5⟩ := block_cells6 hb2
                have hz2 := hz1
                obtain ⟨xs, xa, xn, xc, ys, ya, yn, yc, zs, za, zn, zc, rfl, rfl, rfl, rfl, rfl, rfl⟩ := hz1
                subst hz0
                subst hb0
                subst ha
                (try simp only [Act.put, qA, qB, qC])
                go_simp
                refine hK.out _ _ (SO _ (put6_gr hg hb1)) (fun _ => ?_)
                refine ⟨t1, (.agg #[.bool xs, .slice xa xn xc, .bool ys, .slice ya yn yc, .bool zs, .slice za zn zc]), t4, (.pointer (some ⟨bb, 0, none⟩)), by (simp only [Act.put, qA, qB, qC]); try rfl, (put6_gr hg hb1), ?_, ?_, ?_, ?_, ?_, ?_, ?_⟩
                · exact fun h => (f1 (Or.resolve_left h (by decide))).kb (put6_kb hb2 hb3)
                · exact fun h => (f3 (Or.resolve_left h (by decide))).kb (put6_kb hb2 hb3)
                · exact fun h => put6_bxS hb2 hz2 (b4 (Or.resolve_left h (by decide)))
                · exact fun h => put6_bxS hb2 hz2 (b5 (Or.resolve_left h (by decide)))
                · exact fun h h' => p4_5 (Or.resolve_left h (by decide)) (Or.resolve_left h' (by decide))
                · exact fun h => (fun ⟨x0, x1, c0, c1, c2, c3, c4, c5, x2, x3⟩ => ⟨Or.inr x0, Or.inr x1, c0, c1, c2, c3, c4, c5, x2, put6_hx hb2 x3 (p4_5 x0 d5)⟩) (h6 (Or.resolve_left h (by decide)))
                · exact fun _ => ⟨Or.inr d5, Or.inr d3, _, _, _, _, _, _, rfl, put6_new hb2⟩
              exact StepI.nil
            case rest =>
              obtain ⟨⟨g5, xs, xa, xn, xc, ys, ya, yn, yc, zs, za, zn, zc, rfl, k5, q5, sp⟩, ⟨g7, us, ua, un, uc, vs, va, vn, vc, ts, ta, tn, tc, rfl, k7, q7, sq⟩, hgr⟩ := hcut
              obtain ⟨W6, hW9⟩ : ∃ W6, W6 = wc := ⟨_, rfl⟩
              subst hW9
              replace qa := qa.gr hgr (by omega)
              replace qc := qc.gr hgr (by omega)
              have hsz := hgr.size
              replace HG : Hid (IsGr w W6) := HG.out.trans hgr
              replace ks : w.heap.size + 2 ≤ W6.heap.size := by omega
              have CR := fun w1 (hg : IsGr W6 w1) => RSRight_any _ x y z w1 (sp.gr hg) fx fy fz
              have CR2 := fun w1 (hg : IsGr W6 w1) => RSRight_any _ x y z w1 (sq.gr hg) fx fy fz
              have CC := fun w1 (hg : IsGr W6 w1) => RSCmp_any _ _ x y z x y z w1 (sp.gr hg) (sq.gr hg) fx fy fz fx fy fz
              have CH1 := fun w1 (hg : IsGr W6 w1) => RSHolds_any a1 a2 b1 b2 _ x y z w1 ra rb (sp.gr hg) fx fy fz
              have CH2 := fun w1 (hg : IsGr W6 w1) => RSHolds_any c1 c2 d1 d2 _ x y z w1 rc rd (sp.gr hg) fx fy fz
              rw [hs] at CR CR2
              rw [spotD_self] at CC
              rw [h1] at CH1
              rw [h2] at CH2
              clear hgr hsz q6 q8 k6 k8 ka kc sp sq fx fy fz hs h1 h2 ra rb rc rd CX
              go_upto_region 11 with fail
              obtain ⟨C, hin, hcl, hcells, hgr⟩ : ∃ C : World → Prop, (∀ w', W6.heap.size ≤ w'.heap.size ∧ IsGr W6 w' ∧ Sc w' (w.heap.size) a1 a2 b1 b2 ∧ Sc w' (w.heap.size + 1) c1 c2 d1 d2 ∧ Rc w' g5 xs xa xn xc ys ya yn yc zs za zn zc ∧ Rc w' g7 us ua un uc vs va vn vc ts ta tn tc → C w') ∧ (∀ u u', C u → IsGr u u' → C u') ∧ (∀ w', C w' → Sc w' (w.heap.size) a1 a2 b1 b2 ∧ Sc w' (w.heap.size + 1) c1 c2 d1 d2 ∧ Rc w' g5 xs xa xn xc ys ya yn yc zs za zn zc ∧ Rc w' g7 us ua un uc vs va vn vc ts ta tn tc) ∧ (∀ w', C w' → IsGr W6 w') := by
                refine ⟨fun w' => W6.heap.size ≤ w'.heap.size ∧ IsGr W6 w' ∧ Sc w' (w.heap.size) a1 a2 b1 b2 ∧ Sc w' (w.heap.size + 1) c1 c2 d1 d2 ∧ Rc w' g5 xs xa xn xc ys ya yn yc zs za zn zc ∧ Rc w' g7 us ua un uc vs va vn vc ts ta tn tc, fun w' h => h, ?_, fun w' h => h.2.2, fun w' h => h.2.1⟩
                rintro u u' ⟨h0, h1, h2⟩ hg
                exact ⟨Nat.le_trans h0 hg.size, h1.trans hg, h2.1.gr hg (by omega), h2.2.1.gr hg (by omega), h2.2.2.1.gr hg (by omega), h2.2.2.2.gr hg (by omega)⟩
              refine wp_region_held_drew (S := C) (by kernel_rfl) (by (try dsimp only); exact hin _ ⟨by simp, (by with_reducible repeat (first | exact IsGr.refl _ | refine IsGr.gr ?_ _ _ | refine IsGr.alloc ?_ _ | refine IsGr.drew ?_ | refine IsGr.drewN ?_ _)), ⟨qa, qc, q5, q7⟩⟩) (fun hHeld => ?_)
              refine wpAnyH_take (i := 0) (oi := { dst := some 75, op := Op.load 55 (Operand.tmp 10), type := 55, pos := "law.go:44", after := #[], guard := none }) (v := ?_) rfl (by kernel_rfl) (by kernel_rfl) (by kernel_rfl) (fun _ _ _ h => h) (Or.inl ⟨by rfl, ?_⟩) (by assumption) ?_
              rotate_left
              · (intro w hSw; (try dsimp only at hSw); (try have hcs := hcells w hSw); (try unfold Sc Rc at hcs); (try go_split_ands); go_simp <;> with_reducible rfl)
              (try simp only [Act.put, qA, qB, qC])
              refine wpAnyH_ready (rs := [1]) (by kernel_rfl) (by simp) ?_
              refine AllReadyH.cons (o := { dst := some 76, op := Op.call { callee := Callee.value (Operand.func 26), args := #[Operand.tmp 75], argTypes := #[55] }, type := 4, pos := "law.go:44", after := #[{ on := 0, ground := Ground.data }], guard := none }) rfl (fun K hK => ?_) AllReadyH.nil
              go_simp
              refine (CR _ (hgr _ hHeld)).mono ?_
              rintro e w5 ⟨rfl, hg5⟩
              (try go_wp2_with fail)
              refine hK.out _ _ (by (try dsimp only); exact hcl _ _ hHeld (by first | with_reducible assumption | with_reducible exact IsGr.refl _ | with_reducible exact (IsGr.refl _).alloc _ | with_reducible exact ((IsGr.refl _).alloc _).alloc _ | assumption)) (fun hHeld2 => ?_)
              clear hK K hHeld
              have hHeld := hHeld2
              clear hHeld2
              (try simp only [Act.put, qA, qB, qC])
              refine wpAnyH_take (i := 2) (oi := { dst := some 77, op := Op.move (Operand.tmp 76), type := 4, pos := "law.go:44", after := #[{ on := 1, ground := Ground.data }, { on := 1, ground := Ground.chain }], guard := none }) (v := ?_) rfl (by kernel_rfl) (by kernel_rfl) (by kernel_rfl) (fun _ _ _ h => h) (Or.inl ⟨by rfl, ?_⟩) (by assumption) ?_
              rotate_left
              · (intro w hSw; (try dsimp only at hSw); (try have hcs := hcells w hSw); (try unfold Sc Rc at hcs); (try go_split_ands); go_simp <;> with_reducible rfl)
              (try simp only [Act.put, qA, qB, qC])
              refine wpAnyH_take (i := 3) (oi := { dst := some 78, op := Op.load 55 (Operand.tmp 11), type := 55, pos := "law.go:44", after := #[{ on := 2, ground := Ground.guard }], guard := some (2, true) }) (v := ?_) rfl (by kernel_rfl) (by kernel_rfl) (by kernel_rfl) (fun _ _ _ h => h) (Or.inl ⟨by rfl, ?_⟩) (by assumption) ?_
              rotate_left
              · (intro w hSw; (try dsimp only at hSw); (try have hcs := hcells w hSw); (try unfold Sc Rc at hcs); (try go_split_ands); go_simp <;> with_reducible rfl)
              (try simp only [Act.put, qA, qB, qC])
              refine wpAnyH_ready (rs := [4]) (by kernel_rfl) (by simp) ?_
              refine AllReadyH.cons (o := { dst := some 79, op := Op.call { callee := Callee.value (Operand.func 26), args := #[Operand.tmp 78], argTypes := #[55] }, type := 4, pos := "law.go:44", after := #[{ on := 3, ground := Ground.data }, { on := 2, ground := Ground.chain }, { on := 2, ground := Ground.guard }], guard := some (2, true) }) rfl (fun K hK => ?_) AllReadyH.nil
              go_simp
              refine (CR2 _ (hgr _ hHeld)).mono ?_
              rintro e w6 ⟨rfl, hg6⟩
              (try go_wp2_with fail)
              refine hK.out _ _ (by (try dsimp only); exact hcl _ _ hHeld (by first | with_reducible assumption | with_reducible exact IsGr.refl _ | with_reducible exact (IsGr.refl _).alloc _ | with_reducible exact ((IsGr.refl _).alloc _).alloc _ | assumption)) (fun hHeld2 => ?_)
              clear hK K hHeld
              have hHeld := hHeld2
              clear hHeld2
              (try simp only [Act.put, qA, qB, qC])
              refine wpAnyH_take (i := 5) (oi := { dst := some 80, op := Op.pick (Operand.tmp 77) (Operand.tmp 79) (Operand.const (Value.bool false)), type := 4, pos := "law.go:44", after := #[{ on := 2, ground := Ground.data }, { on := 4, ground := Ground.data }], guard := none }) (v := ?_) rfl (by kernel_rfl) (by kernel_rfl) (by kernel_rfl) (fun _ _ _ h => h) (Or.inl ⟨by rfl, ?_⟩) (by assumption) ?_
              rotate_left
              · (intro w hSw; (try dsimp only at hSw); (try have hcs := hcells w hSw); (try unfold Sc Rc at hcs); (try go_split_ands); go_simp <;> with_reducible rfl)
              (try simp only [Act.put, qA, qB, qC])
              refine wpAnyH_take (i := 6) (oi := { dst := some 81, op := Op.move (Operand.tmp 80), type := 4, pos := "law.go:44", after := #[{ on := 5, ground := Ground.data }, { on := 4, ground := Ground.chain }], guard := none }) (v := ?_) rfl (by kernel_rfl) (by kernel_rfl) (by kernel_rfl) (fun _ _ _ h => h) (Or.inl ⟨by rfl, ?_⟩) (by assumption) ?_
              rotate_left
              · (intro w hSw; (try dsimp only at hSw); (try have hcs := hcells w hSw); (try unfold Sc Rc at hcs); (try go_split_ands); go_simp <;> with_reducible rfl)
              (try simp only [Act.put, qA, qB, qC])
              refine wpAnyH_take (i := 7) (oi := { dst := some 82, op := Op.load 55 (Operand.tmp 10), type := 55, pos := "law.go:44", after := #[{ on := 6, ground := Ground.guard }], guard := some (6, true) }) (v := ?_) rfl (by kernel_rfl) (by kernel_rfl) (by kernel_rfl) (fun _ _ _ h => h) (Or.inl ⟨by rfl, ?_⟩) (by assumption) ?_
              rotate_left
              · (intro w hSw; (try dsimp only at hSw); (try have hcs := hcells w hSw); (try unfold Sc Rc at hcs); (try go_split_ands); go_simp <;> with_reducible rfl)
              (try simp only [Act.put, qA, qB, qC])
              refine wpAnyH_take (i := 8) (oi := { dst := some 83, op := Op.load 55 (Operand.tmp 11), type := 55, pos := "law.go:44", after := #[{ on := 6, ground := Ground.guard }], guard := some (6, true) }) (v := ?_) rfl (by kernel_rfl) (by kernel_rfl) (by kernel_rfl) (fun _ _ _ h => h) (Or.inl ⟨by rfl, ?_⟩) (by assumption) ?_
              rotate_left
              · (intro w hSw; (try dsimp only at hSw); (try have hcs := hcells w hSw); (try unfold Sc Rc at hcs); (try go_split_ands); go_simp <;> with_reducible rfl)
              (try simp only [Act.put, qA, qB, qC])
              refine wpAnyH_ready (rs := [9]) (by kernel_rfl) (by simp) ?_
              refine AllReadyH.cons (o := { dst := some 84, op := Op.call { callee := Callee.value (Operand.func 27), args := #[Operand.tmp 82, Operand.tmp 83], argTypes := #[55, 55] }, type := 3, pos := "law.go:44", after := #[{ on := 7, ground := Ground.data }, { on := 8, ground := Ground.data }, { on := 6, ground := Ground.chain }, { on := 6, ground := Ground.guard }], guard := some (6, true) }) rfl (fun K hK => ?_) AllReadyH.nil
              go_simp
              refine (CC _ (hgr _ hHeld)).mono ?_
              rintro e w7 ⟨rfl, hg7⟩
              (try go_wp2_with fail)
              refine hK.out _ _ (by (try dsimp only); exact hcl _ _ hHeld (by first | with_reducible assumption | with_reducible exact IsGr.refl _ | with_reducible exact (IsGr.refl _).alloc _ | with_reducible exact ((IsGr.refl _).alloc _).alloc _ | assumption)) (fun hHeld2 => ?_)
              clear hK K hHeld
              have hHeld := hHeld2
              clear hHeld2
              (try simp only [Act.put, qA, qB, qC])
              refine wpAnyH_take (i := 10) (oi := { dst := some 85, op := Op.binOp BinOp.eql 3 (Operand.tmp 84) (Operand.const (Value.int IntKind.i64 0)) 3, type := 4, pos := "law.go:44", after := #[{ on := 9, ground := Ground.data }, { on := 6, ground := Ground.guard }], guard := some (6, true) }) (v := ?_) rfl (by kernel_rfl) (by kernel_rfl) (by kernel_rfl) (fun _ _ _ h => h) (Or.inl ⟨by rfl, ?_⟩) (by assumption) ?_
              rotate_left
              · (intro w hSw; (try dsimp only at hSw); (try have hcs := hcells w hSw); (try unfold Sc Rc at hcs); (try go_split_ands); go_simp <;> with_reducible rfl)
              (try simp only [Act.put, qA, qB, qC])
              refine wpAnyH_take (i := 11) (oi := { dst := some 86, op := Op.pick (Operand.tmp 81) (Operand.tmp 85) (Operand.const (Value.bool false)), type := 4, pos := "law.go:44", after := #[{ on := 6, ground := Ground.data }, { on := 10, ground := Ground.data }], guard := none }) (v := ?_) rfl (by kernel_rfl) (by kernel_rfl) (by kernel_rfl) (fun _ _ _ h => h) (Or.inl ⟨by rfl, ?_⟩) (by assumption) ?_
              rotate_left
              · (intro w hSw; (try dsimp only at hSw); (try have hcs := hcells w hSw); (try unfold Sc Rc at hcs); (try go_split_ands); go_simp <;> with_reducible rfl)
              (try simp only [Act.put, qA, qB, qC])
              refine wpAnyH_take (i := 12) (oi := { dst := some 87, op := Op.move (Operand.tmp 86), type := 4, pos := "law.go:44", after := #[{ on := 11, ground := Ground.data }, { on := 9, ground := Ground.chain }], guard := none }) (v := ?_) rfl (by kernel_rfl) (by kernel_rfl) (by kernel_rfl) (fun _ _ _ h => h) (Or.inl ⟨by rfl, ?_⟩) (by assumption) ?_
              rotate_left
              · (intro w hSw; (try dsimp only at hSw); (try have hcs := hcells w hSw); (try unfold Sc Rc at hcs); (try go_split_ands); go_simp <;> with_reducible rfl)
              (try simp only [Act.put, qA, qB, qC])
              refine wpAnyH_take (i := 13) (oi := { dst := some 88, op := Op.fieldAddr 41 (Operand.tmp 2) 0, type := 0, pos := "law.go:44", after := #[{ on := 12, ground := Ground.guard }], guard := some (12, true) }) (v := ?_) rfl (by kernel_rfl) (by kernel_rfl) (by kernel_rfl) (fun _ _ _ h => h) (Or.inl ⟨by rfl, ?_⟩) (by assumption) ?_
              rotate_left
              · (intro w hSw; (try dsimp only at hSw); (try have hcs := hcells w hSw); (try unfold Sc Rc at hcs); (try go_split_ands); go_simp <;> with_reducible rfl)
              (try simp only [Act.put, qA, qB, qC])
              refine wpAnyH_take (i := 14) (oi := { dst := some 89, op := Op.load 24 (Operand.tmp 88), type := 24, pos := "law.go:44", after := #[{ on := 13, ground := Ground.data }, { on := 12, ground := Ground.guard }], guard := some (12, true) }) (v := ?_) rfl (by kernel_rfl) (by kernel_rfl) (by kernel_rfl) (fun _ _ _ h => h) (Or.inl ⟨by rfl, ?_⟩) (by assumption) ?_
              rotate_left
              · (intro w hSw; (try dsimp only at hSw); (try have hcs := hcells w hSw); (try unfold Sc Rc at hcs); (try go_split_ands); go_simp <;> with_reducible rfl)
              (try simp only [Act.put, qA, qB, qC])
              refine wpAnyH_take (i := 16) (oi := { dst := some 91, op := Op.fieldAddr 41 (Operand.tmp 2) 1, type := 0, pos := "law.go:44", after := #[{ on := 12, ground := Ground.guard }], guard := some (12, true) }) (v := ?_) rfl (by kernel_rfl) (by kernel_rfl) (by kernel_rfl) (fun _ _ _ h => h) (Or.inl ⟨by rfl, ?_⟩) (by assumption) ?_
              rotate_left
              · (intro w hSw; (try dsimp only at hSw); (try have hcs := hcells w hSw); (try unfold Sc Rc at hcs); (try go_split_ands); go_simp <;> with_reducible rfl)
              (try simp only [Act.put, qA, qB, qC])
              refine wpAnyH_take (i := 17) (oi := { dst := some 92, op := Op.load 24 (Operand.tmp 91), type := 24, pos := "law.go:44", after := #[{ on := 16, ground := Ground.data }, { on := 12, ground := Ground.guard }], guard := some (12, true) }) (v := ?_) rfl (by kernel_rfl) (by kernel_rfl) (by kernel_rfl) (fun _ _ _ h => h) (Or.inl ⟨by rfl, ?_⟩) (by assumption) ?_
              rotate_left
              · (intro w hSw; (try dsimp only at hSw); (try have hcs := hcells w hSw); (try unfold Sc Rc at hcs); (try go_split_ands); go_simp <;> with_reducible rfl)
              (try simp only [Act.put, qA, qB, qC])
              refine wpAnyH_take (i := 19) (oi := { dst := some 94, op := Op.load 55 (Operand.tmp 10), type := 55, pos := "law.go:44", after := #[{ on := 12, ground := Ground.guard }], guard := some (12, true) }) (v := ?_) rfl (by kernel_rfl) (by kernel_rfl) (by kernel_rfl) (fun _ _ _ h => h) (Or.inl ⟨by rfl, ?_⟩) (by assumption) ?_
              rotate_left
              · (intro w hSw; (try dsimp only at hSw); (try have hcs := hcells w hSw); (try unfold Sc Rc at hcs); (try go_split_ands); go_simp <;> with_reducible rfl)
              (try simp only [Act.put, qA, qB, qC])
              refine wpAnyH_ready (rs := [15]) (by kernel_rfl) (by simp) ?_
              refine AllReadyH.cons (o := { dst := some 90, op := Op.call { callee := Callee.value (Operand.func 22), args := #[Operand.tmp 89], argTypes := #[24] }, type := 27, pos := "law.go:44", after := #[{ on := 14, ground := Ground.data }, { on := 12, ground := Ground.chain }, { on := 12, ground := Ground.guard }], guard := some (12, true) }) rfl (fun K hK => ?_) AllReadyH.nil
              go_simp
              refine (Fa _).mono ?_
              rintro e w8 ⟨rfl, hg8⟩
              (try go_wp2_with fail)
              refine hK.out _ _ (by (try dsimp only); exact hcl _ _ hHeld (by first | with_reducible assumption | with_reducible exact IsGr.refl _ | with_reducible exact (IsGr.refl _).alloc _ | with_reducible exact ((IsGr.refl _).alloc _).alloc _ | assumption)) (fun hHeld2 => ?_)
              clear hK K hHeld
              have hHeld := hHeld2
              clear hHeld2
              (try simp only [Act.put, qA, qB, qC])
              refine wpAnyH_ready (rs := [18]) (by kernel_rfl) (by simp) ?_
              refine AllReadyH.cons (o := { dst := some 93, op := Op.call { callee := Callee.value (Operand.func 22), args := #[Operand.tmp 92], argTypes := #[24] }, type := 27, pos := "law.go:44", after := #[{ on := 17, ground := Ground.data }, { on := 15, ground := Ground.chain }, { on := 12, ground := Ground.guard }], guard := some (12, true) }) rfl (fun K hK => ?_) AllReadyH.nil
              go_simp
              refine (Fb _).mono ?_
              rintro e w9 ⟨rfl, hg9⟩
              (try go_wp2_with fail)
              refine hK.out _ _ (by (try dsimp only); exact hcl _ _ hHeld (by first | with_reducible assumption | with_reducible exact IsGr.refl _ | with_reducible exact (IsGr.refl _).alloc _ | with_reducible exact ((IsGr.refl _).alloc _).alloc _ | assumption)) (fun hHeld2 => ?_)
              clear hK K hHeld
              have hHeld := hHeld2
              clear hHeld2
              (try simp only [Act.put, qA, qB, qC])
              refine wpAnyH_ready (rs := [20]) (by kernel_rfl) (by simp) ?_
              refine AllReadyH.cons (o := { dst := some 95, op := Op.call { callee := Callee.value (Operand.func 28), args := #[Operand.tmp 90, Operand.tmp 93, Operand.tmp 94], argTypes := #[27, 27, 55] }, type := 4, pos := "law.go:44", after := #[{ on := 15, ground := Ground.data }, { on := 18, ground := Ground.data }, { on := 19, ground := Ground.data }, { on := 18, ground := Ground.chain }, { on := 12, ground := Ground.guard }], guard := some (12, true) }) rfl (fun K hK => ?_) AllReadyH.nil
              go_simp
              refine (CH1 _ (hgr _ hHeld)).mono ?_
              rintro e w10 ⟨rfl, hg10⟩
              (try go_wp2_with fail)
              refine hK.out _ _ (by (try dsimp only); exact hcl _ _ hHeld (by first | with_reducible assumption | with_reducible exact IsGr.refl _ | with_reducible exact (IsGr.refl _).alloc _ | with_reducible exact ((IsGr.refl _).alloc _).alloc _ | assumption)) (fun hHeld2 => ?_)
              clear hK K hHeld
              have hHeld := hHeld2
              clear hHeld2
              (try simp only [Act.put, qA, qB, qC])
              refine wpAnyH_take (i := 21) (oi := { dst := some 96, op := Op.pick (Operand.tmp 87) (Operand.tmp 95) (Operand.const (Value.bool false)), type := 4, pos := "law.go:44", after := #[{ on := 12, ground := Ground.data }, { on := 20, ground := Ground.data }], guard := none }) (v := ?_) rfl (by kernel_rfl) (by kernel_rfl) (by kernel_rfl) (fun _ _ _ h => h) (Or.inl ⟨by rfl, ?_⟩) (by assumption) ?_
              rotate_left
              · (intro w hSw; (try dsimp only at hSw); (try have hcs := hcells w hSw); (try unfold Sc Rc at hcs); (try go_split_ands); go_simp <;> with_reducible rfl)
              (try simp only [Act.put, qA, qB, qC])
              refine wpAnyH_take (i := 22) (oi := { dst := some 97, op := Op.move (Operand.tmp 96), type := 4, pos := "law.go:44", after := #[{ on := 21, ground := Ground.data }, { on := 20, ground := Ground.chain }], guard := none }) (v := ?_) rfl (by kernel_rfl) (by kernel_rfl) (by kernel_rfl) (fun _ _ _ h => h) (Or.inl ⟨by rfl, ?_⟩) (by assumption) ?_
              rotate_left
              · (intro w hSw; (try dsimp only at hSw); (try have hcs := hcells w hSw); (try unfold Sc Rc at hcs); (try go_split_ands); go_simp <;> with_reducible rfl)
              (try simp only [Act.put, qA, qB, qC])
              refine wpAnyH_take (i := 23) (oi := { dst := some 98, op := Op.fieldAddr 41 (Operand.tmp 3) 0, type := 0, pos := "law.go:44", after := #[{ on := 22, ground := Ground.guard }], guard := some (22, true) }) (v := ?_) rfl (by kernel_rfl) (by kernel_rfl) (by kernel_rfl) (fun _ _ _ h => h) (Or.inl ⟨by rfl, ?_⟩) (by assumption) ?_
              rotate_left
              · (intro w hSw; (try dsimp only at hSw); (try have hcs := hcells w hSw); (try unfold Sc Rc at hcs); (try go_split_ands); go_simp <;> with_reducible rfl)
              (try simp only [Act.put, qA, qB, qC])
              refine wpAnyH_take (i := 24) (oi := { dst := some 99, op := Op.load 24 (Operand.tmp 98), type := 24, pos := "law.go:44", after := #[{ on := 23, ground := Ground.data }, { on := 22, ground := Ground.guard }], guard := some (22, true) }) (v := ?_) rfl (by kernel_rfl) (by kernel_rfl) (by kernel_rfl) (fun _ _ _ h => h) (Or.inl ⟨by rfl, ?_⟩) (by assumption) ?_
              rotate_left
              · (intro w hSw; (try dsimp only at hSw); (try have hcs := hcells w hSw); (try unfold Sc Rc at hcs); (try go_split_ands); go_simp <;> with_reducible rfl)
              (try simp only [Act.put, qA, qB, qC])
              refine wpAnyH_take (i := 26) (oi := { dst := some 101, op := Op.fieldAddr 41 (Operand.tmp 3) 1, type := 0, pos := "law.go:44", after := #[{ on := 22, ground := Ground.guard }], guard := some (22, true) }) (v := ?_) rfl (by kernel_rfl) (by kernel_rfl) (by kernel_rfl) (fun _ _ _ h => h) (Or.inl ⟨by rfl, ?_⟩) (by assumption) ?_
              rotate_left
              · (intro w hSw; (try dsimp only at hSw); (try have hcs := hcells w hSw); (try unfold Sc Rc at hcs); (try go_split_ands); go_simp <;> with_reducible rfl)
              (try simp only [Act.put, qA, qB, qC])
              refine wpAnyH_take (i := 27) (oi := { dst := some 102, op := Op.load 24 (Operand.tmp 101), type := 24, pos := "law.go:44", after := #[{ on := 26, ground := Ground.data }, { on := 22, ground := Ground.guard }], guard := some (22, true) }) (v := ?_) rfl (by kernel_rfl) (by kernel_rfl) (by kernel_rfl) (fun _ _ _ h => h) (Or.inl ⟨by rfl, ?_⟩) (by assumption) ?_
              rotate_left
              · (intro w hSw; (try dsimp only at hSw); (try have hcs := hcells w hSw); (try unfold Sc Rc at hcs); (try go_split_ands); go_simp <;> with_reducible rfl)
              (try simp only [Act.put, qA, qB, qC])
              refine wpAnyH_take (i := 29) (oi := { dst := some 104, op := Op.load 55 (Operand.tmp 10), type := 55, pos := "law.go:44", after := #[{ on := 22, ground := Ground.guard }], guard := some (22, true) }) (v := ?_) rfl (by kernel_rfl) (by kernel_rfl) (by kernel_rfl) (fun _ _ _ h => h) (Or.inl ⟨by rfl, ?_⟩) (by assumption) ?_
              rotate_left
              · (intro w hSw; (try dsimp only at hSw); (try have hcs := hcells w hSw); (try unfold Sc Rc at hcs); (try go_split_ands); go_simp <;> with_reducible rfl)
              (try simp only [Act.put, qA, qB, qC])
              refine wpAnyH_ready (rs := [25]) (by kernel_rfl) (by simp) ?_
              refine AllReadyH.cons (o := { dst := some 100, op := Op.call { callee := Callee.value (Operand.func 22), args := #[Operand.tmp 99], argTypes := #[24] }, type := 27, pos := "law.go:44", after := #[{ on := 24, ground := Ground.data }, { on := 22, ground := Ground.chain }, { on := 22, ground := Ground.guard }], guard := some (22, true) }) rfl (fun K hK => ?_) AllReadyH.nil
              go_simp
              refine (Fc _).mono ?_
              rintro e w11 ⟨rfl, hg11⟩
              (try go_wp2_with fail)
              refine hK.out _ _ (by (try dsimp only); exact hcl _ _ hHeld (by first | with_reducible assumption | with_reducible exact IsGr.refl _ | with_reducible exact (IsGr.refl _).alloc _ | with_reducible exact ((IsGr.refl _).alloc _).alloc _ | assumption)) (fun hHeld2 => ?_)
              clear hK K hHeld
              have hHeld := hHeld2
              clear hHeld2
              (try simp only [Act.put, qA, qB, qC])
              refine wpAnyH_ready (rs := [28]) (by kernel_rfl) (by simp) ?_
              refine AllReadyH.cons (o := { dst := some 103, op := Op.call { callee := Callee.value (Operand.func 22), args := #[Operand.tmp 102], argTypes := #[24] }, type := 27, pos := "law.go:44", after := #[{ on := 27, ground := Ground.data }, { on := 25, ground := Ground.chain }, { on := 22, ground := Ground.guard }], guard := some (22, true) }) rfl (fun K hK => ?_) AllReadyH.nil
              go_simp
              refine (Fd _).mono ?_
              rintro e w12 ⟨rfl, hg12⟩
              (try go_wp2_with fail)
              refine hK.out _ _ (by (try dsimp only); exact hcl _ _ hHeld (by first | with_reducible assumption | with_reducible exact IsGr.refl _ | with_reducible exact (IsGr.refl _).alloc _ | with_reducible exact ((IsGr.refl _).alloc _).alloc _ | assumption)) (fun hHeld2 => ?_)
              clear hK K hHeld
              have hHeld := hHeld2
              clear hHeld2
              (try simp only [Act.put, qA, qB, qC])
              refine wpAnyH_ready (rs := [30]) (by kernel_rfl) (by simp) ?_
              refine AllReadyH.cons (o := { dst := some 105, op := Op.call { callee := Callee.value (Operand.func 28), args := #[Operand.tmp 100, Operand.tmp 103, Operand.tmp 104], argTypes := #[27, 27, 55] }, type := 4, pos := "law.go:44", after := #[{ on := 25, ground := Ground.data }, { on := 28, ground := Ground.data }, { on := 29, ground := Ground.data }, { on := 28, ground := Ground.chain }, { on := 22, ground := Ground.guard }], guard := some (22, true) }) rfl (fun K hK => ?_) AllReadyH.nil
              go_simp
              refine (CH2 _ (hgr _ hHeld)).mono ?_
              rintro e w13 ⟨rfl, hg13⟩
              (try go_wp2_with fail)
              refine hK.out _ _ (by (try dsimp only); exact hcl _ _ hHeld (by first | with_reducible assumption | with_reducible exact IsGr.refl _ | with_reducible exact (IsGr.refl _).alloc _ | with_reducible exact ((IsGr.refl _).alloc _).alloc _ | assumption)) (fun hHeld2 => ?_)
              clear hK K hHeld
              have hHeld := hHeld2
              clear hHeld2
              (try simp only [Act.put, qA, qB, qC])
              refine wpAnyH_take (i := 31) (oi := { dst := some 106, op := Op.pick (Operand.tmp 97) (Operand.tmp 105) (Operand.const (Value.bool false)), type := 4, pos := "law.go:44", after := #[{ on := 22, ground := Ground.data }, { on := 30, ground := Ground.data }], guard := none }) (v := ?_) rfl (by kernel_rfl) (by kernel_rfl) (by kernel_rfl) (fun _ _ _ h => h) (Or.inl ⟨by rfl, ?_⟩) (by assumption) ?_
              rotate_left
              · (intro w hSw; (try dsimp only at hSw); (try have hcs := hcells w hSw); (try unfold Sc Rc at hcs); (try go_split_ands); go_simp <;> with_reducible rfl)
              (try simp only [Act.put, qA, qB, qC])
              refine wpAnyH_take (i := 32) (oi := { dst := some 107, op := Op.move (Operand.tmp 106), type := 4, pos := "law.go:44", after := #[{ on := 31, ground := Ground.data }, { on := 30, ground := Ground.chain }], guard := none }) (v := ?_) rfl (by kernel_rfl) (by kernel_rfl) (by kernel_rfl) (fun _ _ _ h => h) (Or.inl ⟨by rfl, ?_⟩) (by assumption) ?_
              rotate_left
              · (intro w hSw; (try dsimp only at hSw); (try have hcs := hcells w hSw); (try unfold Sc Rc at hcs); (try go_split_ands); go_simp <;> with_reducible rfl)
              (try simp only [Act.put, qA, qB, qC])
              refine wpAnyH_ready (rs := [33]) (by kernel_rfl) (by simp) ?_
              refine AllReadyH.cons (o := { dst := some 108, op := Op.call { callee := Callee.value (Operand.func 24), args := #[], argTypes := #[] }, type := 4, pos := "law.go:44", after := #[{ on := 32, ground := Ground.chain }, { on := 32, ground := Ground.guard }], guard := some (32, true) }) rfl (fun K hK => ?_) AllReadyH.nil
              go_simp
              refine (CA _).mono ?_
              rintro e w14 ⟨rfl, hg14⟩
              (try go_wp2_with fail)
              refine hK.out _ _ (by (try dsimp only); exact hcl _ _ hHeld (by first | with_reducible assumption | with_reducible exact IsGr.refl _ | with_reducible exact (IsGr.refl _).alloc _ | with_reducible exact ((IsGr.refl _).alloc _).alloc _ | assumption)) (fun hHeld2 => ?_)
              clear hK K hHeld
              have hHeld := hHeld2
              clear hHeld2
              (try simp only [Act.put, qA, qB, qC])
              refine wpAnyH_take (i := 34) (oi := { dst := some 109, op := Op.pick (Operand.tmp 107) (Operand.tmp 108) (Operand.const (Value.bool false)), type := 4, pos := "law.go:44", after := #[{ on := 32, ground := Ground.data }, { on := 33, ground := Ground.data }], guard := none }) (v := ?_) rfl (by kernel_rfl) (by kernel_rfl) (by kernel_rfl) (fun _ _ _ h => h) (Or.inl ⟨by rfl, ?_⟩) (by assumption) ?_
              rotate_left
              · (intro w hSw; (try dsimp only at hSw); (try have hcs := hcells w hSw); (try unfold Sc Rc at hcs); (try go_split_ands); go_simp <;> with_reducible rfl)
              (try simp only [Act.put, qA, qB, qC])
              refine wpAnyH_take (i := 35) (oi := { dst := some 4, op := Op.assign (Operand.tmp 109), type := 4, pos := "law.go:44", after := #[{ on := 34, ground := Ground.data }, { on := 33, ground := Ground.chain }, { on := 0, ground := Ground.phase }, { on := 1, ground := Ground.phase }, { on := 2, ground := Ground.phase }, { on := 3, ground := Ground.phase }, { on := 4, ground := Ground.phase }, { on := 5, ground := Ground.phase }, { on := 6, ground := Ground.phase }, { on := 7, ground := Ground.phase }, { on := 8, ground := Ground.phase }, { on := 9, ground := Ground.phase }, { on := 10, ground := Ground.phase }, { on := 11, ground := Ground.phase }, { on := 12, ground := Ground.phase }, { on := 13, ground := Ground.phase }, { on := 14, ground := Ground.phase }, { on := 15, ground := Ground.phase }, { on := 16, ground := Ground.phase }, { on := 17, ground := Ground.phase }, { on := 18, ground := Ground.phase }, { on := 19, ground := Ground.phase }, { on := 20, ground := Ground.phase }, { on := 21, ground := Ground.phase }, { on := 22, ground := Ground.phase }, { on := 23, ground := Ground.phase }, { on := 24, ground := Ground.phase }, { on := 25, ground := Ground.phase }, { on := 26, ground := Ground.phase }, { on := 27, ground := Ground.phase }, { on := 28, ground := Ground.phase }, { on := 29, ground := Ground.phase }, { on := 30, ground := Ground.phase }, { on := 31, ground := Ground.phase }, { on := 32, ground := Ground.phase }, { on := 33, ground := Ground.phase }, { on := 34, ground := Ground.phase }], guard := none }) (v := ?_) rfl (by kernel_rfl) (by kernel_rfl) (by kernel_rfl) (fun _ _ _ h => h) (Or.inl ⟨by rfl, ?_⟩) (by assumption) ?_
              rotate_left
              · (intro w hSw; (try dsimp only at hSw); (try have hcs := hcells w hSw); (try unfold Sc Rc at hcs); (try go_split_ands); go_simp <;> with_reducible rfl)
              (try simp only [Act.put, qA, qB, qC])
              refine wpAnyH_done (by kernel_rfl) ?_ _
              have hg := hgr _ hHeld
              clear hcells hin hcl hgr hHeld
              go_wp2
              go_ret
              exact ⟨rfl, HG.out.trans hg⟩

theorem law_meets (a1 a2 b1 b2 c1 c2 d1 d2 : Int) (w : World) :
    Calls Try.prog 5 #[.agg #[.int .i64 a1, .int .i64 a2, .int .i64 b1, .int .i64 b2], .agg #[.int .i64 c1, .int .i64 c2, .int .i64 d1, .int .i64 d2]] w fun e w' => e = .returned (.bool true) ∧ IsGr w w' := by
  obtain ⟨K, x, y, z, ⟨fx, fy, fz⟩, hK, h3, h0, h1, C1, C2⟩ := meet_two a1 a2 b1 b2 c1 c2 d1 d2
  cases hA : segR a1 a2 b1 b2 with
  | false =>
    rw [hA] at hK
    obtain rfl : K = 0 := by simpa using hK
    obtain ⟨rfl, rfl, rfl⟩ := h0 (by omega)
    rw [← z12_eq] at C1 C2
    exact law_meets_n1 a1 a2 b1 b2 c1 c2 d1 d2 C1 C2 hA w
  | true =>
    cases hB : segR c1 c2 d1 d2 with
    | false =>
      rw [hA, hB] at hK
      obtain rfl : K = 0 := by simpa using hK
      obtain ⟨rfl, rfl, rfl⟩ := h0 (by omega)
      rw [← z12_eq] at C1 C2
      exact law_meets_n2 a1 a2 b1 b2 c1 c2 d1 d2 C1 C2 hA hB w
    | true =>
      rw [hA, hB] at hK
      have hK' : refK a1 a2 b1 b2 c1 c2 d1 d2 = K := by simpa using hK.symm
      by_cases h : K = 1
      · subst h
        obtain ⟨g1, g2, g3⟩ := h1 rfl
        exact law_meets_y1 a1 a2 b1 b2 c1 c2 d1 d2 x y z C1 C2 hA hB hK' fx fy fz g1 g2 g3 w
      · obtain ⟨rfl, rfl, rfl⟩ := h0 h
        rw [← z12_eq] at C1 C2
        exact law_meets_y0 a1 a2 b1 b2 c1 c2 d1 d2 K C1 C2 hA hB hK' (by simpa using h) w
end Go.Proofs.Ytohhlhoijanjfaa
