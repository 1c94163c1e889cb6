/- gromalaw04.CrossSlopes: for every two segments the law answers true. -/
import Derived.Test.YtohhlhoijanjfaaGD
import Derived.Test.YtohhlhoijanjfaaV1g
namespace Go.Proofs.Ytohhlhoijanjfaa
open Go.RowKit Go.Shelf
attribute [local go_sem] Gr.size Gr.cell? Gr.frozen? Gr.setCell Gr.drew Gr.drewN Gr.of_drew Gr.of_drewN Gr.gr Gr.lt_of1 Gr.le_of1 Gr.lt_of2 Gr.le_of2 Gr.lt_of3 Gr.le_of3 Gr.lt_of4 Gr.le_of4 Gr.lt_of5 Gr.le_of5 Gr.lt_of6 Gr.le_of6 Gr.lt_of7 Gr.le_of7 Gr.lt_of8 Gr.le_of8 Gr.lt_of9 Gr.le_of9 Gr.lt_of10 Gr.le_of10 Gr.lt_of11 Gr.le_of11 Gr.lt_of12 Gr.le_of12 Gr.lt_of13 Gr.le_of13 Gr.lt_of14 Gr.le_of14 Gr.lt_of15 Gr.le_of15 Gr.lt_of16 Gr.le_of16 Gr.lt_of17 Gr.le_of17 Gr.lt_of18 Gr.le_of18 Gr.lt_of19 Gr.le_of19 Gr.lt_of20 Gr.le_of20 Gr.lt_of21 Gr.le_of21 Gr.lt_of22 Gr.le_of22 Gr.lt_of23 Gr.le_of23 Gr.lt_of24 Gr.le_of24

theorem slopeS_swap (l1 l2 h1 h2 m1 m2 k1 k2 : Int) : slopeS m1 m2 k1 k2 l1 l2 h1 h2 = -slopeS l1 l2 h1 h2 m1 m2 k1 k2 := by
  unfold slopeS; grind

set_option maxRecDepth 20000 in set_option maxHeartbeats 4000000 in
theorem law_slopes (a1 a2 b1 b2 c1 c2 d1 d2 : Int) (w : World) :
    Calls Try.prog 8 #[.agg #[.int .i64 a1, .int .i64 a2, .int .i64 b1, .int .i64 b2], .agg #[.int .i64 c1, .int .i64 c2, .int .i64 d1, .int .i64 d2]] w fun e w' => e = .returned (.bool true) ∧ IsGr w w' := by
  obtain ⟨l1, l2, h1, h2, H⟩ := ends_ex a1 a2 b1 b2
  obtain ⟨m1, m2, k1, k2, H'⟩ := ends_ex c1 c2 d1 d2
  have C5 := fun w => Slope_any a1 a2 b1 b2 c1 c2 d1 d2 l1 l2 h1 h2 m1 m2 k1 k2 H H' w
  have C6 := fun w => Slope_any c1 c2 d1 d2 a1 a2 b1 b2 m1 m2 k1 k2 l1 l2 h1 h2 H' H w
  have R1 := fun w => lright_any a1 a2 b1 b2 w
  have R2 := fun w => lright_any c1 c2 d1 d2 w
  have CA := fun w => awake4_any w
  cases r1 : segR a1 a2 b1 b2 with
  | false =>
    rw [r1] at R1 C5
    simp only [Bool.false_and, Bool.false_eq_true, if_false] at C5
    clear C6 H H' r1 R2
    go_enter Try.func8, Try.ntmps8
    go_wp2_with fail
    refine (C5 _).mono ?_
    rintro e w1 ⟨rfl, os1, dr1, rfl⟩
    go_wp2_with fail
    refine (R1 _).mono ?_
    rintro e w1 ⟨rfl, os2, dr2, rfl⟩
    go_wp2_with fail
    refine (CA _).mono ?_
    rintro e w1 ⟨rfl, os3, dr3, rfl⟩
    go_wp2
    go_ret
    exact ⟨rfl, (by with_reducible repeat (first | exact IsGr.refl _ | refine IsGr.gr ?_ _ _ | refine IsGr.alloc ?_ _ | refine IsGr.drew ?_ | refine IsGr.drewN ?_ _))⟩
  | true =>
    cases r2 : segR c1 c2 d1 d2 with
    | false =>
      rw [r1] at R1
      rw [r2] at R2
      rw [r1, r2] at C5
      simp only [Bool.and_false, Bool.false_eq_true, if_false] at C5
      clear C6 H H' r1 r2
      go_enter Try.func8, Try.ntmps8
      go_wp2_with fail
      refine (C5 _).mono ?_
      rintro e w1 ⟨rfl, os1, dr1, rfl⟩
      go_wp2_with fail
      refine (R1 _).mono ?_
      rintro e w1 ⟨rfl, os2, dr2, rfl⟩
      go_wp2_with fail
      refine (R2 _).mono ?_
      rintro e w1 ⟨rfl, os3, dr3, rfl⟩
      go_wp2_with fail
      refine (CA _).mono ?_
      rintro e w1 ⟨rfl, os4, dr4, rfl⟩
      go_wp2
      go_ret
      exact ⟨rfl, (by with_reducible repeat (first | exact IsGr.refl _ | refine IsGr.gr ?_ _ _ | refine IsGr.alloc ?_ _ | refine IsGr.drew ?_ | refine IsGr.drewN ?_ _))⟩
    | true =>
      have E1 := fun w => Ends_any a1 a2 b1 b2 l1 l2 h1 h2 H w
      have E2 := fun w => Ends_any c1 c2 d1 d2 m1 m2 k1 k2 H' w
      obtain ⟨b1', b2'⟩ := ends_diff H r1
      obtain ⟨b3', b4'⟩ := ends_diff H' r2
      rw [r1] at R1
      rw [r2] at R2
      rw [r1, r2] at C5 C6
      simp only [Bool.and_self, if_true] at C5 C6
      rw [slopeS_swap] at C6
      have hn := cmpI_neg (x := -slopeS l1 l2 h1 h2 m1 m2 k1 k2) (y := slopeS l1 l2 h1 h2 m1 m2 k1 k2) rfl
      rw [hn] at C6
      have hr := cmpI_range (slopeS l1 l2 h1 h2 m1 m2 k1 k2) 0
      have hS : (k1 - m1) * (h2 - l2) - (k2 - m2) * (h1 - l1) = slopeS l1 l2 h1 h2 m1 m2 k1 k2 := rfl
      have t1 := mul_le_of b3' b2'
      have t2 := mul_le_of b4' b1'
      obtain ⟨D1, hD1, v1⟩ : ∃ D, k1 - m1 = D ∧ IntKind.i64.wrap (k1 - m1) = D := ⟨_, rfl, by rw [IntKind.wrap_i64]; omega⟩
      obtain ⟨D2, hD2, v2⟩ : ∃ D, h2 - l2 = D ∧ IntKind.i64.wrap (h2 - l2) = D := ⟨_, rfl, by rw [IntKind.wrap_i64]; omega⟩
      obtain ⟨D3, hD3, v3⟩ : ∃ D, k2 - m2 = D ∧ IntKind.i64.wrap (k2 - m2) = D := ⟨_, rfl, by rw [IntKind.wrap_i64]; omega⟩
      obtain ⟨D4, hD4, v4⟩ : ∃ D, h1 - l1 = D ∧ IntKind.i64.wrap (h1 - l1) = D := ⟨_, rfl, by rw [IntKind.wrap_i64]; omega⟩
      rw [hD1] at b3' hS t1
      rw [hD2] at b2' hS t1
      rw [hD3] at b4' hS t2
      rw [hD4] at b1' hS t2
      have O1 := fun w => BigOf_any D1 (by omega) (by omega) w
      have O2 := fun w => BigOf_any D2 (by omega) (by omega) w
      have O3 := fun w => BigOf_any D3 (by omega) (by omega) w
      have O4 := fun w => BigOf_any D4 (by omega) (by omega) w
      have M1 := fun w1 u v (h : IsBig w1 u D1) (h' : IsBig w1 v D2) => BigMul_any u v D1 D2 w1 h h' (sm_of b3') (sm_of b2')
      have M2 := fun w1 u v (h : IsBig w1 u D3) (h' : IsBig w1 v D4) => BigMul_any u v D3 D4 w1 h h' (sm_of b4') (sm_of b1')
      have CS := fun w1 u v (h : IsBig w1 u (D1 * D2)) (h' : IsBig w1 v (D3 * D4)) => BigSub_any u v (D1 * D2) (D3 * D4) w1 h h' (by unfold Sm; omega) (by unfold Sm; omega)
      rw [hS] at CS
      have CG := fun w1 u (h : IsBig w1 u (slopeS l1 l2 h1 h2 m1 m2 k1 k2)) => BigSign_any u (slopeS l1 l2 h1 h2 m1 m2 k1 k2) w1 h (by rw [← hS]; unfold Sm; omega)
      generalize D1 * D2 = P1 at *
      generalize D3 * D4 = P2 at *
      generalize slopeS l1 l2 h1 h2 m1 m2 k1 k2 = T at *
      generalize cmpI T 0 = K at *
      have v5 : IntKind.i64.wrap (-K) = -K := by rw [IntKind.wrap_i64]; omega
      clear hn hS t1 t2 hD1 hD2 hD3 hD4 b1' b2' b3' b4' r1 r2 H H' hr
      go_enter Try.func8, Try.ntmps8
      go_wp2_with fail
      refine (C5 _).mono ?_
      rintro e w1 ⟨rfl, os1, dr1, rfl⟩
      go_wp2_with fail
      refine (R1 _).mono ?_
      rintro e w1 ⟨rfl, os2, dr2, rfl⟩
      go_wp2_with fail
      refine (R2 _).mono ?_
      rintro e w1 ⟨rfl, os3, dr3, rfl⟩
      go_upto_region 4 with fail
      go_cut [6, 7] (fun t6 t7 wr => ∃ g6 g7 : Nat, t6 = .pointer (some ⟨g6, 0, none⟩) ∧ t7 = .pointer (some ⟨g7, 0, none⟩) ∧ g6 < wr.heap.size ∧ g7 < wr.heap.size ∧ (wr.cell? ⟨g6, 0, none⟩ = some (.int .i64 l1) ∧ wr.cell? ⟨g6, 1, none⟩ = some (.int .i64 l2)) ∧ (wr.cell? ⟨g7, 0, none⟩ = some (.int .i64 h1) ∧ wr.cell? ⟨g7, 1, none⟩ = some (.int .i64 h2)) ∧ (wr.cell? ⟨w.heap.size, 0, none⟩ = some (.int .i64 a1) ∧ wr.cell? ⟨w.heap.size, 1, none⟩ = some (.int .i64 a2) ∧ wr.cell? ⟨w.heap.size, 2, none⟩ = some (.int .i64 b1) ∧ wr.cell? ⟨w.heap.size, 3, none⟩ = some (.int .i64 b2)) ∧ (wr.cell? ⟨w.heap.size + 1, 0, none⟩ = some (.int .i64 c1) ∧ wr.cell? ⟨w.heap.size + 1, 1, none⟩ = some (.int .i64 c2) ∧ wr.cell? ⟨w.heap.size + 1, 2, none⟩ = some (.int .i64 d1) ∧ wr.cell? ⟨w.heap.size + 1, 3, none⟩ = some (.int .i64 d2)) ∧ w.heap.size + 2 ≤ wr.heap.size ∧ IsGr w wr)
      case first =>
        go_wp2_with fail
        refine (E1 _).mono ?_
        rintro e w1 ⟨rfl, os4, dr4, rfl⟩
        go_wp2
        go_meet
        case rel =>
          refine ⟨_, _, rfl, rfl, ?_, ?_, ?_, ?_, ?_, ?_, ?_, (by with_reducible repeat (first | exact IsGr.refl _ | refine IsGr.gr ?_ _ _ | refine IsGr.alloc ?_ _ | refine IsGr.drew ?_ | refine IsGr.drewN ?_ _))⟩
          · first | omega | (simp; done) | (simp; omega) | (simp [Gr.size]; done) | (simp [Gr.size]; omega)
          · first | omega | (simp; done) | (simp; omega) | (simp [Gr.size]; done) | (simp [Gr.size]; omega)
          · simp [go_sem]
          · simp [go_sem]
          · simp [go_sem]
          · simp [go_sem]
          · first | omega | (simp; done) | (simp; omega) | (simp [Gr.size]; done) | (simp [Gr.size]; omega)
      case rest =>
        obtain ⟨g6, g7, rfl, rfl, k6, k7, q6, q7, qa, qc, ks, hgw⟩ := hcut
        obtain ⟨W1, hW9⟩ : ∃ W1, W1 = wc := ⟨_, rfl⟩
        subst hW9
        have HG : Hid (IsGr w W1) := hgw
        obtain ⟨x1, x2, x3, x4⟩ := qa
        obtain ⟨y1, y2, y3, y4⟩ := qc
        have ka : w.heap.size < W1.heap.size := by omega
        have kc : w.heap.size + 1 < W1.heap.size := by omega
        clear hgw E1
        go_upto_region 5 with fail
        go_cut [8, 9] (fun t8 t9 wr => ∃ g8 g9 : Nat, t8 = .pointer (some ⟨g8, 0, none⟩) ∧ t9 = .pointer (some ⟨g9, 0, none⟩) ∧ g8 < wr.heap.size ∧ g9 < wr.heap.size ∧ (wr.cell? ⟨g8, 0, none⟩ = some (.int .i64 m1) ∧ wr.cell? ⟨g8, 1, none⟩ = some (.int .i64 m2)) ∧ (wr.cell? ⟨g9, 0, none⟩ = some (.int .i64 k1) ∧ wr.cell? ⟨g9, 1, none⟩ = some (.int .i64 k2)) ∧ IsGr W1 wr)
        case first =>
          go_wp2_with fail
          refine (E2 _).mono ?_
          rintro e w1 ⟨rfl, os5, dr5, rfl⟩
          go_wp2
          go_meet
          case rel =>
            refine ⟨_, _, rfl, rfl, ?_, ?_, ?_, ?_, (by with_reducible repeat (first | exact IsGr.refl _ | refine IsGr.gr ?_ _ _ | refine IsGr.alloc ?_ _ | refine IsGr.drew ?_ | refine IsGr.drewN ?_ _))⟩
            · first | omega | (simp; done) | (simp; omega) | (simp [Gr.size]; done) | (simp [Gr.size]; omega)
            · first | omega | (simp; done) | (simp; omega) | (simp [Gr.size]; done) | (simp [Gr.size]; omega)
            · simp [go_sem]
            · simp [go_sem]
        case rest =>
          obtain ⟨g8, g9, rfl, rfl, k8, k9, q8, q9, hgr⟩ := hcut
          obtain ⟨W2, hW9⟩ : ∃ W2, W2 = wc := ⟨_, rfl⟩
          subst hW9
          replace q6 : (W2.cell? ⟨g6, 0, none⟩ = some (.int .i64 l1) ∧ W2.cell? ⟨g6, 1, none⟩ = some (.int .i64 l2)) := ⟨hgr.cell_at k6 q6.1, hgr.cell_at k6 q6.2⟩
          replace q7 : (W2.cell? ⟨g7, 0, none⟩ = some (.int .i64 h1) ∧ W2.cell? ⟨g7, 1, none⟩ = some (.int .i64 h2)) := ⟨hgr.cell_at k7 q7.1, hgr.cell_at k7 q7.2⟩
          replace HG : Hid (IsGr w W2) := HG.out.trans hgr
          replace x1 := hgr.cell_at ka x1
          replace x2 := hgr.cell_at ka x2
          replace x3 := hgr.cell_at ka x3
          replace x4 := hgr.cell_at ka x4
          replace y1 := hgr.cell_at kc y1
          replace y2 := hgr.cell_at kc y2
          replace y3 := hgr.cell_at kc y3
          replace y4 := hgr.cell_at kc y4
          have hsz := hgr.size
          replace ka : w.heap.size < W2.heap.size := by omega
          replace kc : w.heap.size + 1 < W2.heap.size := by omega
          replace k6 : g6 < W2.heap.size := by omega
          replace k7 : g7 < W2.heap.size := by omega
          have hSO : ∀ w', IsGr W2 w' → (w'.cell? ⟨g6, 0, none⟩ = some (.int .i64 l1) ∧ w'.cell? ⟨g6, 1, none⟩ = some (.int .i64 l2)) ∧ (w'.cell? ⟨g7, 0, none⟩ = some (.int .i64 h1) ∧ w'.cell? ⟨g7, 1, none⟩ = some (.int .i64 h2)) ∧ (w'.cell? ⟨g8, 0, none⟩ = some (.int .i64 m1) ∧ w'.cell? ⟨g8, 1, none⟩ = some (.int .i64 m2)) ∧ (w'.cell? ⟨g9, 0, none⟩ = some (.int .i64 k1) ∧ w'.cell? ⟨g9, 1, none⟩ = some (.int .i64 k2)) := fun w' hg => ⟨⟨hg.cell_at (by omega) q6.1, hg.cell_at (by omega) q6.2⟩, ⟨hg.cell_at (by omega) q7.1, hg.cell_at (by omega) q7.2⟩, ⟨hg.cell_at (by omega) q8.1, hg.cell_at (by omega) q8.2⟩, ⟨hg.cell_at (by omega) q9.1, hg.cell_at (by omega) q9.2⟩⟩
          clear hgr hsz E2 q6 q7 q8 q9 k6 k7 k8 k9
          go_upto_region 6 with fail
          go_cut [10] (fun t10 wr => BigAt wr t10 P1 ∧ IsGr W2 wr)
          case first => as_aux_lemma =>
            clear x1 x2 x3 x4 y1 y2 y3 y4 C5 C6 CA CS CG
            refine wp_region_held_drew (S := (fun w' => (w'.cell? ⟨g6, 0, none⟩ = some (.int .i64 l1) ∧ w'.cell? ⟨g6, 1, none⟩ = some (.int .i64 l2)) ∧ (w'.cell? ⟨g7, 0, none⟩ = some (.int .i64 h1) ∧ w'.cell? ⟨g7, 1, none⟩ = some (.int .i64 h2)) ∧ (w'.cell? ⟨g8, 0, none⟩ = some (.int .i64 m1) ∧ w'.cell? ⟨g8, 1, none⟩ = some (.int .i64 m2)) ∧ (w'.cell? ⟨g9, 0, none⟩ = some (.int .i64 k1) ∧ w'.cell? ⟨g9, 1, none⟩ = some (.int .i64 k2)))) (by kernel_rfl) (by (try dsimp only); exact hSO _ (by with_reducible repeat (first | exact IsGr.refl _ | refine IsGr.gr ?_ _ _ | refine IsGr.alloc ?_ _ | refine IsGr.drew ?_ | refine IsGr.drewN ?_ _))) (fun hHeld => ?_)
            refine wpAnyH_take (i := 0) (oi := { dst := some 38, op := Op.fieldAddr 24 (Operand.tmp 9) 0, type := 0, pos := "law.go:94", after := #[], guard := none }) (v := ?_) rfl (by kernel_rfl) (by kernel_rfl) (by kernel_rfl) (fun _ _ _ h => h) (Or.inl ⟨by rfl, ?_⟩) (by assumption) ?_
            rotate_left
            · (intro w hSw; (try dsimp only at hSw); go_simp <;> with_reducible rfl)
            (try simp only [Act.put, List.setIfInBounds_toArray, List.set_cons_zero, List.set_cons_succ])
            refine wpAnyH_take (i := 1) (oi := { dst := some 39, op := Op.load 3 (Operand.tmp 38), type := 3, pos := "law.go:94", after := #[{ on := 0, ground := Ground.data }], guard := none }) (v := ?_) rfl (by kernel_rfl) (by kernel_rfl) (by kernel_rfl) (fun _ _ _ h => h) (Or.inl ⟨by rfl, ?_⟩) (by assumption) ?_
            rotate_left
            · (intro w hSw; (try dsimp only at hSw); go_simp <;> with_reducible rfl)
            (try simp only [Act.put, List.setIfInBounds_toArray, List.set_cons_zero, List.set_cons_succ])
            refine wpAnyH_take (i := 2) (oi := { dst := some 40, op := Op.fieldAddr 24 (Operand.tmp 8) 0, type := 0, pos := "law.go:94", after := #[], guard := none }) (v := ?_) rfl (by kernel_rfl) (by kernel_rfl) (by kernel_rfl) (fun _ _ _ h => h) (Or.inl ⟨by rfl, ?_⟩) (by assumption) ?_
            rotate_left
            · (intro w hSw; (try dsimp only at hSw); go_simp <;> with_reducible rfl)
            (try simp only [Act.put, List.setIfInBounds_toArray, List.set_cons_zero, List.set_cons_succ])
            refine wpAnyH_take (i := 3) (oi := { dst := some 41, op := Op.load 3 (Operand.tmp 40), type := 3, pos := "law.go:94", after := #[{ on := 2, ground := Ground.data }], guard := none }) (v := ?_) rfl (by kernel_rfl) (by kernel_rfl) (by kernel_rfl) (fun _ _ _ h => h) (Or.inl ⟨by rfl, ?_⟩) (by assumption) ?_
            rotate_left
            · (intro w hSw; (try dsimp only at hSw); go_simp <;> with_reducible rfl)
            (try simp only [Act.put, List.setIfInBounds_toArray, List.set_cons_zero, List.set_cons_succ])
            refine wpAnyH_take (i := 4) (oi := { dst := some 42, op := Op.binOp BinOp.sub 3 (Operand.tmp 39) (Operand.tmp 41) 3, type := 3, pos := "law.go:94", after := #[{ on := 1, ground := Ground.data }, { on := 3, ground := Ground.data }], guard := none }) (v := ?_) rfl (by kernel_rfl) (by kernel_rfl) (by kernel_rfl) (fun _ _ _ h => h) (Or.inl ⟨by rfl, ?_⟩) (by assumption) ?_
            rotate_left
            · (intro w hSw; (try dsimp only at hSw); go_simp <;> with_reducible rfl)
            (try simp only [Act.put, List.setIfInBounds_toArray, List.set_cons_zero, List.set_cons_succ])
            refine wpAnyH_take (i := 6) (oi := { dst := some 44, op := Op.fieldAddr 24 (Operand.tmp 7) 1, type := 0, pos := "law.go:94", after := #[], guard := none }) (v := ?_) rfl (by kernel_rfl) (by kernel_rfl) (by kernel_rfl) (fun _ _ _ h => h) (Or.inl ⟨by rfl, ?_⟩) (by assumption) ?_
            rotate_left
            · (intro w hSw; (try dsimp only at hSw); go_simp <;> with_reducible rfl)
            (try simp only [Act.put, List.setIfInBounds_toArray, List.set_cons_zero, List.set_cons_succ])
            refine wpAnyH_take (i := 7) (oi := { dst := some 45, op := Op.load 3 (Operand.tmp 44), type := 3, pos := "law.go:94", after := #[{ on := 6, ground := Ground.data }], guard := none }) (v := ?_) rfl (by kernel_rfl) (by kernel_rfl) (by kernel_rfl) (fun _ _ _ h => h) (Or.inl ⟨by rfl, ?_⟩) (by assumption) ?_
            rotate_left
            · (intro w hSw; (try dsimp only at hSw); go_simp <;> with_reducible rfl)
            (try simp only [Act.put, List.setIfInBounds_toArray, List.set_cons_zero, List.set_cons_succ])
            refine wpAnyH_take (i := 8) (oi := { dst := some 46, op := Op.fieldAddr 24 (Operand.tmp 6) 1, type := 0, pos := "law.go:94", after := #[], guard := none }) (v := ?_) rfl (by kernel_rfl) (by kernel_rfl) (by kernel_rfl) (fun _ _ _ h => h) (Or.inl ⟨by rfl, ?_⟩) (by assumption) ?_
            rotate_left
            · (intro w hSw; (try dsimp only at hSw); go_simp <;> with_reducible rfl)
            (try simp only [Act.put, List.setIfInBounds_toArray, List.set_cons_zero, List.set_cons_succ])
            refine wpAnyH_take (i := 9) (oi := { dst := some 47, op := Op.load 3 (Operand.tmp 46), type := 3, pos := "law.go:94", after := #[{ on := 8, ground := Ground.data }], guard := none }) (v := ?_) rfl (by kernel_rfl) (by kernel_rfl) (by kernel_rfl) (fun _ _ _ h => h) (Or.inl ⟨by rfl, ?_⟩) (by assumption) ?_
            rotate_left
            · (intro w hSw; (try dsimp only at hSw); go_simp <;> with_reducible rfl)
            (try simp only [Act.put, List.setIfInBounds_toArray, List.set_cons_zero, List.set_cons_succ])
            refine wpAnyH_take (i := 10) (oi := { dst := some 48, op := Op.binOp BinOp.sub 3 (Operand.tmp 45) (Operand.tmp 47) 3, type := 3, pos := "law.go:94", after := #[{ on := 7, ground := Ground.data }, { on := 9, ground := Ground.data }], guard := none }) (v := ?_) rfl (by kernel_rfl) (by kernel_rfl) (by kernel_rfl) (fun _ _ _ h => h) (Or.inl ⟨by rfl, ?_⟩) (by assumption) ?_
            rotate_left
            · (intro w hSw; (try dsimp only at hSw); go_simp <;> with_reducible rfl)
            (try simp only [Act.put, List.setIfInBounds_toArray, List.set_cons_zero, List.set_cons_succ])
            refine wpAnyH_invA [5, 11, 12, 13, 14] (fun A D a w => ∃ t5 t11 t12 t13 : Value, a = ((((A.put (some 43) t5).put (some 49) t11).put (some 50) t12).put (some 10) t13) ∧ IsGr W2 w ∧ (D 5 → IsBig w t5 (D1)) ∧ (D 11 → IsBig w t11 (D2)) ∧ (D 12 → IsBig w t12 (P1)) ∧ (D 13 → Bx W2 w 53 bigCells t13) ∧ (D 14 → D 13 ∧ D 12 ∧ ∃ c0 c1 : Value, t12 = .agg #[c0, c1] ∧ Hx w 53 t13 c0 c1)) (by kernel_rfl) (by assumption) ?_ ?_ ?_
            · exact ⟨_, _, _, _, by (simp only [Act.put, List.setIfInBounds_toArray, List.set_cons_zero, List.set_cons_succ]); try rfl, (by with_reducible repeat (first | exact IsGr.refl _ | refine IsGr.gr ?_ _ _ | refine IsGr.alloc ?_ _ | refine IsGr.drew ?_ | refine IsGr.drewN ?_ _)), fun h => h.elim, fun h => h.elim, fun h => h.elim, fun h => h.elim, fun h => h.elim⟩
            · intro D a w hD hF hSw
              obtain ⟨t5, t11, t12, t13, ha, hg, f5, f11, f12, b13, h14⟩ := hF
              subst ha
              (try simp only [Act.put, List.setIfInBounds_toArray, List.set_cons_zero, List.set_cons_succ])
              have A1 := BigAt.of (h14 (hD 14 (by simp))).2.2 (f12 (hD 12 (by simp)))
              clear f5 f11 f12 b13 h14 hD hSw
              go_wp2
              go_meet
              case rel => exact ⟨A1, hg⟩
            refine StepI.cons (i := 5) (o := { dst := some 43, op := Op.call { callee := Callee.value (Operand.func 41), args := #[Operand.tmp 42], argTypes := #[3] }, type := 53, pos := "law.go:94", after := #[{ on := 4, ground := Ground.data }], guard := none }) (ns := []) rfl (by kernel_rfl) (fun D a w nD hn hF hSw K hK => ?_) ?_
            · obtain ⟨t5, t11, t12, t13, ha, hg, f5, f11, f12, b13, h14⟩ := hF
              subst ha
              (try simp only [Act.put, List.setIfInBounds_toArray, List.set_cons_zero, List.set_cons_succ])
              go_simp
              refine (O1 _).mono ?_
              rintro e w1 ⟨q, rfl, hq, hg1⟩
              (try go_wp2_with fail)
              refine hK.out _ _ (hSO _ (hg.trans hg1)) (fun _ => ?_)
              refine ⟨q, t11, t12, t13, by (simp only [Act.put, List.setIfInBounds_toArray, List.set_cons_zero, List.set_cons_succ]); try rfl, (hg.trans hg1), ?_, ?_, ?_, ?_, ?_⟩
              · exact fun _ => hq
              · exact fun h => (f11 (Or.resolve_left h (by decide))).gr hg1
              · exact fun h => (f12 (Or.resolve_left h (by decide))).gr hg1
              · exact fun h => (b13 (Or.resolve_left h (by decide))).gr hg1
              · exact fun h => (h14 (Or.resolve_left h (by decide))).imp Or.inr (fun ⟨x1, c0, c1, x2, x3⟩ => ⟨Or.inr x1, c0, c1, x2, x3.gr hg1⟩)
            refine StepI.cons (i := 11) (o := { dst := some 49, op := Op.call { callee := Callee.value (Operand.func 41), args := #[Operand.tmp 48], argTypes := #[3] }, type := 53, pos := "law.go:94", after := #[{ on := 10, ground := Ground.data }, { on := 5, ground := Ground.chain }], guard := none }) (ns := [5]) rfl (by kernel_rfl) (fun D a w nD hn hF hSw K hK => ?_) ?_
            · obtain ⟨t5, t11, t12, t13, ha, hg, f5, f11, f12, b13, h14⟩ := hF
              have d5 : D 5 := hn 5 (by simp)
              subst ha
              (try simp only [Act.put, List.setIfInBounds_toArray, List.set_cons_zero, List.set_cons_succ])
              go_simp
              refine (O2 _).mono ?_
              rintro e w1 ⟨q, rfl, hq, hg1⟩
              (try go_wp2_with fail)
              refine hK.out _ _ (hSO _ (hg.trans hg1)) (fun _ => ?_)
              refine ⟨t5, q, t12, t13, by (simp only [Act.put, List.setIfInBounds_toArray, List.set_cons_zero, List.set_cons_succ]); try rfl, (hg.trans hg1), ?_, ?_, ?_, ?_, ?_⟩
              · exact fun h => (f5 (Or.resolve_left h (by decide))).gr hg1
              · exact fun _ => hq
              · exact fun h => (f12 (Or.resolve_left h (by decide))).gr hg1
              · exact fun h => (b13 (Or.resolve_left h (by decide))).gr hg1
              · exact fun h => (h14 (Or.resolve_left h (by decide))).imp Or.inr (fun ⟨x1, c0, c1, x2, x3⟩ => ⟨Or.inr x1, c0, c1, x2, x3.gr hg1⟩)
            refine StepI.cons (i := 12) (o := { dst := some 50, op := Op.call { callee := Callee.value (Operand.func 40), args := #[Operand.tmp 43, Operand.tmp 49], argTypes := #[53, 53] }, type := 53, pos := "law.go:94", after := #[{ on := 5, ground := Ground.data }, { on := 11, ground := Ground.data }, { on := 11, ground := Ground.chain }], guard := none }) (ns := [5, 11, 11]) rfl (by kernel_rfl) (fun D a w nD hn hF hSw K hK => ?_) ?_
            · obtain ⟨t5, t11, t12, t13, ha, hg, f5, f11, f12, b13, h14⟩ := hF
              have d5 : D 5 := hn 5 (by simp)
              have d11 : D 11 := hn 11 (by simp)
              have d11 : D 11 := hn 11 (by simp)
              subst ha
              (try simp only [Act.put, List.setIfInBounds_toArray, List.set_cons_zero, List.set_cons_succ])
              go_simp
              refine (M1 _ _ _ (f5 d5) (f11 d11)).mono ?_
              rintro e w1 ⟨q, rfl, hq, hg1⟩
              (try go_wp2_with fail)
              refine hK.out _ _ (hSO _ (hg.trans hg1)) (fun _ => ?_)
              refine ⟨t5, t11, q, t13, by (simp only [Act.put, List.setIfInBounds_toArray, List.set_cons_zero, List.set_cons_succ]); try rfl, (hg.trans hg1), ?_, ?_, ?_, ?_, ?_⟩
              · exact fun h => (f5 (Or.resolve_left h (by decide))).gr hg1
              · exact fun h => (f11 (Or.resolve_left h (by decide))).gr hg1
              · exact fun _ => hq
              · exact fun h => (b13 (Or.resolve_left h (by decide))).gr hg1
              · exact fun h => absurd (h14 (Or.resolve_left h (by decide))).2.1 nD
            refine StepI.cons (i := 13) (o := { dst := some 10, op := Op.alloc 53, type := 0, pos := "law.go:94", after := #[], guard := none }) (ns := []) rfl (by kernel_rfl) (fun D a w nD hn hF hSw K hK => ?_) ?_
            · obtain ⟨t5, t11, t12, t13, ha, hg, f5, f11, f12, b13, h14⟩ := hF
              subst ha
              (try simp only [Act.put, List.setIfInBounds_toArray, List.set_cons_zero, List.set_cons_succ])
              go_simp
              refine hK.out _ _ (hSO _ (hg.alloc _)) (fun _ => ?_)
              refine ⟨t5, t11, t12, _, by (simp only [Act.put, List.setIfInBounds_toArray, List.set_cons_zero, List.set_cons_succ]); try rfl, (hg.alloc _), ?_, ?_, ?_, ?_, ?_⟩
              · exact fun h => (f5 (Or.resolve_left h (by decide))).gr ((IsGr.refl _).alloc _)
              · exact fun h => (f11 (Or.resolve_left h (by decide))).gr ((IsGr.refl _).alloc _)
              · exact fun h => (f12 (Or.resolve_left h (by decide))).gr ((IsGr.refl _).alloc _)
              · exact fun _ => Bx.lay hg (by simp [bigCells])
              · exact fun h => absurd (h14 (Or.resolve_left h (by decide))).1 nD
            refine StepI.cons (i := 14) (o := { dst := none, op := Op.store 53 (Operand.tmp 10) (Operand.tmp 50), type := 0, pos := "law.go:94", after := #[{ on := 13, ground := Ground.data }, { on := 12, ground := Ground.data }, { on := 12, ground := Ground.chain }, { on := 0, ground := Ground.phase }, { on := 1, ground := Ground.phase }, { on := 2, ground := Ground.phase }, { on := 3, ground := Ground.phase }, { on := 4, ground := Ground.phase }, { on := 5, ground := Ground.phase }, { on := 6, ground := Ground.phase }, { on := 7, ground := Ground.phase }, { on := 8, ground := Ground.phase }, { on := 9, ground := Ground.phase }, { on := 10, ground := Ground.phase }, { on := 11, ground := Ground.phase }, { on := 12, ground := Ground.phase }, { on := 13, ground := Ground.phase }], guard := none }) (ns := [13, 12, 12, 5, 11, 12, 13]) rfl (by kernel_rfl) (fun D a w nD hn hF hSw K hK => ?_) ?_
            · obtain ⟨t5, t11, t12, t13, ha, hg, f5, f11, f12, b13, h14⟩ := hF
              have d13 : D 13 := hn 13 (by simp)
              have d12 : D 12 := hn 12 (by simp)
              have d12 : D 12 := hn 12 (by simp)
              have d5 : D 5 := hn 5 (by simp)
              have d11 : D 11 := hn 11 (by simp)
              have d12 : D 12 := hn 12 (by simp)
              have d13 : D 13 := hn 13 (by simp)
              obtain ⟨z0, z1, hz0⟩ : ∃ z0 z1 : Value, t12 = .agg #[z0, z1] ∧ bigCells z0 z1 := big_cells (f12 d12)
              obtain ⟨hz0, hz1⟩ := hz0
              obtain ⟨bb, y0, y1, hb0, hb1, hb2, hb3⟩ := b13 d13
              obtain ⟨k1, k2, k3, k4, k5⟩ := block_cells hb2
              have hz2 := hz1
              obtain ⟨zs, za, zn, zc, rfl, rfl⟩ := hz1
              subst hz0
              subst hb0
              subst ha
              (try simp only [Act.put, List.setIfInBounds_toArray, List.set_cons_zero, List.set_cons_succ])
              go_simp
              refine hK.out _ _ (hSO _ (put2_gr hg hb1)) (fun _ => ?_)
              refine ⟨t5, t11, (.agg #[.bool zs, .slice za zn zc]), (.pointer (some ⟨bb, 0, none⟩)), by (simp only [Act.put, List.setIfInBounds_toArray, List.set_cons_zero, List.set_cons_succ]); try rfl, (put2_gr hg hb1), ?_, ?_, ?_, ?_, ?_⟩
              · exact fun h => (f5 (Or.resolve_left h (by decide))).kb (put2_kb hb2 hb3)
              · exact fun h => (f11 (Or.resolve_left h (by decide))).kb (put2_kb hb2 hb3)
              · exact fun h => (f12 (Or.resolve_left h (by decide))).kb (put2_kb hb2 hb3)
              · exact fun h => put2_bx hb2 hz2 (b13 (Or.resolve_left h (by decide)))
              · exact fun _ => ⟨Or.inr d13, Or.inr d12, _, _, rfl, put2_new hb2⟩
            exact StepI.nil
          case rest =>
            obtain ⟨A10, hgr⟩ := hcut
            obtain ⟨W3, hW9⟩ : ∃ W3, W3 = wc := ⟨_, rfl⟩
            subst hW9
            have hSO2 : ∀ w', IsGr W3 w' → (w'.cell? ⟨g6, 0, none⟩ = some (.int .i64 l1) ∧ w'.cell? ⟨g6, 1, none⟩ = some (.int .i64 l2)) ∧ (w'.cell? ⟨g7, 0, none⟩ = some (.int .i64 h1) ∧ w'.cell? ⟨g7, 1, none⟩ = some (.int .i64 h2)) ∧ (w'.cell? ⟨g8, 0, none⟩ = some (.int .i64 m1) ∧ w'.cell? ⟨g8, 1, none⟩ = some (.int .i64 m2)) ∧ (w'.cell? ⟨g9, 0, none⟩ = some (.int .i64 k1) ∧ w'.cell? ⟨g9, 1, none⟩ = some (.int .i64 k2)) := fun w' hg => hSO w' (hgr.trans hg)
            replace HG : Hid (IsGr w W3) := HG.out.trans hgr
            replace x1 := hgr.cell_at ka x1
            replace x2 := hgr.cell_at ka x2
            replace x3 := hgr.cell_at ka x3
            replace x4 := hgr.cell_at ka x4
            replace y1 := hgr.cell_at kc y1
            replace y2 := hgr.cell_at kc y2
            replace y3 := hgr.cell_at kc y3
            replace y4 := hgr.cell_at kc y4
            have hsz := hgr.size
            replace ka : w.heap.size < W3.heap.size := by omega
            replace kc : w.heap.size + 1 < W3.heap.size := by omega
            clear hgr hSO hsz O1 O2 M1 v1 v2
            go_upto_region 7 with fail
            go_cut [11] (fun t11 wr => BigAt wr t11 P2 ∧ IsGr W3 wr)
            case first => as_aux_lemma =>
              clear x1 x2 x3 x4 y1 y2 y3 y4 C5 C6 CA CS CG A10
              refine wp_region_held_drew (S := (fun w' => (w'.cell? ⟨g6, 0, none⟩ = some (.int .i64 l1) ∧ w'.cell? ⟨g6, 1, none⟩ = some (.int .i64 l2)) ∧ (w'.cell? ⟨g7, 0, none⟩ = some (.int .i64 h1) ∧ w'.cell? ⟨g7, 1, none⟩ = some (.int .i64 h2)) ∧ (w'.cell? ⟨g8, 0, none⟩ = some (.int .i64 m1) ∧ w'.cell? ⟨g8, 1, none⟩ = some (.int .i64 m2)) ∧ (w'.cell? ⟨g9, 0, none⟩ = some (.int .i64 k1) ∧ w'.cell? ⟨g9, 1, none⟩ = some (.int .i64 k2)))) (by kernel_rfl) (by (try dsimp only); exact hSO2 _ (by with_reducible repeat (first | exact IsGr.refl _ | refine IsGr.gr ?_ _ _ | refine IsGr.alloc ?_ _ | refine IsGr.drew ?_ | refine IsGr.drewN ?_ _))) (fun hHeld => ?_)
              refine wpAnyH_take (i := 0) (oi := { dst := some 51, op := Op.fieldAddr 24 (Operand.tmp 9) 1, type := 0, pos := "law.go:95", after := #[], guard := none }) (v := ?_) rfl (by kernel_rfl) (by kernel_rfl) (by kernel_rfl) (fun _ _ _ h => h) (Or.inl ⟨by rfl, ?_⟩) (by assumption) ?_
              rotate_left
              · (intro w hSw; (try dsimp only at hSw); go_simp <;> with_reducible rfl)
              (try simp only [Act.put, List.setIfInBounds_toArray, List.set_cons_zero, List.set_cons_succ])
              refine wpAnyH_take (i := 1) (oi := { dst := some 52, op := Op.load 3 (Operand.tmp 51), type := 3, pos := "law.go:95", after := #[{ on := 0, ground := Ground.data }], guard := none }) (v := ?_) rfl (by kernel_rfl) (by kernel_rfl) (by kernel_rfl) (fun _ _ _ h => h) (Or.inl ⟨by rfl, ?_⟩) (by assumption) ?_
              rotate_left
              · (intro w hSw; (try dsimp only at hSw); go_simp <;> with_reducible rfl)
              (try simp only [Act.put, List.setIfInBounds_toArray, List.set_cons_zero, List.set_cons_succ])
              refine wpAnyH_take (i := 2) (oi := { dst := some 53, op := Op.fieldAddr 24 (Operand.tmp 8) 1, type := 0, pos := "law.go:95", after := #[], guard := none }) (v := ?_) rfl (by kernel_rfl) (by kernel_rfl) (by kernel_rfl) (fun _ _ _ h => h) (Or.inl ⟨by rfl, ?_⟩) (by assumption) ?_
              rotate_left
              · (intro w hSw; (try dsimp only at hSw); go_simp <;> with_reducible rfl)
              (try simp only [Act.put, List.setIfInBounds_toArray, List.set_cons_zero, List.set_cons_succ])
              refine wpAnyH_take (i := 3) (oi := { dst := some 54, op := Op.load 3 (Operand.tmp 53), type := 3, pos := "law.go:95", after := #[{ on := 2, ground := Ground.data }], guard := none }) (v := ?_) rfl (by kernel_rfl) (by kernel_rfl) (by kernel_rfl) (fun _ _ _ h => h) (Or.inl ⟨by rfl, ?_⟩) (by assumption) ?_
              rotate_left
              · (intro w hSw; (try dsimp only at hSw); go_simp <;> with_reducible rfl)
              (try simp only [Act.put, List.setIfInBounds_toArray, List.set_cons_zero, List.set_cons_succ])
              refine wpAnyH_take (i := 4) (oi := { dst := some 55, op := Op.binOp BinOp.sub 3 (Operand.tmp 52) (Operand.tmp 54) 3, type := 3, pos := "law.go:95", after := #[{ on := 1, ground := Ground.data }, { on := 3, ground := Ground.data }], guard := none }) (v := ?_) rfl (by kernel_rfl) (by kernel_rfl) (by kernel_rfl) (fun _ _ _ h => h) (Or.inl ⟨by rfl, ?_⟩) (by assumption) ?_
              rotate_left
              · (intro w hSw; (try dsimp only at hSw); go_simp <;> with_reducible rfl)
              (try simp only [Act.put, List.setIfInBounds_toArray, List.set_cons_zero, List.set_cons_succ])
              refine wpAnyH_take (i := 6) (oi := { dst := some 57, op := Op.fieldAddr 24 (Operand.tmp 7) 0, type := 0, pos := "law.go:95", after := #[], guard := none }) (v := ?_) rfl (by kernel_rfl) (by kernel_rfl) (by kernel_rfl) (fun _ _ _ h => h) (Or.inl ⟨by rfl, ?_⟩) (by assumption) ?_
              rotate_left
              · (intro w hSw; (try dsimp only at hSw); go_simp <;> with_reducible rfl)
              (try simp only [Act.put, List.setIfInBounds_toArray, List.set_cons_zero, List.set_cons_succ])
              refine wpAnyH_take (i := 7) (oi := { dst := some 58, op := Op.load 3 (Operand.tmp 57), type := 3, pos := "law.go:95", after := #[{ on := 6, ground := Ground.data }], guard := none }) (v := ?_) rfl (by kernel_rfl) (by kernel_rfl) (by kernel_rfl) (fun _ _ _ h => h) (Or.inl ⟨by rfl, ?_⟩) (by assumption) ?_
              rotate_left
              · (intro w hSw; (try dsimp only at hSw); go_simp <;> with_reducible rfl)
              (try simp only [Act.put, List.setIfInBounds_toArray, List.set_cons_zero, List.set_cons_succ])
              refine wpAnyH_take (i := 8) (oi := { dst := some 59, op := Op.fieldAddr 24 (Operand.tmp 6) 0, type := 0, pos := "law.go:95", after := #[], guard := none }) (v := ?_) rfl (by kernel_rfl) (by kernel_rfl) (by kernel_rfl) (fun _ _ _ h => h) (Or.inl ⟨by rfl, ?_⟩) (by assumption) ?_
              rotate_left
              · (intro w hSw; (try dsimp only at hSw); go_simp <;> with_reducible rfl)
              (try simp only [Act.put, List.setIfInBounds_toArray, List.set_cons_zero, List.set_cons_succ])
              refine wpAnyH_take (i := 9) (oi := { dst := some 60, op := Op.load 3 (Operand.tmp 59), type := 3, pos := "law.go:95", after := #[{ on := 8, ground := Ground.data }], guard := none }) (v := ?_) rfl (by kernel_rfl) (by kernel_rfl) (by kernel_rfl) (fun _ _ _ h => h) (Or.inl ⟨by rfl, ?_⟩) (by assumption) ?_
              rotate_left
              · (intro w hSw; (try dsimp only at hSw); go_simp <;> with_reducible rfl)
              (try simp only [Act.put, List.setIfInBounds_toArray, List.set_cons_zero, List.set_cons_succ])
              refine wpAnyH_take (i := 10) (oi := { dst := some 61, op := Op.binOp BinOp.sub 3 (Operand.tmp 58) (Operand.tmp 60) 3, type := 3, pos := "law.go:95", after := #[{ on := 7, ground := Ground.data }, { on := 9, ground := Ground.data }], guard := none }) (v := ?_) rfl (by kernel_rfl) (by kernel_rfl) (by kernel_rfl) (fun _ _ _ h => h) (Or.inl ⟨by rfl, ?_⟩) (by assumption) ?_
              rotate_left
              · (intro w hSw; (try dsimp only at hSw); go_simp <;> with_reducible rfl)
              (try simp only [Act.put, List.setIfInBounds_toArray, List.set_cons_zero, List.set_cons_succ])
              refine wpAnyH_invA [5, 11, 12, 13, 14] (fun A D a w => ∃ t5 t11 t12 t13 : Value, a = ((((A.put (some 56) t5).put (some 62) t11).put (some 63) t12).put (some 11) t13) ∧ IsGr W3 w ∧ (D 5 → IsBig w t5 (D3)) ∧ (D 11 → IsBig w t11 (D4)) ∧ (D 12 → IsBig w t12 (P2)) ∧ (D 13 → Bx W3 w 53 bigCells t13) ∧ (D 14 → D 13 ∧ D 12 ∧ ∃ c0 c1 : Value, t12 = .agg #[c0, c1] ∧ Hx w 53 t13 c0 c1)) (by kernel_rfl) (by assumption) ?_ ?_ ?_
              · exact ⟨_, _, _, _, by (simp only [Act.put, List.setIfInBounds_toArray, List.set_cons_zero, List.set_cons_succ]); try rfl, (by with_reducible repeat (first | exact IsGr.refl _ | refine IsGr.gr ?_ _ _ | refine IsGr.alloc ?_ _ | refine IsGr.drew ?_ | refine IsGr.drewN ?_ _)), fun h => h.elim, fun h => h.elim, fun h => h.elim, fun h => h.elim, fun h => h.elim⟩
              · intro D a w hD hF hSw
                obtain ⟨t5, t11, t12, t13, ha, hg, f5, f11, f12, b13, h14⟩ := hF
                subst ha
                (try simp only [Act.put, List.setIfInBounds_toArray, List.set_cons_zero, List.set_cons_succ])
                have A1 := BigAt.of (h14 (hD 14 (by simp))).2.2 (f12 (hD 12 (by simp)))
                clear f5 f11 f12 b13 h14 hD hSw
                go_wp2
                go_meet
                case rel => exact ⟨A1, hg⟩
              refine StepI.cons (i := 5) (o := { dst := some 56, op := Op.call { callee := Callee.value (Operand.func 41), args := #[Operand.tmp 55], argTypes := #[3] }, type := 53, pos := "law.go:95", after := #[{ on := 4, ground := Ground.data }], guard := none }) (ns := []) rfl (by kernel_rfl) (fun D a w nD hn hF hSw K hK => ?_) ?_
              · obtain ⟨t5, t11, t12, t13, ha, hg, f5, f11, f12, b13, h14⟩ := hF
                subst ha
                (try simp only [Act.put, List.setIfInBounds_toArray, List.set_cons_zero, List.set_cons_succ])
                go_simp
                refine (O3 _).mono ?_
                rintro e w1 ⟨q, rfl, hq, hg1⟩
                (try go_wp2_with fail)
                refine hK.out _ _ (hSO2 _ (hg.trans hg1)) (fun _ => ?_)
                refine ⟨q, t11, t12, t13, by (simp only [Act.put, List.setIfInBounds_toArray, List.set_cons_zero, List.set_cons_succ]); try rfl, (hg.trans hg1), ?_, ?_, ?_, ?_, ?_⟩
                · exact fun _ => hq
                · exact fun h => (f11 (Or.resolve_left h (by decide))).gr hg1
                · exact fun h => (f12 (Or.resolve_left h (by decide))).gr hg1
                · exact fun h => (b13 (Or.resolve_left h (by decide))).gr hg1
                · exact fun h => (h14 (Or.resolve_left h (by decide))).imp Or.inr (fun ⟨x1, c0, c1, x2, x3⟩ => ⟨Or.inr x1, c0, c1, x2, x3.gr hg1⟩)
              refine StepI.cons (i := 11) (o := { dst := some 62, op := Op.call { callee := Callee.value (Operand.func 41), args := #[Operand.tmp 61], argTypes := #[3] }, type := 53, pos := "law.go:95", after := #[{ on := 10, ground := Ground.data }, { on := 5, ground := Ground.chain }], guard := none }) (ns := [5]) rfl (by kernel_rfl) (fun D a w nD hn hF hSw K hK => ?_) ?_
              · obtain ⟨t5, t11, t12, t13, ha, hg, f5, f11, f12, b13, h14⟩ := hF
                have d5 : D 5 := hn 5 (by simp)
                subst ha
                (try simp only [Act.put, List.setIfInBounds_toArray, List.set_cons_zero, List.set_cons_succ])
                go_simp
                refine (O4 _).mono ?_
                rintro e w1 ⟨q, rfl, hq, hg1⟩
                (try go_wp2_with fail)
                refine hK.out _ _ (hSO2 _ (hg.trans hg1)) (fun _ => ?_)
                refine ⟨t5, q, t12, t13, by (simp only [Act.put, List.setIfInBounds_toArray, List.set_cons_zero, List.set_cons_succ]); try rfl, (hg.trans hg1), ?_, ?_, ?_, ?_, ?_⟩
                · exact fun h => (f5 (Or.resolve_left h (by decide))).gr hg1
                · exact fun _ => hq
                · exact fun h => (f12 (Or.resolve_left h (by decide))).gr hg1
                · exact fun h => (b13 (Or.resolve_left h (by decide))).gr hg1
                · exact fun h => (h14 (Or.resolve_left h (by decide))).imp Or.inr (fun ⟨x1, c0, c1, x2, x3⟩ => ⟨Or.inr x1, c0, c1, x2, x3.gr hg1⟩)
              refine StepI.cons (i := 12) (o := { dst := some 63, op := Op.call { callee := Callee.value (Operand.func 40), args := #[Operand.tmp 56, Operand.tmp 62], argTypes := #[53, 53] }, type := 53, pos := "law.go:95", after := #[{ on := 5, ground := Ground.data }, { on := 11, ground := Ground.data }, { on := 11, ground := Ground.chain }], guard := none }) (ns := [5, 11, 11]) rfl (by kernel_rfl) (fun D a w nD hn hF hSw K hK => ?_) ?_
              · obtain ⟨t5, t11, t12, t13, ha, hg, f5, f11, f12, b13, h14⟩ := hF
                have d5 : D 5 := hn 5 (by simp)
                have d11 : D 11 := hn 11 (by simp)
                have d11 : D 11 := hn 11 (by simp)
                subst ha
                (try simp only [Act.put, List.setIfInBounds_toArray, List.set_cons_zero, List.set_cons_succ])
                go_simp
                refine (M2 _ _ _ (f5 d5) (f11 d11)).mono ?_
                rintro e w1 ⟨q, rfl, hq, hg1⟩
                (try go_wp2_with fail)
                refine hK.out _ _ (hSO2 _ (hg.trans hg1)) (fun _ => ?_)
                refine ⟨t5, t11, q, t13, by (simp only [Act.put, List.setIfInBounds_toArray, List.set_cons_zero, List.set_cons_succ]); try rfl, (hg.trans hg1), ?_, ?_, ?_, ?_, ?_⟩
                · exact fun h => (f5 (Or.resolve_left h (by decide))).gr hg1
                · exact fun h => (f11 (Or.resolve_left h (by decide))).gr hg1
                · exact fun _ => hq
                · exact fun h => (b13 (Or.resolve_left h (by decide))).gr hg1
                · exact fun h => absurd (h14 (Or.resolve_left h (by decide))).2.1 nD
              refine StepI.cons (i := 13) (o := { dst := some 11, op := Op.alloc 53, type := 0, pos := "law.go:95", after := #[], guard := none }) (ns := []) rfl (by kernel_rfl) (fun D a w nD hn hF hSw K hK => ?_) ?_
              · obtain ⟨t5, t11, t12, t13, ha, hg, f5, f11, f12, b13, h14⟩ := hF
                subst ha
                (try simp only [Act.put, List.setIfInBounds_toArray, List.set_cons_zero, List.set_cons_succ])
                go_simp
                refine hK.out _ _ (hSO2 _ (hg.alloc _)) (fun _ => ?_)
                refine ⟨t5, t11, t12, _, by (simp only [Act.put, List.setIfInBounds_toArray, List.set_cons_zero, List.set_cons_succ]); try rfl, (hg.alloc _), ?_, ?_, ?_, ?_, ?_⟩
                · exact fun h => (f5 (Or.resolve_left h (by decide))).gr ((IsGr.refl _).alloc _)
                · exact fun h => (f11 (Or.resolve_left h (by decide))).gr ((IsGr.refl _).alloc _)
                · exact fun h => (f12 (Or.resolve_left h (by decide))).gr ((IsGr.refl _).alloc _)
                · exact fun _ => Bx.lay hg (by simp [bigCells])
                · exact fun h => absurd (h14 (Or.resolve_left h (by decide))).1 nD
              refine StepI.cons (i := 14) (o := { dst := none, op := Op.store 53 (Operand.tmp 11) (Operand.tmp 63), type := 0, pos := "law.go:95", after := #[{ on := 13, ground := Ground.data }, { on := 12, ground := Ground.data }, { on := 12, ground := Ground.chain }, { on := 0, ground := Ground.phase }, { on := 1, ground := Ground.phase }, { on := 2, ground := Ground.phase }, { on := 3, ground := Ground.phase }, { on := 4, ground := Ground.phase }, { on := 5, ground := Ground.phase }, { on := 6, ground := Ground.phase }, { on := 7, ground := Ground.phase }, { on := 8, ground := Ground.phase }, { on := 9, ground := Ground.phase }, { on := 10, ground := Ground.phase }, { on := 11, ground := Ground.phase }, { on := 12, ground := Ground.phase }, { on := 13, ground := Ground.phase }], guard := none }) (ns := [13, 12, 12, 5, 11, 12, 13]) rfl (by kernel_rfl) (fun D a w nD hn hF hSw K hK => ?_) ?_
              · obtain ⟨t5, t11, t12, t13, ha, hg, f5, f11, f12, b13, h14⟩ := hF
                have d13 : D 13 := hn 13 (by simp)
                have d12 : D 12 := hn 12 (by simp)
                have d12 : D 12 := hn 12 (by simp)
                have d5 : D 5 := hn 5 (by simp)
                have d11 : D 11 := hn 11 (by simp)
                have d12 : D 12 := hn 12 (by simp)
                have d13 : D 13 := hn 13 (by simp)
                obtain ⟨z0, z1, hz0⟩ : ∃ z0 z1 : Value, t12 = .agg #[z0, z1] ∧ bigCells z0 z1 := big_cells (f12 d12)
                obtain ⟨hz0, hz1⟩ := hz0
                obtain ⟨bb, y0, y1, hb0, hb1, hb2, hb3⟩ := b13 d13
                obtain ⟨k1, k2, k3, k4, k5⟩ := block_cells hb2
                have hz2 := hz1
                obtain ⟨zs, za, zn, zc, rfl, rfl⟩ := hz1
                subst hz0
                subst hb0
                subst ha
                (try simp only [Act.put, List.setIfInBounds_toArray, List.set_cons_zero, List.set_cons_succ])
                go_simp
                refine hK.out _ _ (hSO2 _ (put2_gr hg hb1)) (fun _ => ?_)
                refine ⟨t5, t11, (.agg #[.bool zs, .slice za zn zc]), (.pointer (some ⟨bb, 0, none⟩)), by (simp only [Act.put, List.setIfInBounds_toArray, List.set_cons_zero, List.set_cons_succ]); try rfl, (put2_gr hg hb1), ?_, ?_, ?_, ?_, ?_⟩
                · exact fun h => (f5 (Or.resolve_left h (by decide))).kb (put2_kb hb2 hb3)
                · exact fun h => (f11 (Or.resolve_left h (by decide))).kb (put2_kb hb2 hb3)
                · exact fun h => (f12 (Or.resolve_left h (by decide))).kb (put2_kb hb2 hb3)
                · exact fun h => put2_bx hb2 hz2 (b13 (Or.resolve_left h (by decide)))
                · exact fun _ => ⟨Or.inr d13, Or.inr d12, _, _, rfl, put2_new hb2⟩
              exact StepI.nil
            case rest =>
              obtain ⟨A11, hgr⟩ := hcut
              obtain ⟨W4, hW9⟩ : ∃ W4, W4 = wc := ⟨_, rfl⟩
              subst hW9
              replace HG : Hid (IsGr w W4) := HG.out.trans hgr
              replace x1 := hgr.cell_at ka x1
              replace x2 := hgr.cell_at ka x2
              replace x3 := hgr.cell_at ka x3
              replace x4 := hgr.cell_at ka x4
              replace y1 := hgr.cell_at kc y1
              replace y2 := hgr.cell_at kc y2
              replace y3 := hgr.cell_at kc y3
              replace y4 := hgr.cell_at kc y4
              have hsz := hgr.size
              replace ka : w.heap.size < W4.heap.size := by omega
              replace kc : w.heap.size + 1 < W4.heap.size := by omega
              obtain ⟨g10, xs7, xa7, xn7, xc7, rfl, k7, c7, c7', B7⟩ := A10.gr hgr
              obtain ⟨g11, xs8, xa8, xn8, xc8, rfl, k8, c8, c8', B8⟩ := A11
              clear hgr hSO2 hsz O3 O4 M2 v3 v4 A10
              go_wp2_with fail
              refine (CS _ _ _ (B7.gr ?_) (B8.gr ?_)).mono ?_
              · exact (by with_reducible repeat (first | exact IsGr.refl _ | refine IsGr.gr ?_ _ _ | refine IsGr.alloc ?_ _ | refine IsGr.drew ?_ | refine IsGr.drewN ?_ _))
              · exact (by with_reducible repeat (first | exact IsGr.refl _ | refine IsGr.gr ?_ _ _ | refine IsGr.alloc ?_ _ | refine IsGr.drew ?_ | refine IsGr.drewN ?_ _))
              rintro e w1 ⟨q, rfl, hq, os6, dr6, rfl⟩
              obtain ⟨qs, qa, qn, qc, rfl⟩ := hq.shape
              go_wp2_with fail
              refine (CG _ _ (hq.gr ?_)).mono ?_
              · exact (by with_reducible repeat (first | exact IsGr.refl _ | refine IsGr.gr ?_ _ _ | refine IsGr.alloc ?_ _ | refine IsGr.drew ?_ | refine IsGr.drewN ?_ _))
              rintro e w1 ⟨rfl, os7, dr7, rfl⟩
              go_wp2_with fail
              refine (C6 _).mono ?_
              rintro e w1 ⟨rfl, os8, dr8, rfl⟩
              go_wp2_with fail
              refine (CA _).mono ?_
              rintro e w1 ⟨rfl, os9, dr9, rfl⟩
              go_wp2
              go_ret
              exact ⟨rfl, HG.out.trans (by with_reducible repeat (first | exact IsGr.refl _ | refine IsGr.gr ?_ _ _ | refine IsGr.alloc ?_ _ | refine IsGr.drew ?_ | refine IsGr.drewN ?_ _))⟩

end Go.Proofs.Ytohhlhoijanjfaa
