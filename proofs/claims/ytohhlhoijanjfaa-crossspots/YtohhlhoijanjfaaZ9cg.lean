/- gromalaw04.CrossSpots, the first one a right spot that is no point: the law answers true. -/
import Derived.Test.YtohhlhoijanjfaaGD
import Derived.Test.YtohhlhoijanjfaaY3g
import Derived.Test.YtohhlhoijanjfaaGF
import Derived.Test.YtohhlhoijanjfaaGE
namespace Go.Proofs.Ytohhlhoijanjfaa
open Go.RowKit Go.Shelf
attribute [local go_sem] Gr.size Gr.cell? Gr.frozen? Gr.setCell Gr.drew Gr.drewN Gr.of_drew Gr.of_drewN Gr.gr Gr.lt_of1 Gr.le_of1 Gr.lt_of2 Gr.le_of2 Gr.lt_of3 Gr.le_of3 Gr.lt_of4 Gr.le_of4 Gr.lt_of5 Gr.le_of5 Gr.lt_of6 Gr.le_of6 Gr.lt_of7 Gr.le_of7 Gr.lt_of8 Gr.le_of8 Gr.lt_of9 Gr.le_of9 Gr.lt_of10 Gr.le_of10 Gr.lt_of11 Gr.le_of11 Gr.lt_of12 Gr.le_of12 Gr.lt_of13 Gr.le_of13 Gr.lt_of14 Gr.le_of14 Gr.lt_of15 Gr.le_of15 Gr.lt_of16 Gr.le_of16 Gr.lt_of17 Gr.le_of17 Gr.lt_of18 Gr.le_of18 Gr.lt_of19 Gr.le_of19 Gr.lt_of20 Gr.le_of20 Gr.lt_of21 Gr.le_of21 Gr.lt_of22 Gr.le_of22 Gr.lt_of23 Gr.le_of23 Gr.lt_of24 Gr.le_of24


set_option maxRecDepth 20000 in set_option maxHeartbeats 2000000 in
theorem law_spots_part (x y z u v t a1 a2 : Int) (fx : Fit x) (fy : Fit y) (fz : Fit z) (fu : Fit u) (fv : Fit v) (ft : Fit t) (hA : spotR x y z = true) (hW : wholeS x y z = false) (w : World) :
    Calls Try.prog 7 #[.agg #[.int .u64 (wd0 x), .int .u64 (wd1 x), .int .u64 (wd2 x), .int .u64 (wd3 x), .int .u64 (wd0 y), .int .u64 (wd1 y), .int .u64 (wd2 y), .int .u64 (wd3 y), .int .u64 (wd0 z), .int .u64 (wd1 z), .int .u64 (wd2 z), .int .u64 (wd3 z)], .agg #[.int .u64 (wd0 u), .int .u64 (wd1 u), .int .u64 (wd2 u), .int .u64 (wd3 u), .int .u64 (wd0 v), .int .u64 (wd1 v), .int .u64 (wd2 v), .int .u64 (wd3 v), .int .u64 (wd0 t), .int .u64 (wd1 t), .int .u64 (wd2 t), .int .u64 (wd3 t)], .agg #[.int .i64 a1, .int .i64 a2]] w fun e w' => e = .returned (.bool true) ∧ IsGr w w' := by
  have CX := fun w => lspot_any x y z fx fy fz w
  have CY := fun w => lspot_any u v t fu fv ft w
  have CC := fun w => SpCmp_any x y z u v t fx fy fz fu fv ft w
  have CN := fun w => SpCmp_any u v t x y z fu fv ft fx fy fz w
  rw [spotC_anti] at CN
  have CQ := fun w => SpRight_any x y z fx fy fz w
  have CA := fun w => awake4_any w
  have Fa := fun w => xref_any a1 a2 w
  have RA := fun w => RefRight_any a1 a2 w
  rw [hA] at CQ
  have CW := fun w => Whole_no x y z fx fy fz hW w
  obtain ⟨c, hc, HC⟩ : ∃ c, spotC x y z u v t = c ∧ Hid (c = spotC x y z u v t) := ⟨_, rfl, rfl⟩
  have hneg : IntKind.i64.wrap (-c) = -c := by
    rw [IntKind.wrap_i64]
    rcases spotC_range x y z u v t with h | h | h <;> omega
  rw [hc] at CC CN
  clear hc
  go_enter Try.func7, Try.ntmps7
  go_upto_region 1 with fail
  go_cut [7, 8] (fun t7 t8 wr => SpBox wr t7 x y z ∧ SpBox wr t8 u v t ∧ Kc wr (w.heap.size) x y z ∧ Kc wr (w.heap.size + 1) u v t ∧ Pc wr (w.heap.size + 1 + 1) a1 a2 ∧ w.heap.size + 3 ≤ wr.heap.size ∧ IsGr w wr)
  case first => as_aux_lemma =>
    clear CC CN CQ CA Fa RA CW HC hneg
    obtain ⟨W0, hW0, ⟨qp, qq, qb⟩, g0, s0⟩ : ∃ W0, W0 = ((w.alloc (.cells #[.int .u64 (wd0 x), .int .u64 (wd1 x), .int .u64 (wd2 x), .int .u64 (wd3 x), .int .u64 (wd0 y), .int .u64 (wd1 y), .int .u64 (wd2 y), .int .u64 (wd3 y), .int .u64 (wd0 z), .int .u64 (wd1 z), .int .u64 (wd2 z), .int .u64 (wd3 z)] 46)).alloc (.cells #[.int .u64 (wd0 u), .int .u64 (wd1 u), .int .u64 (wd2 u), .int .u64 (wd3 u), .int .u64 (wd0 v), .int .u64 (wd1 v), .int .u64 (wd2 v), .int .u64 (wd3 v), .int .u64 (wd0 t), .int .u64 (wd1 t), .int .u64 (wd2 t), .int .u64 (wd3 t)] 46)).alloc (.cells #[.int .i64 a1, .int .i64 a2] 24) ∧ (Kc W0 (w.heap.size) x y z ∧ Kc W0 (w.heap.size + 1) u v t ∧ Pc W0 (w.heap.size + 1 + 1) a1 a2) ∧ IsGr w W0 ∧ W0.heap.size = w.heap.size + 3 := ⟨_, rfl, by unfold Kc Pc; simp [go_sem], (by with_reducible repeat (first | exact IsGr.refl _ | refine IsGr.gr ?_ _ _ | refine IsGr.alloc ?_ _ | refine IsGr.drew ?_ | refine IsGr.drewN ?_ _)), by simp⟩
    rw [← hW0]
    clear hW0
    have SO : ∀ w', IsGr W0 w' → Kc w' (w.heap.size) x y z ∧ Kc w' (w.heap.size + 1) u v t := fun w' hgr => ⟨qp.gr hgr (by omega), qq.gr hgr (by omega)⟩
    refine wp_region_held_drew (S := (fun w' => Kc w' (w.heap.size) x y z ∧ Kc w' (w.heap.size + 1) u v t)) (by kernel_rfl) (by (try dsimp only); exact SO _ (by with_reducible repeat (first | exact IsGr.refl _ | refine IsGr.gr ?_ _ _ | refine IsGr.alloc ?_ _ | refine IsGr.drew ?_ | refine IsGr.drewN ?_ _))) (fun hHeld => ?_)
    refine wpAnyH_take (i := 0) (oi := { dst := some 15, op := Op.load 46 (Operand.tmp 3), type := 46, pos := "law.go:62", after := #[], guard := none }) (v := ?_) rfl (by kernel_rfl) (by kernel_rfl) (by kernel_rfl) (fun _ _ _ h => h) (Or.inl ⟨by rfl, ?_⟩) (by assumption) ?_
    rotate_left
    · (intro w hSw; (try dsimp only at hSw); unfold Kc at hSw; (try go_split_ands); go_simp <;> with_reducible rfl)
    (try simp only [Act.put, qA, qB, qC])
    refine wpAnyH_take (i := 2) (oi := { dst := some 17, op := Op.load 46 (Operand.tmp 4), type := 46, pos := "law.go:62", after := #[], guard := none }) (v := ?_) rfl (by kernel_rfl) (by kernel_rfl) (by kernel_rfl) (fun _ _ _ h => h) (Or.inl ⟨by rfl, ?_⟩) (by assumption) ?_
    rotate_left
    · (intro w hSw; (try dsimp only at hSw); unfold Kc at hSw; (try go_split_ands); go_simp <;> with_reducible rfl)
    (try simp only [Act.put, qA, qB, qC])
    refine wpAnyH_invA [1, 3, 4, 5, 6, 7] (fun A D a w => ∃ t1 t3 t4 t5 : Value, a = ((((A.put (some 16) t1).put (some 18) t3).put (some 7) t4).put (some 8) t5) ∧ IsGr W0 w ∧ (D 1 → IsSp w t1 x y z) ∧ (D 3 → IsSp w t3 u v t) ∧ (D 4 → BxS W0 w 55 t4) ∧ (D 5 → BxS W0 w 55 t5) ∧ (D 4 → D 5 → t4 ≠ t5) ∧ (D 6 → D 4 ∧ D 1 ∧ ∃ c0 c1 c2 c3 c4 c5 : Value, t1 = .agg #[c0, c1, c2, c3, c4, c5] ∧ Hx6 w 55 t4 c0 c1 c2 c3 c4 c5) ∧ (D 7 → D 5 ∧ D 3 ∧ ∃ c0 c1 c2 c3 c4 c5 : Value, t3 = .agg #[c0, c1, c2, c3, c4, c5] ∧ Hx6 w 55 t5 c0 c1 c2 c3 c4 c5)) (by kernel_rfl) (by assumption) ?_ ?_ ?_
    · exact ⟨_, _, _, _, by (simp only [Act.put, qA, qB, qC]); try rfl, (by with_reducible repeat (first | exact IsGr.refl _ | refine IsGr.gr ?_ _ _ | refine IsGr.alloc ?_ _ | refine IsGr.drew ?_ | refine IsGr.drewN ?_ _)), fun h => h.elim, fun h => h.elim, fun h => h.elim, fun h => h.elim, fun h => h.elim, fun h => h.elim, fun h => h.elim⟩
    · intro D a w hD hF hSw
      obtain ⟨t1, t3, t4, t5, ha, hg, f1, f3, b4, b5, p4_5, h6, h7⟩ := hF
      replace f1 := f1 (hD 1 (by simp))
      replace f3 := f3 (hD 3 (by simp))
      replace h6 := (h6 (hD 6 (by simp))).2.2
      replace h7 := (h7 (hD 7 (by simp))).2.2
      clear hD hHeld b4 b5 p4_5
      subst ha
      (try simp only [Act.put, qA, qB, qC])
      have A1 := SpBox.of h6 f1
      have A2 := SpBox.of h7 f3
      clear f1 f3 h6 h7 hSw
      go_wp2
      go_meet
      case rel =>
        have hsz := hg.size
        exact ⟨A1, A2, qp.gr hg (by omega), qq.gr hg (by omega), qb.gr hg (by omega), by omega, g0.trans hg⟩
    refine StepI.cons (i := 1) (o := { dst := some 16, op := Op.call { callee := Callee.value (Operand.func 25), args := #[Operand.tmp 15], argTypes := #[46] }, type := 55, pos := "law.go:62", after := #[{ on := 0, ground := Ground.data }], guard := none }) (ns := []) rfl (by kernel_rfl) (fun D a w nD hn hF hSw K hK => ?_) ?_
    · obtain ⟨t1, t3, t4, t5, ha, hg, f1, f3, b4, b5, p4_5, h6, h7⟩ := hF
      subst ha
      (try simp only [Act.put, qA, qB, qC])
      go_simp
      refine (CX _).mono ?_
      rintro e w1 ⟨q, rfl, hq, hg1⟩
      (try go_wp2_with fail)
      refine hK.out _ _ (SO _ (hg.trans hg1)) (fun _ => ?_)
      refine ⟨q, t3, t4, t5, by (simp only [Act.put, qA, qB, qC]); try rfl, (hg.trans hg1), ?_, ?_, ?_, ?_, ?_, ?_, ?_⟩
      · exact fun _ => hq
      · exact fun h => (f3 (Or.resolve_left h (by decide))).gr hg1
      · exact fun h => (b4 (Or.resolve_left h (by decide))).gr hg1
      · exact fun h => (b5 (Or.resolve_left h (by decide))).gr hg1
      · exact fun h h' => p4_5 (Or.resolve_left h (by decide)) (Or.resolve_left h' (by decide))
      · exact fun h => absurd (h6 (Or.resolve_left h (by decide))).2.1 nD
      · exact fun h => (h7 (Or.resolve_left h (by decide))).imp Or.inr (fun ⟨x1, c0, c1, c2, c3, c4, c5, x2, x3⟩ => ⟨Or.inr x1, c0, c1, c2, c3, c4, c5, x2, x3.gr hg1⟩)
    refine StepI.cons (i := 3) (o := { dst := some 18, op := Op.call { callee := Callee.value (Operand.func 25), args := #[Operand.tmp 17], argTypes := #[46] }, type := 55, pos := "law.go:62", after := #[{ on := 2, ground := Ground.data }, { on := 1, ground := Ground.chain }], guard := none }) (ns := [1]) rfl (by kernel_rfl) (fun D a w nD hn hF hSw K hK => ?_) ?_
    · obtain ⟨t1, t3, t4, t5, ha, hg, f1, f3, b4, b5, p4_5, h6, h7⟩ := hF
      have d1 : D 1 := hn 1 (by simp)
      subst ha
      (try simp only [Act.put, qA, qB, qC])
      go_simp
      refine (CY _).mono ?_
      rintro e w1 ⟨q, rfl, hq, hg1⟩
      (try go_wp2_with fail)
      refine hK.out _ _ (SO _ (hg.trans hg1)) (fun _ => ?_)
      refine ⟨t1, q, t4, t5, by (simp only [Act.put, qA, qB, qC]); try rfl, (hg.trans hg1), ?_, ?_, ?_, ?_, ?_, ?_, ?_⟩
      · exact fun h => (f1 (Or.resolve_left h (by decide))).gr hg1
      · exact fun _ => hq
      · exact fun h => (b4 (Or.resolve_left h (by decide))).gr hg1
      · exact fun h => (b5 (Or.resolve_left h (by decide))).gr hg1
      · exact fun h h' => p4_5 (Or.resolve_left h (by decide)) (Or.resolve_left h' (by decide))
      · exact fun h => (h6 (Or.resolve_left h (by decide))).imp Or.inr (fun ⟨x1, c0, c1, c2, c3, c4, c5, x2, x3⟩ => ⟨Or.inr x1, c0, c1, c2, c3, c4, c5, x2, x3.gr hg1⟩)
      · exact fun h => absurd (h7 (Or.resolve_left h (by decide))).2.1 nD
    refine StepI.cons (i := 4) (o := { dst := some 7, op := Op.alloc 55, type := 0, pos := "law.go:62", after := #[], guard := none }) (ns := []) rfl (by kernel_rfl) (fun D a w nD hn hF hSw K hK => ?_) ?_
    · obtain ⟨t1, t3, t4, t5, ha, hg, f1, f3, b4, b5, p4_5, h6, h7⟩ := hF
      subst ha
      (try simp only [Act.put, qA, qB, qC])
      go_simp
      refine hK.out _ _ (SO _ (hg.alloc _)) (fun _ => ?_)
      refine ⟨t1, t3, _, t5, by (simp only [Act.put, qA, qB, qC]); try rfl, (hg.alloc _), ?_, ?_, ?_, ?_, ?_, ?_, ?_⟩
      · exact fun h => (f1 (Or.resolve_left h (by decide))).gr ((IsGr.refl _).alloc _)
      · exact fun h => (f3 (Or.resolve_left h (by decide))).gr ((IsGr.refl _).alloc _)
      · exact fun _ => BxS.lay hg
      · exact fun h => (b5 (Or.resolve_left h (by decide))).gr ((IsGr.refl _).alloc _)
      · exact fun _ h' => Ne.symm (b5 (Or.resolve_left h' (by decide))).ne
      · exact fun h => absurd (h6 (Or.resolve_left h (by decide))).1 nD
      · exact fun h => (h7 (Or.resolve_left h (by decide))).imp Or.inr (fun ⟨x1, c0, c1, c2, c3, c4, c5, x2, x3⟩ => ⟨Or.inr x1, c0, c1, c2, c3, c4, c5, x2, x3.gr ((IsGr.refl _).alloc _)⟩)
    refine StepI.cons (i := 5) (o := { dst := some 8, op := Op.alloc 55, type := 0, pos := "law.go:62", after := #[], guard := none }) (ns := []) rfl (by kernel_rfl) (fun D a w nD hn hF hSw K hK => ?_) ?_
    · obtain ⟨t1, t3, t4, t5, ha, hg, f1, f3, b4, b5, p4_5, h6, h7⟩ := hF
      subst ha
      (try simp only [Act.put, qA, qB, qC])
      go_simp
      refine hK.out _ _ (SO _ (hg.alloc _)) (fun _ => ?_)
      refine ⟨t1, t3, t4, _, by (simp only [Act.put, qA, qB, qC]); try rfl, (hg.alloc _), ?_, ?_, ?_, ?_, ?_, ?_, ?_⟩
      · exact fun h => (f1 (Or.resolve_left h (by decide))).gr ((IsGr.refl _).alloc _)
      · exact fun h => (f3 (Or.resolve_left h (by decide))).gr ((IsGr.refl _).alloc _)
      · exact fun h => (b4 (Or.resolve_left h (by decide))).gr ((IsGr.refl _).alloc _)
      · exact fun _ => BxS.lay hg
      · exact fun h _ => (b4 (Or.resolve_left h (by decide))).ne
      · exact fun h => (h6 (Or.resolve_left h (by decide))).imp Or.inr (fun ⟨x1, c0, c1, c2, c3, c4, c5, x2, x3⟩ => ⟨Or.inr x1, c0, c1, c2, c3, c4, c5, x2, x3.gr ((IsGr.refl _).alloc _)⟩)
      · exact fun h => absurd (h7 (Or.resolve_left h (by decide))).1 nD
    refine StepI.cons (i := 6) (o := { dst := none, op := Op.store 55 (Operand.tmp 7) (Operand.tmp 16), type := 0, pos := "law.go:62", after := #[{ on := 4, ground := Ground.data }, { on := 1, ground := Ground.data }, { on := 3, ground := Ground.chain }, { on := 0, ground := Ground.phase }, { on := 1, ground := Ground.phase }, { on := 2, ground := Ground.textOnly Departure.lateStores }, { on := 3, ground := Ground.textOnly Departure.lateStoresUnsure }, { on := 4, ground := Ground.phase }, { on := 5, ground := Ground.phase }], guard := none }) (ns := [4, 1, 3, 1, 4, 5]) rfl (by kernel_rfl) (fun D a w nD hn hF hSw K hK => ?_) ?_
    · obtain ⟨t1, t3, t4, t5, ha, hg, f1, f3, b4, b5, p4_5, h6, h7⟩ := hF
      have d1 : D 1 := hn 1 (by simp)
      have d3 : D 3 := hn 3 (by simp)
      have d4 : D 4 := hn 4 (by simp)
      have d5 : D 5 := hn 5 (by simp)
      obtain ⟨z0, z1, z2, z3, z4, z5, hz0, hz1⟩ := sp_cells (f1 d1)
      obtain ⟨bb, y0, y1, y2, y3, y4, y5, hb0, hb1, hb2, hb3⟩ := b4 d4
      obtain ⟨k1, ⟨kc0, kc1, kc2, kc3, kc4, kc5⟩, kf0, kf1, kf2, kf3, kf4, kf5⟩ := block_cells6 hb2
      have hz2 := hz1
      obtain ⟨xs, xa, xn, xc, ys, ya, yn, yc, zs, za, zn, zc, rfl, rfl, rfl, rfl, rfl, rfl⟩ := hz1
      subst hz0
      subst hb0
      subst ha
      (try simp only [Act.put, qA, qB, qC])
      go_simp
      refine hK.out _ _ (SO _ (put6_gr hg hb1)) (fun _ => ?_)
      refine ⟨(.agg #[.bool xs, .slice xa xn xc, .bool ys, .slice ya yn yc, .bool zs, .slice za zn zc]), t3, (.pointer (some ⟨bb, 0, none⟩)), t5, by (simp only [Act.put, qA, qB, qC]); try rfl, (put6_gr hg hb1), ?_, ?_, ?_, ?_, ?_, ?_, ?_⟩
      · exact fun h => (f1 (Or.resolve_left h (by decide))).kb (put6_kb hb2 hb3)
      · exact fun h => (f3 (Or.resolve_left h (by decide))).kb (put6_kb hb2 hb3)
      · exact fun h => put6_bxS hb2 hz2 (b4 (Or.resolve_left h (by decide)))
      · exact fun h => put6_bxS hb2 hz2 (b5 (Or.resolve_left h (by decide)))
      · exact fun h h' => p4_5 (Or.resolve_left h (by decide)) (Or.resolve_left h' (by decide))
      · exact fun _ => ⟨Or.inr d4, Or.inr d1, _, _, _, _, _, _, rfl, put6_new hb2⟩
      · exact fun h => (fun ⟨x0, x1, c0, c1, c2, c3, c4, c5, x2, x3⟩ => ⟨Or.inr x0, Or.inr x1, c0, c1, c2, c3, c4, c5, x2, put6_hx hb2 x3 (Ne.symm (p4_5 d4 x0))⟩) (h7 (Or.resolve_left h (by decide)))
    refine StepI.cons (i := 7) (o := { dst := none, op := Op.store 55 (Operand.tmp 8) (Operand.tmp 18), type := 0, pos := "law.go:62", after := #[{ on := 5, ground := Ground.data }, { on := 3, ground := Ground.data }, { on := 6, ground := Ground.chain }, { on := 0, ground := Ground.phase }, { on := 1, ground := Ground.phase }, { on := 2, ground := Ground.phase }, { on := 3, ground := Ground.phase }, { on := 4, ground := Ground.phase }, { on := 5, ground := Ground.phase }, { on := 6, ground := Ground.phase }], guard := none }) (ns := [5, 3, 6, 1, 3, 4, 5, 6]) rfl (by kernel_rfl) (fun D a w nD hn hF hSw K hK => ?_) ?_
    · obtain ⟨t1, t3, t4, t5, ha, hg, f1, f3, b4, b5, p4_5, h6, h7⟩ := hF
      have d1 : D 1 := hn 1 (by simp)
      have d3 : D 3 := hn 3 (by simp)
      have d4 : D 4 := hn 4 (by simp)
      have d5 : D 5 := hn 5 (by simp)
      have d6 : D 6 := hn 6 (by simp)
      obtain ⟨z0, z1, z2, z3, z4, z5, hz0, hz1⟩ := sp_cells (f3 d3)
      obtain ⟨bb, y0, y1, y2, y3, y4, y5, hb0, hb1, hb2, hb3⟩ := b5 d5
      obtain ⟨k1, ⟨kc0, kc1, kc2, kc3, kc4, kc5⟩, kf0, kf1, kf2, kf3, kf4, kf5⟩ := block_cells6 hb2
      have hz2 := hz1
      obtain ⟨xs, xa, xn, xc, ys, ya, yn, yc, zs, za, zn, zc, rfl, rfl, rfl, rfl, rfl, rfl⟩ := hz1
      subst hz0
      subst hb0
      subst ha
      (try simp only [Act.put, qA, qB, qC])
      go_simp
      refine hK.out _ _ (SO _ (put6_gr hg hb1)) (fun _ => ?_)
      refine ⟨t1, (.agg #[.bool xs, .slice xa xn xc, .bool ys, .slice ya yn yc, .bool zs, .slice za zn zc]), t4, (.pointer (some ⟨bb, 0, none⟩)), by (simp only [Act.put, qA, qB, qC]); try rfl, (put6_gr hg hb1), ?_, ?_, ?_, ?_, ?_, ?_, ?_⟩
      · exact fun h => (f1 (Or.resolve_left h (by decide))).kb (put6_kb hb2 hb3)
      · exact fun h => (f3 (Or.resolve_left h (by decide))).kb (put6_kb hb2 hb3)
      · exact fun h => put6_bxS hb2 hz2 (b4 (Or.resolve_left h (by decide)))
      · exact fun h => put6_bxS hb2 hz2 (b5 (Or.resolve_left h (by decide)))
      · exact fun h h' => p4_5 (Or.resolve_left h (by decide)) (Or.resolve_left h' (by decide))
      · exact fun h => (fun ⟨x0, x1, c0, c1, c2, c3, c4, c5, x2, x3⟩ => ⟨Or.inr x0, Or.inr x1, c0, c1, c2, c3, c4, c5, x2, put6_hx hb2 x3 (p4_5 x0 d5)⟩) (h6 (Or.resolve_left h (by decide)))
      · exact fun _ => ⟨Or.inr d5, Or.inr d3, _, _, _, _, _, _, rfl, put6_new hb2⟩
    exact StepI.nil
  case rest =>
    obtain ⟨⟨g7, xs, xa, xn, xc, ys, ya, yn, yc, zs, za, zn, zc, rfl, k7, q7, sp⟩, ⟨g8, us, ua, un, uc, vs, va, vn, vc, ts, ta, tn, tc, rfl, k8, q8, sq⟩, qp, qq, qb, ks, hgw⟩ := hcut
    obtain ⟨W1, hW9⟩ : ∃ W1, W1 = wc := ⟨_, rfl⟩
    subst hW9
    have HG : Hid (IsGr w W1) := hgw
    clear hgw CX CY
    go_upto_region 2 with fail
    go_cut [9] (fun t9 wr => t9 = .int .i64 c ∧ IsGr W1 wr)
    case first =>
      obtain ⟨i0, i1, i2, i3, i4, i5, i6, i7, i8, i9, i10, i11⟩ := qp
      obtain ⟨j0, j1, j2, j3, j4, j5, j6, j7, j8, j9, j10, j11⟩ := qq
      have ka0 : w.heap.size < W1.heap.size := by omega
      have ka1 : w.heap.size + 1 < W1.heap.size := by omega
      go_wp2_with fail
      refine (CC _).mono ?_
      rintro e w1 ⟨rfl, os1, dr1, rfl⟩
      go_wp2
      go_meet
      case rel => exact ⟨rfl, (by with_reducible repeat (first | exact IsGr.refl _ | refine IsGr.gr ?_ _ _ | refine IsGr.alloc ?_ _ | refine IsGr.drew ?_ | refine IsGr.drewN ?_ _))⟩
    case rest =>
      obtain ⟨rfl, hgr⟩ := hcut
      obtain ⟨W2, hW9⟩ : ∃ W2, W2 = wc := ⟨_, rfl⟩
      subst hW9
      replace qp := qp.gr hgr (by omega)
      replace qq := qq.gr hgr (by omega)
      replace qb := qb.gr hgr (by omega)
      replace q7 := q7.gr hgr (by omega)
      replace q8 := q8.gr hgr (by omega)
      have hsz := hgr.size
      replace HG : Hid (IsGr w W2) := HG.out.trans hgr
      replace sp := sp.gr hgr
      replace sq := sq.gr hgr
      replace k7 : g7 < W2.heap.size := by omega
      replace k8 : g8 < W2.heap.size := by omega
      replace ks : w.heap.size + 3 ≤ W2.heap.size := by omega
      clear hsz hgr
      have CR := fun w1 (hg : IsGr W2 w1) => RSRight_any _ x y z w1 (sp.gr hg) fx fy fz
      rw [hA] at CR
      have CR2 := fun w1 (hg : IsGr W2 w1) => RSRight_any _ u v t w1 (sq.gr hg) fu fv ft
      clear CC
      obtain ⟨B, HBB⟩ : ∃ B, Hid (spotR u v t = B) := ⟨_, rfl⟩
      rw [HBB.out] at CR2
      go_upto_region 3 with fail
      go_cut [29] (fun t29 wr => t29 = .bool (!B) ∧ IsGr W2 wr)
      case first =>
        obtain ⟨i0, i1, i2, i3, i4, i5⟩ := q7
        obtain ⟨j0, j1, j2, j3, j4, j5⟩ := q8
        go_wp2_with fail
        refine (CR _ ?_).mono ?_
        · exact (by with_reducible repeat (first | exact IsGr.refl _ | refine IsGr.gr ?_ _ _ | refine IsGr.alloc ?_ _ | refine IsGr.drew ?_ | refine IsGr.drewN ?_ _))
        rintro e w1 ⟨rfl, os3, dr3, rfl⟩
        go_wp2_with fail
        refine (CR2 _ ?_).mono ?_
        · exact (by with_reducible repeat (first | exact IsGr.refl _ | refine IsGr.gr ?_ _ _ | refine IsGr.alloc ?_ _ | refine IsGr.drew ?_ | refine IsGr.drewN ?_ _))
        rintro e w1 ⟨rfl, os4, dr4, rfl⟩
        go_wp2
        go_meet
        case rel => exact ⟨by first | rfl | simp, (by with_reducible repeat (first | exact IsGr.refl _ | refine IsGr.gr ?_ _ _ | refine IsGr.alloc ?_ _ | refine IsGr.drew ?_ | refine IsGr.drewN ?_ _))⟩
      case rest =>
        obtain ⟨rfl, hgr⟩ := hcut
        clear CR2
        obtain ⟨W3, hW9⟩ : ∃ W3, W3 = wc := ⟨_, rfl⟩
        subst hW9
        replace qp := qp.gr hgr (by omega)
        replace qq := qq.gr hgr (by omega)
        replace qb := qb.gr hgr (by omega)
        replace q7 := q7.gr hgr (by omega)
        replace q8 := q8.gr hgr (by omega)
        have hsz := hgr.size
        replace HG : Hid (IsGr w W3) := HG.out.trans hgr
        replace sp := sp.gr hgr
        replace sq := sq.gr hgr
        replace k7 : g7 < W3.heap.size := by omega
        replace k8 : g8 < W3.heap.size := by omega
        replace ks : w.heap.size + 3 ≤ W3.heap.size := by omega
        clear hsz hgr
        clear CR
        have CR := fun w1 (hg : IsGr W3 w1) => RSRight_any _ x y z w1 (sp.gr hg) fx fy fz
        rw [hA] at CR
        have CD := fun w1 (hg : IsGr W3 w1) => RSCmp_any _ _ x y z u v t w1 (sp.gr hg) (sq.gr hg) fx fy fz fu fv ft
        go_upto_if 29 with fail
        go_cut [9] (fun t9 wr => t9 = .int .i64 c ∧ IsGr W3 wr)
        case first => as_aux_lemma =>
          clear HG CA Fa RA CW
          cases B
          · obtain rfl : c = 0 := by rw [HC.out]; exact spotC_not (by rw [hA, HBB.out]; rfl)
            clear HBB CD HC CN hneg hA sp sq fx fy fz fu fv ft
            go_upto_region 4 with fail
            obtain ⟨C, hin, hcl, hcells, hgr⟩ : ∃ C : World → Prop, (∀ w', W3.heap.size ≤ w'.heap.size ∧ IsGr W3 w' ∧ Kc w' (w.heap.size) x y z ∧ Rc w' g7 xs xa xn xc ys ya yn yc zs za zn zc → C w') ∧ (∀ u u', C u → IsGr u u' → C u') ∧ (∀ w', C w' → Kc w' (w.heap.size) x y z ∧ Rc w' g7 xs xa xn xc ys ya yn yc zs za zn zc) ∧ (∀ w', C w' → IsGr W3 w') := by
              refine ⟨fun w' => W3.heap.size ≤ w'.heap.size ∧ IsGr W3 w' ∧ Kc w' (w.heap.size) x y z ∧ Rc w' g7 xs xa xn xc ys ya yn yc zs za zn zc, fun w' h => h, ?_, fun w' h => h.2.2, fun w' h => h.2.1⟩
              rintro u u' ⟨h0, h1, h2⟩ hg
              exact ⟨Nat.le_trans h0 hg.size, h1.trans hg, h2.1.gr hg (by omega), h2.2.gr hg (by omega)⟩
            refine wp_region_held_drew (S := C) (by kernel_rfl) (by (try dsimp only); exact hin _ ⟨by simp, (by with_reducible repeat (first | exact IsGr.refl _ | refine IsGr.gr ?_ _ _ | refine IsGr.alloc ?_ _ | refine IsGr.drew ?_ | refine IsGr.drewN ?_ _)), ⟨qp, q7⟩⟩) (fun hHeld => ?_)
            refine wpAnyH_take (i := 0) (oi := { dst := some 30, op := Op.move (Operand.tmp 9), type := 3, pos := "law.go:65", after := #[], guard := none }) (v := ?_) rfl (by kernel_rfl) (by kernel_rfl) (by kernel_rfl) (fun _ _ _ h => h) (Or.inl ⟨by rfl, ?_⟩) (by assumption) ?_
            rotate_left
            · (intro w hSw; (try dsimp only at hSw); (try have hcs := hcells w hSw); (try unfold Kc Rc at hcs); (try go_split_ands); go_simp <;> with_reducible rfl)
            (try simp only [Act.put, qA, qB, qC])
            refine wpAnyH_take (i := 1) (oi := { dst := some 31, op := Op.binOp BinOp.neq 3 (Operand.tmp 30) (Operand.const (Value.int IntKind.i64 0)) 3, type := 4, pos := "law.go:65", after := #[{ on := 0, ground := Ground.data }], guard := none }) (v := ?_) rfl (by kernel_rfl) (by kernel_rfl) (by kernel_rfl) (fun _ _ _ h => h) (Or.inl ⟨by rfl, ?_⟩) (by assumption) ?_
            rotate_left
            · (intro w hSw; (try dsimp only at hSw); (try have hcs := hcells w hSw); (try unfold Kc Rc at hcs); (try go_split_ands); go_simp <;> with_reducible rfl)
            (try simp only [Act.put, qA, qB, qC])
            refine wpAnyH_take (i := 2) (oi := { dst := some 32, op := Op.move (Operand.tmp 31), type := 4, pos := "law.go:65", after := #[{ on := 1, ground := Ground.data }], guard := none }) (v := ?_) rfl (by kernel_rfl) (by kernel_rfl) (by kernel_rfl) (fun _ _ _ h => h) (Or.inl ⟨by rfl, ?_⟩) (by assumption) ?_
            rotate_left
            · (intro w hSw; (try dsimp only at hSw); (try have hcs := hcells w hSw); (try unfold Kc Rc at hcs); (try go_split_ands); go_simp <;> with_reducible rfl)
            (try simp only [Act.put, qA, qB, qC])
            refine wpAnyH_take (i := 3) (oi := { dst := some 33, op := Op.load 46 (Operand.tmp 3), type := 46, pos := "law.go:65", after := #[{ on := 2, ground := Ground.guard }], guard := some (2, false) }) (v := ?_) rfl (by kernel_rfl) (by kernel_rfl) (by kernel_rfl) (fun _ _ _ h => h) (Or.inl ⟨by rfl, ?_⟩) (by assumption) ?_
            rotate_left
            · (intro w hSw; (try dsimp only at hSw); (try have hcs := hcells w hSw); (try unfold Kc Rc at hcs); (try go_split_ands); go_simp <;> with_reducible rfl)
            (try simp only [Act.put, qA, qB, qC])
            refine wpAnyH_take (i := 5) (oi := { dst := some 35, op := Op.load 55 (Operand.tmp 7), type := 55, pos := "law.go:65", after := #[{ on := 2, ground := Ground.guard }], guard := some (2, false) }) (v := ?_) rfl (by kernel_rfl) (by kernel_rfl) (by kernel_rfl) (fun _ _ _ h => h) (Or.inl ⟨by rfl, ?_⟩) (by assumption) ?_
            rotate_left
            · (intro w hSw; (try dsimp only at hSw); (try have hcs := hcells w hSw); (try unfold Kc Rc at hcs); (try go_split_ands); go_simp <;> with_reducible rfl)
            (try simp only [Act.put, qA, qB, qC])
            refine wpAnyH_ready (rs := [4]) (by kernel_rfl) (by simp) ?_
            refine AllReadyH.cons (o := { dst := some 34, op := Op.call { callee := Callee.value (Operand.func 31), args := #[Operand.tmp 33], argTypes := #[46] }, type := 4, pos := "law.go:65", after := #[{ on := 3, ground := Ground.data }, { on := 2, ground := Ground.chain }, { on := 2, ground := Ground.guard }], guard := some (2, false) }) rfl (fun K hK => ?_) AllReadyH.nil
            go_simp
            refine (CQ _).mono ?_
            rintro e w4 ⟨rfl, hg4⟩
            (try go_wp2_with fail)
            refine hK.out _ _ (by (try dsimp only); exact hcl _ _ hHeld (by first | with_reducible assumption | with_reducible exact IsGr.refl _ | with_reducible exact (IsGr.refl _).alloc _ | with_reducible exact ((IsGr.refl _).alloc _).alloc _ | assumption)) (fun hHeld2 => ?_)
            clear hK K hHeld
            have hHeld := hHeld2
            clear hHeld2
            (try simp only [Act.put, qA, qB, qC])
            refine wpAnyH_ready (rs := [6]) (by kernel_rfl) (by simp) ?_
            refine AllReadyH.cons (o := { dst := some 36, op := Op.call { callee := Callee.value (Operand.func 26), args := #[Operand.tmp 35], argTypes := #[55] }, type := 4, pos := "law.go:65", after := #[{ on := 5, ground := Ground.data }, { on := 4, ground := Ground.chain }, { on := 2, ground := Ground.guard }], guard := some (2, false) }) rfl (fun K hK => ?_) AllReadyH.nil
            go_simp
            refine (CR _ (hgr _ hHeld)).mono ?_
            rintro e w5 ⟨rfl, hg5⟩
            (try go_wp2_with fail)
            refine hK.out _ _ (by (try dsimp only); exact hcl _ _ hHeld (by first | with_reducible assumption | with_reducible exact IsGr.refl _ | with_reducible exact (IsGr.refl _).alloc _ | with_reducible exact ((IsGr.refl _).alloc _).alloc _ | assumption)) (fun hHeld2 => ?_)
            clear hK K hHeld
            have hHeld := hHeld2
            clear hHeld2
            (try simp only [Act.put, qA, qB, qC])
            refine wpAnyH_take (i := 7) (oi := { dst := some 37, op := Op.binOp BinOp.neq 4 (Operand.tmp 34) (Operand.tmp 36) 4, type := 4, pos := "law.go:65", after := #[{ on := 4, ground := Ground.data }, { on := 6, ground := Ground.data }, { on := 2, ground := Ground.guard }], guard := some (2, false) }) (v := ?_) rfl (by kernel_rfl) (by kernel_rfl) (by kernel_rfl) (fun _ _ _ h => h) (Or.inl ⟨by rfl, ?_⟩) (by assumption) ?_
            rotate_left
            · (intro w hSw; (try dsimp only at hSw); (try have hcs := hcells w hSw); (try unfold Kc Rc at hcs); (try go_split_ands); go_simp <;> with_reducible rfl)
            (try simp only [Act.put, qA, qB, qC])
            refine wpAnyH_take (i := 8) (oi := { dst := some 38, op := Op.pick (Operand.tmp 32) (Operand.const (Value.bool true)) (Operand.tmp 37), type := 4, pos := "law.go:65", after := #[{ on := 2, ground := Ground.data }, { on := 7, ground := Ground.data }], guard := none }) (v := ?_) rfl (by kernel_rfl) (by kernel_rfl) (by kernel_rfl) (fun _ _ _ h => h) (Or.inl ⟨by rfl, ?_⟩) (by assumption) ?_
            rotate_left
            · (intro w hSw; (try dsimp only at hSw); (try have hcs := hcells w hSw); (try unfold Kc Rc at hcs); (try go_split_ands); go_simp <;> with_reducible rfl)
            (try simp only [Act.put, qA, qB, qC])
            refine wpAnyH_done (by kernel_rfl) ?_ _
            have hg := hgr _ hHeld
            clear hcells hin hcl hgr hHeld
            go_wp2
            go_meet
            case rel => exact ⟨rfl, hg⟩
          · have e9 : spotD x y z u v t = c := by rw [spotC_both hA HBB.out, HC.out]
            rw [e9] at CD
            clear e9 HC CR CQ HBB hA sp sq fx fy fz fu fv ft
            obtain ⟨i0, i1, i2, i3, i4, i5⟩ := q7
            obtain ⟨j0, j1, j2, j3, j4, j5⟩ := q8
            obtain ⟨s0, s1, s2, s3, s4, s5, s6, s7, s8, s9, s10, s11⟩ := qp
            obtain ⟨r0, r1, r2, r3, r4, r5, r6, r7, r8, r9, r10, r11⟩ := qq
            have ka0 : w.heap.size < W3.heap.size := by omega
            have ka1 : w.heap.size + 1 < W3.heap.size := by omega
            go_wp2_with fail
            refine (CD _ ?_).mono ?_
            · exact (by with_reducible repeat (first | exact IsGr.refl _ | refine IsGr.gr ?_ _ _ | refine IsGr.alloc ?_ _ | refine IsGr.drew ?_ | refine IsGr.drewN ?_ _))
            rintro e w1 ⟨rfl, os6, dr6, rfl⟩
            go_wp2_with fail
            refine (CN _).mono ?_
            rintro e w1 ⟨rfl, os7, dr7, rfl⟩
            go_wp2
            go_meet
            case rel => exact ⟨rfl, (by with_reducible repeat (first | exact IsGr.refl _ | refine IsGr.gr ?_ _ _ | refine IsGr.alloc ?_ _ | refine IsGr.drew ?_ | refine IsGr.drewN ?_ _))⟩
        case rest =>
          obtain ⟨rfl, hgr⟩ := hcut
          obtain ⟨W4, hW9⟩ : ∃ W4, W4 = wc := ⟨_, rfl⟩
          subst hW9
          replace qp := qp.gr hgr (by omega)
          replace qq := qq.gr hgr (by omega)
          replace qb := qb.gr hgr (by omega)
          replace q7 := q7.gr hgr (by omega)
          replace q8 := q8.gr hgr (by omega)
          have hsz := hgr.size
          replace HG : Hid (IsGr w W4) := HG.out.trans hgr
          replace sp := sp.gr hgr
          replace sq := sq.gr hgr
          replace k7 : g7 < W4.heap.size := by omega
          replace k8 : g8 < W4.heap.size := by omega
          replace ks : w.heap.size + 3 ≤ W4.heap.size := by omega
          clear hsz hgr
          clear CR CN CQ HC hneg HBB CD
          go_upto_region 8 with fail
          go_cut [10, 11] (fun t10 t11 wr => ∃ g10 : Nat, t10 = .pointer (some ⟨g10, 0, none⟩) ∧ t11 = .bool false ∧ g10 < wr.heap.size ∧ Pc wr g10 0 0 ∧ IsGr W4 wr)
          case first =>
            obtain ⟨i0, i1, i2, i3, i4, i5, i6, i7, i8, i9, i10, i11⟩ := qp
            have ka0 : w.heap.size < W4.heap.size := by omega
            go_wp2_with fail
            refine (CW _).mono ?_
            rintro e w1 ⟨rfl, os1, dr1, rfl⟩
            go_wp2
            go_meet
            case rel =>
              refine ⟨_, rfl, rfl, ?_, ?_, (by with_reducible repeat (first | exact IsGr.refl _ | refine IsGr.gr ?_ _ _ | refine IsGr.alloc ?_ _ | refine IsGr.drew ?_ | refine IsGr.drewN ?_ _))⟩
              · first | omega | (simp; done) | (simp; omega) | (simp [Gr.size]; done) | (simp [Gr.size]; omega)
              · unfold Pc; simp [go_sem]
          case rest =>
            obtain ⟨g10, rfl, rfl, k10, q10, hgr⟩ := hcut
            obtain ⟨W5, hW9⟩ : ∃ W5, W5 = wc := ⟨_, rfl⟩
            subst hW9
            replace qp := qp.gr hgr (by omega)
            replace qq := qq.gr hgr (by omega)
            replace qb := qb.gr hgr (by omega)
            replace q7 := q7.gr hgr (by omega)
            replace q8 := q8.gr hgr (by omega)
            have hsz := hgr.size
            replace HG : Hid (IsGr w W5) := HG.out.trans hgr
            replace sp := sp.gr hgr
            replace sq := sq.gr hgr
            replace k7 : g7 < W5.heap.size := by omega
            replace k8 : g8 < W5.heap.size := by omega
            replace ks : w.heap.size + 3 ≤ W5.heap.size := by omega
            clear hsz hgr
            clear CW
            go_upto_region 9 with fail
            go_cut [79] (fun t79 wr => t79 = .bool false ∧ IsGr W5 wr)
            case first => as_aux_lemma =>
              clear HG CA Fa RA hA sp sq fx fy fz fu fv ft
              obtain ⟨C, hin, hcl, hcells, hgr⟩ : ∃ C : World → Prop, (∀ w', W5.heap.size ≤ w'.heap.size ∧ IsGr W5 w' ∧ Pc w' g10 0 0 → C w') ∧ (∀ u u', C u → IsGr u u' → C u') ∧ (∀ w', C w' → Pc w' g10 0 0) ∧ (∀ w', C w' → IsGr W5 w') := by
                refine ⟨fun w' => W5.heap.size ≤ w'.heap.size ∧ IsGr W5 w' ∧ Pc w' g10 0 0, fun w' h => h, ?_, fun w' h => h.2.2, fun w' h => h.2.1⟩
                rintro u u' ⟨h0, h1, h2⟩ hg
                exact ⟨Nat.le_trans h0 hg.size, h1.trans hg, h2.gr hg (by omega)⟩
              refine wp_region_held_drew (S := C) (by kernel_rfl) (by (try dsimp only); exact hin _ ⟨by simp, (by with_reducible repeat (first | exact IsGr.refl _ | refine IsGr.gr ?_ _ _ | refine IsGr.alloc ?_ _ | refine IsGr.drew ?_ | refine IsGr.drewN ?_ _)), q10⟩) (fun hHeld => ?_)
              refine wpAnyH_take (i := 0) (oi := { dst := some 57, op := Op.move (Operand.tmp 11), type := 4, pos := "law.go:72", after := #[], guard := none }) (v := ?_) rfl (by kernel_rfl) (by kernel_rfl) (by kernel_rfl) (fun _ _ _ h => h) (Or.inl ⟨by rfl, ?_⟩) (by assumption) ?_
              rotate_left
              · (intro w hSw; (try dsimp only at hSw); (try have hcs := hcells w hSw); (try unfold Pc at hcs); (try go_split_ands); go_simp <;> with_reducible rfl)
              (try simp only [Act.put, qA, qB, qC])
              refine wpAnyH_take (i := 1) (oi := { dst := some 58, op := Op.move (Operand.tmp 57), type := 4, pos := "law.go:72", after := #[{ on := 0, ground := Ground.data }], guard := none }) (v := ?_) rfl (by kernel_rfl) (by kernel_rfl) (by kernel_rfl) (fun _ _ _ h => h) (Or.inl ⟨by rfl, ?_⟩) (by assumption) ?_
              rotate_left
              · (intro w hSw; (try dsimp only at hSw); (try have hcs := hcells w hSw); (try unfold Pc at hcs); (try go_split_ands); go_simp <;> with_reducible rfl)
              (try simp only [Act.put, qA, qB, qC])
              refine wpAnyH_take (i := 2) (oi := { dst := some 59, op := Op.load 55 (Operand.tmp 7), type := 55, pos := "law.go:72", after := #[{ on := 1, ground := Ground.guard }], guard := some (1, true) }) (v := undef) rfl (by kernel_rfl) (by kernel_rfl) (by kernel_rfl) (fun _ _ _ h => h) (Or.inr ⟨by rfl, rfl⟩) (by assumption) ?_
              (try simp only [Act.put, qA, qB, qC])
              refine wpAnyH_take (i := 3) (oi := { dst := some 60, op := Op.call { callee := Callee.value (Operand.func 26), args := #[Operand.tmp 59], argTypes := #[55] }, type := 4, pos := "law.go:72", after := #[{ on := 2, ground := Ground.data }, { on := 1, ground := Ground.chain }, { on := 1, ground := Ground.guard }], guard := some (1, true) }) (v := undef) rfl (by kernel_rfl) (by kernel_rfl) (by kernel_rfl) (fun _ _ _ h => h) (Or.inr ⟨by rfl, rfl⟩) (by assumption) ?_
              (try simp only [Act.put, qA, qB, qC])
              refine wpAnyH_take (i := 4) (oi := { dst := some 61, op := Op.unOp UnOp.not 4 (Operand.tmp 60), type := 4, pos := "law.go:72", after := #[{ on := 3, ground := Ground.data }, { on := 1, ground := Ground.guard }], guard := some (1, true) }) (v := undef) rfl (by kernel_rfl) (by kernel_rfl) (by kernel_rfl) (fun _ _ _ h => h) (Or.inr ⟨by rfl, rfl⟩) (by assumption) ?_
              (try simp only [Act.put, qA, qB, qC])
              refine wpAnyH_take (i := 5) (oi := { dst := some 62, op := Op.move (Operand.tmp 61), type := 4, pos := "law.go:72", after := #[{ on := 4, ground := Ground.data }, { on := 3, ground := Ground.chain }, { on := 1, ground := Ground.guard }], guard := some (1, true) }) (v := undef) rfl (by kernel_rfl) (by kernel_rfl) (by kernel_rfl) (fun _ _ _ h => h) (Or.inr ⟨by rfl, rfl⟩) (by assumption) ?_
              (try simp only [Act.put, qA, qB, qC])
              refine wpAnyH_take (i := 6) (oi := { dst := some 63, op := Op.load 24 (Operand.tmp 10), type := 24, pos := "law.go:72", after := #[{ on := 5, ground := Ground.guard }], guard := some (5, false) }) (v := undef) rfl (by kernel_rfl) (by kernel_rfl) (by kernel_rfl) (fun _ _ _ h => h) (Or.inr ⟨by rfl, rfl⟩) (by assumption) ?_
              (try simp only [Act.put, qA, qB, qC])
              refine wpAnyH_take (i := 7) (oi := { dst := some 64, op := Op.call { callee := Callee.value (Operand.func 22), args := #[Operand.tmp 63], argTypes := #[24] }, type := 27, pos := "law.go:72", after := #[{ on := 6, ground := Ground.data }, { on := 5, ground := Ground.chain }, { on := 5, ground := Ground.guard }], guard := some (5, false) }) (v := undef) rfl (by kernel_rfl) (by kernel_rfl) (by kernel_rfl) (fun _ _ _ h => h) (Or.inr ⟨by rfl, rfl⟩) (by assumption) ?_
              (try simp only [Act.put, qA, qB, qC])
              refine wpAnyH_take (i := 8) (oi := { dst := some 65, op := Op.call { callee := Callee.value (Operand.func 36), args := #[Operand.tmp 64], argTypes := #[27] }, type := 55, pos := "law.go:72", after := #[{ on := 7, ground := Ground.data }, { on := 7, ground := Ground.chain }, { on := 5, ground := Ground.guard }], guard := some (5, false) }) (v := undef) rfl (by kernel_rfl) (by kernel_rfl) (by kernel_rfl) (fun _ _ _ h => h) (Or.inr ⟨by rfl, rfl⟩) (by assumption) ?_
              (try simp only [Act.put, qA, qB, qC])
              refine wpAnyH_take (i := 9) (oi := { dst := some 66, op := Op.load 55 (Operand.tmp 7), type := 55, pos := "law.go:72", after := #[{ on := 5, ground := Ground.guard }], guard := some (5, false) }) (v := undef) rfl (by kernel_rfl) (by kernel_rfl) (by kernel_rfl) (fun _ _ _ h => h) (Or.inr ⟨by rfl, rfl⟩) (by assumption) ?_
              (try simp only [Act.put, qA, qB, qC])
              refine wpAnyH_take (i := 10) (oi := { dst := some 67, op := Op.call { callee := Callee.value (Operand.func 27), args := #[Operand.tmp 65, Operand.tmp 66], argTypes := #[55, 55] }, type := 3, pos := "law.go:72", after := #[{ on := 8, ground := Ground.data }, { on := 9, ground := Ground.data }, { on := 8, ground := Ground.chain }, { on := 5, ground := Ground.guard }], guard := some (5, false) }) (v := undef) rfl (by kernel_rfl) (by kernel_rfl) (by kernel_rfl) (fun _ _ _ h => h) (Or.inr ⟨by rfl, rfl⟩) (by assumption) ?_
              (try simp only [Act.put, qA, qB, qC])
              refine wpAnyH_take (i := 11) (oi := { dst := some 68, op := Op.binOp BinOp.neq 3 (Operand.tmp 67) (Operand.const (Value.int IntKind.i64 0)) 3, type := 4, pos := "law.go:72", after := #[{ on := 10, ground := Ground.data }, { on := 5, ground := Ground.guard }], guard := some (5, false) }) (v := undef) rfl (by kernel_rfl) (by kernel_rfl) (by kernel_rfl) (fun _ _ _ h => h) (Or.inr ⟨by rfl, rfl⟩) (by assumption) ?_
              (try simp only [Act.put, qA, qB, qC])
              refine wpAnyH_take (i := 12) (oi := { dst := some 69, op := Op.pick (Operand.tmp 62) (Operand.const (Value.bool true)) (Operand.tmp 68), type := 4, pos := "law.go:72", after := #[{ on := 5, ground := Ground.data }, { on := 11, ground := Ground.data }, { on := 1, ground := Ground.guard }], guard := some (1, true) }) (v := undef) rfl (by kernel_rfl) (by kernel_rfl) (by kernel_rfl) (fun _ _ _ h => h) (Or.inr ⟨by rfl, rfl⟩) (by assumption) ?_
              (try simp only [Act.put, qA, qB, qC])
              refine wpAnyH_take (i := 13) (oi := { dst := some 70, op := Op.pick (Operand.tmp 58) (Operand.tmp 69) (Operand.const (Value.bool false)), type := 4, pos := "law.go:72", after := #[{ on := 1, ground := Ground.data }, { on := 12, ground := Ground.data }], guard := none }) (v := ?_) rfl (by kernel_rfl) (by kernel_rfl) (by kernel_rfl) (fun _ _ _ h => h) (Or.inl ⟨by rfl, ?_⟩) (by assumption) ?_
              rotate_left
              · (intro w hSw; (try dsimp only at hSw); (try have hcs := hcells w hSw); (try unfold Pc at hcs); (try go_split_ands); go_simp <;> with_reducible rfl)
              (try simp only [Act.put, qA, qB, qC])
              refine wpAnyH_take (i := 14) (oi := { dst := some 71, op := Op.move (Operand.tmp 70), type := 4, pos := "law.go:72", after := #[{ on := 13, ground := Ground.data }, { on := 10, ground := Ground.chain }], guard := none }) (v := ?_) rfl (by kernel_rfl) (by kernel_rfl) (by kernel_rfl) (fun _ _ _ h => h) (Or.inl ⟨by rfl, ?_⟩) (by assumption) ?_
              rotate_left
              · (intro w hSw; (try dsimp only at hSw); (try have hcs := hcells w hSw); (try unfold Pc at hcs); (try go_split_ands); go_simp <;> with_reducible rfl)
              (try simp only [Act.put, qA, qB, qC])
              refine wpAnyH_take (i := 15) (oi := { dst := some 72, op := Op.move (Operand.tmp 11), type := 4, pos := "law.go:72", after := #[{ on := 14, ground := Ground.guard }], guard := some (14, false) }) (v := ?_) rfl (by kernel_rfl) (by kernel_rfl) (by kernel_rfl) (fun _ _ _ h => h) (Or.inl ⟨by rfl, ?_⟩) (by assumption) ?_
              rotate_left
              · (intro w hSw; (try dsimp only at hSw); (try have hcs := hcells w hSw); (try unfold Pc at hcs); (try go_split_ands); go_simp <;> with_reducible rfl)
              (try simp only [Act.put, qA, qB, qC])
              refine wpAnyH_take (i := 16) (oi := { dst := some 73, op := Op.unOp UnOp.not 4 (Operand.tmp 72), type := 4, pos := "law.go:72", after := #[{ on := 15, ground := Ground.data }, { on := 14, ground := Ground.guard }], guard := some (14, false) }) (v := ?_) rfl (by kernel_rfl) (by kernel_rfl) (by kernel_rfl) (fun _ _ _ h => h) (Or.inl ⟨by rfl, ?_⟩) (by assumption) ?_
              rotate_left
              · (intro w hSw; (try dsimp only at hSw); (try have hcs := hcells w hSw); (try unfold Pc at hcs); (try go_split_ands); go_simp <;> with_reducible rfl)
              (try simp only [Act.put, qA, qB, qC])
              refine wpAnyH_take (i := 17) (oi := { dst := some 74, op := Op.move (Operand.tmp 73), type := 4, pos := "law.go:72", after := #[{ on := 16, ground := Ground.data }, { on := 14, ground := Ground.chain }, { on := 14, ground := Ground.guard }], guard := some (14, false) }) (v := ?_) rfl (by kernel_rfl) (by kernel_rfl) (by kernel_rfl) (fun _ _ _ h => h) (Or.inl ⟨by rfl, ?_⟩) (by assumption) ?_
              rotate_left
              · (intro w hSw; (try dsimp only at hSw); (try have hcs := hcells w hSw); (try unfold Pc at hcs); (try go_split_ands); go_simp <;> with_reducible rfl)
              (try simp only [Act.put, qA, qB, qC])
              refine wpAnyH_take (i := 18) (oi := { dst := some 75, op := Op.load 24 (Operand.tmp 10), type := 24, pos := "law.go:72", after := #[{ on := 17, ground := Ground.guard }], guard := some (17, true) }) (v := ?_) rfl (by kernel_rfl) (by kernel_rfl) (by kernel_rfl) (fun _ _ _ h => h) (Or.inl ⟨by rfl, ?_⟩) (by assumption) ?_
              rotate_left
              · (intro w hSw; (try dsimp only at hSw); (try have hcs := hcells w hSw); (try unfold Pc at hcs); (try go_split_ands); go_simp <;> with_reducible rfl)
              (try simp only [Act.put, qA, qB, qC])
              refine wpAnyH_take (i := 19) (oi := { dst := some 76, op := Op.build 24 #[], type := 24, pos := "law.go:72", after := #[{ on := 17, ground := Ground.guard }], guard := some (17, true) }) (v := ?_) rfl (by kernel_rfl) (by kernel_rfl) (by kernel_rfl) (fun _ _ _ h => h) (Or.inl ⟨by rfl, ?_⟩) (by assumption) ?_
              rotate_left
              · (intro w hSw; (try dsimp only at hSw); (try have hcs := hcells w hSw); (try unfold Pc at hcs); (try go_split_ands); go_simp <;> with_reducible rfl)
              (try simp only [Act.put, qA, qB, qC])
              refine wpAnyH_take (i := 20) (oi := { dst := some 77, op := Op.binOp BinOp.neq 24 (Operand.tmp 75) (Operand.tmp 76) 24, type := 4, pos := "law.go:72", after := #[{ on := 18, ground := Ground.data }, { on := 19, ground := Ground.data }, { on := 17, ground := Ground.guard }], guard := some (17, true) }) (v := ?_) rfl (by kernel_rfl) (by kernel_rfl) (by kernel_rfl) (fun _ _ _ h => h) (Or.inl ⟨by rfl, ?_⟩) (by assumption) ?_
              rotate_left
              · (intro w hSw; (try dsimp only at hSw); (try have hcs := hcells w hSw); (try unfold Pc at hcs); (try go_split_ands); go_simp <;> with_reducible rfl)
              (try simp only [Act.put, qA, qB, qC])
              refine wpAnyH_take (i := 21) (oi := { dst := some 78, op := Op.pick (Operand.tmp 74) (Operand.tmp 77) (Operand.const (Value.bool false)), type := 4, pos := "law.go:72", after := #[{ on := 17, ground := Ground.data }, { on := 20, ground := Ground.data }, { on := 14, ground := Ground.guard }], guard := some (14, false) }) (v := ?_) rfl (by kernel_rfl) (by kernel_rfl) (by kernel_rfl) (fun _ _ _ h => h) (Or.inl ⟨by rfl, ?_⟩) (by assumption) ?_
              rotate_left
              · (intro w hSw; (try dsimp only at hSw); (try have hcs := hcells w hSw); (try unfold Pc at hcs); (try go_split_ands); go_simp <;> with_reducible rfl)
              (try simp only [Act.put, qA, qB, qC])
              refine wpAnyH_take (i := 22) (oi := { dst := some 79, op := Op.pick (Operand.tmp 71) (Operand.const (Value.bool true)) (Operand.tmp 78), type := 4, pos := "law.go:72", after := #[{ on := 14, ground := Ground.data }, { on := 21, ground := Ground.data }], guard := none }) (v := ?_) rfl (by kernel_rfl) (by kernel_rfl) (by kernel_rfl) (fun _ _ _ h => h) (Or.inl ⟨by rfl, ?_⟩) (by assumption) ?_
              rotate_left
              · (intro w hSw; (try dsimp only at hSw); (try have hcs := hcells w hSw); (try unfold Pc at hcs); (try go_split_ands); go_simp <;> with_reducible rfl)
              (try simp only [Act.put, qA, qB, qC])
              refine wpAnyH_done (by kernel_rfl) ?_ _
              have hg := hgr _ hHeld
              clear hcells hin hcl hgr hHeld
              go_wp2
              go_meet
              case rel => exact ⟨rfl, hg⟩
            case rest =>
              obtain ⟨rfl, hgr⟩ := hcut
              obtain ⟨W6, hW9⟩ : ∃ W6, W6 = wc := ⟨_, rfl⟩
              subst hW9
              replace qp := qp.gr hgr (by omega)
              replace qq := qq.gr hgr (by omega)
              replace qb := qb.gr hgr (by omega)
              replace q7 := q7.gr hgr (by omega)
              replace q8 := q8.gr hgr (by omega)
              have hsz := hgr.size
              replace HG : Hid (IsGr w W6) := HG.out.trans hgr
              replace sp := sp.gr hgr
              replace sq := sq.gr hgr
              replace k7 : g7 < W6.heap.size := by omega
              replace k8 : g8 < W6.heap.size := by omega
              replace ks : w.heap.size + 3 ≤ W6.heap.size := by omega
              clear hsz hgr
              clear q10 k10
              cases ra : rightP a1 a2 with
              | false =>
                have AT := fun w => At_no a1 a2 ra w
                have heS := fun w => eqS_self 0 0 0 0 0 0 0 0 0 0 0 0 w
                rw [ra] at RA
                clear ra
                go_upto_region 11 with fail
                go_cut [12] (fun t12 wr => ∃ g12 : Nat, t12 = .pointer (some ⟨g12, 0, none⟩) ∧ g12 < wr.heap.size ∧ Zc wr g12  ∧ IsGr W6 wr)
                case first =>
                  obtain ⟨i0, i1⟩ := qb
                  have ka2 : w.heap.size + 1 + 1 < W6.heap.size := by omega
                  go_wp2_with fail
                  refine (AT _).mono ?_
                  rintro e w1 ⟨rfl, os1, dr1, rfl⟩
                  go_wp2
                  go_meet
                  case rel =>
                    refine ⟨_, rfl, ?_, ?_, (by with_reducible repeat (first | exact IsGr.refl _ | refine IsGr.gr ?_ _ _ | refine IsGr.alloc ?_ _ | refine IsGr.drew ?_ | refine IsGr.drewN ?_ _))⟩
                    · first | omega | (simp; done) | (simp; omega) | (simp [Gr.size]; done) | (simp [Gr.size]; omega)
                    · unfold Zc; simp [go_sem]
                case rest =>
                  obtain ⟨g12, rfl, k12, q12, hgr⟩ := hcut
                  obtain ⟨W7, hW9⟩ : ∃ W7, W7 = wc := ⟨_, rfl⟩
                  subst hW9
                  replace qp := qp.gr hgr (by omega)
                  replace qq := qq.gr hgr (by omega)
                  replace qb := qb.gr hgr (by omega)
                  replace q7 := q7.gr hgr (by omega)
                  replace q8 := q8.gr hgr (by omega)
                  have hsz := hgr.size
                  replace HG : Hid (IsGr w W7) := HG.out.trans hgr
                  replace sp := sp.gr hgr
                  replace sq := sq.gr hgr
                  replace k7 : g7 < W7.heap.size := by omega
                  replace k8 : g8 < W7.heap.size := by omega
                  replace ks : w.heap.size + 3 ≤ W7.heap.size := by omega
                  clear hsz hgr
                  clear AT q7 q8 sp sq qp qq
                  obtain ⟨s0, s1, s2, s3, s4, s5, s6, s7, s8, s9, s10, s11⟩ := q12
                  obtain ⟨i0, i1⟩ := qb
                  have ka2 : w.heap.size + 1 + 1 < W7.heap.size := by omega
                  go_wp2_with fail
                  refine (Fa _).mono ?_
                  rintro e w1 ⟨rfl, os2, dr2, rfl⟩
                  go_wp2_with fail
                  refine (RA _).mono ?_
                  rintro e w1 ⟨rfl, os3, dr3, rfl⟩
                  go_wp2_with fail
                  refine (CA _).mono ?_
                  rintro e w1 ⟨rfl, os4, dr4, rfl⟩
                  go_wp2
                  go_ret
                  exact ⟨rfl, HG.out.trans (by with_reducible repeat (first | exact IsGr.refl _ | refine IsGr.gr ?_ _ _ | refine IsGr.alloc ?_ _ | refine IsGr.drew ?_ | refine IsGr.drewN ?_ _))⟩
              | true =>
                have AT := fun w => At_yes a1 a2 ra w
                have WA := fun w => Whole_yes a1 a2 1 (whole_at ra).1 w
                rw [(whole_at ra).2.1, (whole_at ra).2.2] at WA
                have heS := fun w => eqS_self (wd0 a1) (wd1 a1) (wd2 a1) (wd3 a1) (wd0 a2) (wd1 a2) (wd2 a2) (wd3 a2) (wd0 1) (wd1 1) (wd2 1) (wd3 1) w
                have r9 := rightP_t ra
                have O1 := fun w => fOf a1 (by omega) (by omega) w
                have O2 := fun w => fOf a2 (by omega) (by omega) w
                have O3 := fun w => fOf 1 (by omega) (by omega) w
                have AA := fun w => RSAt_any a1 a2 ra w
                have fA := fit_pt1 ra
                have E8 : ¬ spotD a1 a2 1 x y z = 0 := whole_not hW hA
                have ER := spotD_range a1 a2 1 x y z
                rw [ra] at RA
                clear r9 ra
                go_upto_region 11 with fail
                go_cut [12] (fun t12 wr => ∃ g12 : Nat, t12 = .pointer (some ⟨g12, 0, none⟩) ∧ g12 < wr.heap.size ∧ Kc wr g12 a1 a2 1 ∧ IsGr W6 wr)
                case first =>
                  obtain ⟨i0, i1⟩ := qb
                  have ka2 : w.heap.size + 1 + 1 < W6.heap.size := by omega
                  go_wp2_with fail
                  refine (AT _).mono ?_
                  rintro e w1 ⟨rfl, os1, dr1, rfl⟩
                  go_wp2
                  go_meet
                  case rel =>
                    refine ⟨_, rfl, ?_, ?_, (by with_reducible repeat (first | exact IsGr.refl _ | refine IsGr.gr ?_ _ _ | refine IsGr.alloc ?_ _ | refine IsGr.drew ?_ | refine IsGr.drewN ?_ _))⟩
                    · first | omega | (simp; done) | (simp; omega) | (simp [Gr.size]; done) | (simp [Gr.size]; omega)
                    · unfold Kc; simp [go_sem]
                case rest =>
                  obtain ⟨g12, rfl, k12, q12, hgr⟩ := hcut
                  obtain ⟨W7, hW9⟩ : ∃ W7, W7 = wc := ⟨_, rfl⟩
                  subst hW9
                  replace qp := qp.gr hgr (by omega)
                  replace qq := qq.gr hgr (by omega)
                  replace qb := qb.gr hgr (by omega)
                  replace q7 := q7.gr hgr (by omega)
                  replace q8 := q8.gr hgr (by omega)
                  have hsz := hgr.size
                  replace HG : Hid (IsGr w W7) := HG.out.trans hgr
                  replace sp := sp.gr hgr
                  replace sq := sq.gr hgr
                  replace k7 : g7 < W7.heap.size := by omega
                  replace k8 : g8 < W7.heap.size := by omega
                  replace ks : w.heap.size + 3 ≤ W7.heap.size := by omega
                  clear hsz hgr
                  clear AT
                  go_upto_region 12 with fail
                  go_cut [85] (fun t85 wr => t85 = .bool false ∧ IsGr W7 wr)
                  case first =>
                    obtain ⟨i0, i1⟩ := qb
                    have ka2 : w.heap.size + 1 + 1 < W7.heap.size := by omega
                    go_wp2_with fail
                    refine (Fa _).mono ?_
                    rintro e w1 ⟨rfl, os2, dr2, rfl⟩
                    go_wp2_with fail
                    refine (RA _).mono ?_
                    rintro e w1 ⟨rfl, os3, dr3, rfl⟩
                    go_wp2
                    go_meet
                    case rel => exact ⟨by first | rfl | simp, (by with_reducible repeat (first | exact IsGr.refl _ | refine IsGr.gr ?_ _ _ | refine IsGr.alloc ?_ _ | refine IsGr.drew ?_ | refine IsGr.drewN ?_ _))⟩
                  case rest =>
                    obtain ⟨rfl, hgr⟩ := hcut
                    obtain ⟨W8, hW9⟩ : ∃ W8, W8 = wc := ⟨_, rfl⟩
                    subst hW9
                    replace qp := qp.gr hgr (by omega)
                    replace qq := qq.gr hgr (by omega)
                    replace qb := qb.gr hgr (by omega)
                    replace q7 := q7.gr hgr (by omega)
                    replace q8 := q8.gr hgr (by omega)
                    replace q12 := q12.gr hgr (by omega)
                    have hsz := hgr.size
                    replace HG : Hid (IsGr w W8) := HG.out.trans hgr
                    replace sp := sp.gr hgr
                    replace sq := sq.gr hgr
                    replace k7 : g7 < W8.heap.size := by omega
                    replace k8 : g8 < W8.heap.size := by omega
                    replace ks : w.heap.size + 3 ≤ W8.heap.size := by omega
                    replace k12 : g12 < W8.heap.size := by omega
                    clear hsz hgr
                    clear RA
                    go_upto_region 14 with fail
                    go_cut [13, 14] (fun t13 t14 wr => ∃ g13 : Nat, t13 = .pointer (some ⟨g13, 0, none⟩) ∧ t14 = .bool true ∧ g13 < wr.heap.size ∧ Pc wr g13 a1 a2 ∧ IsGr W8 wr)
                    case first =>
                      obtain ⟨i0, i1, i2, i3, i4, i5, i6, i7, i8, i9, i10, i11⟩ := q12
                      go_wp2_with fail
                      refine (WA _).mono ?_
                      rintro e w1 ⟨rfl, os1, dr1, rfl⟩
                      go_wp2
                      go_meet
                      case rel =>
                        refine ⟨_, rfl, rfl, ?_, ?_, (by with_reducible repeat (first | exact IsGr.refl _ | refine IsGr.gr ?_ _ _ | refine IsGr.alloc ?_ _ | refine IsGr.drew ?_ | refine IsGr.drewN ?_ _))⟩
                        · first | omega | (simp; done) | (simp; omega) | (simp [Gr.size]; done) | (simp [Gr.size]; omega)
                        · unfold Pc; simp [go_sem]
                    case rest =>
                      obtain ⟨g13, rfl, rfl, k13, q13, hgr⟩ := hcut
                      obtain ⟨W9, hW9⟩ : ∃ W9, W9 = wc := ⟨_, rfl⟩
                      subst hW9
                      replace qp := qp.gr hgr (by omega)
                      replace qq := qq.gr hgr (by omega)
                      replace qb := qb.gr hgr (by omega)
                      replace q7 := q7.gr hgr (by omega)
                      replace q8 := q8.gr hgr (by omega)
                      replace q12 := q12.gr hgr (by omega)
                      have hsz := hgr.size
                      replace HG : Hid (IsGr w W9) := HG.out.trans hgr
                      replace sp := sp.gr hgr
                      replace sq := sq.gr hgr
                      replace k7 : g7 < W9.heap.size := by omega
                      replace k8 : g8 < W9.heap.size := by omega
                      replace ks : w.heap.size + 3 ≤ W9.heap.size := by omega
                      replace k12 : g12 < W9.heap.size := by omega
                      clear hsz hgr
                      clear WA
                      go_upto_region 15 with fail
                      go_cut [115] (fun t115 wr => t115 = .bool false ∧ IsGr W9 wr)
                      case first =>
                        clear HG CA Fa sp sq hA fx fy fz fu fv ft AA fA hW E8 ER
                        obtain ⟨C, hin, hcl, hcells, hgr⟩ : ∃ C : World → Prop, (∀ w', W9.heap.size ≤ w'.heap.size ∧ IsGr W9 w' ∧ Pc w' (w.heap.size + 1 + 1) a1 a2 ∧ Kc w' g12 a1 a2 1 ∧ Pc w' g13 a1 a2 → C w') ∧ (∀ u u', C u → IsGr u u' → C u') ∧ (∀ w', C w' → Pc w' (w.heap.size + 1 + 1) a1 a2 ∧ Kc w' g12 a1 a2 1 ∧ Pc w' g13 a1 a2) ∧ (∀ w', C w' → IsGr W9 w') := by
                          refine ⟨fun w' => W9.heap.size ≤ w'.heap.size ∧ IsGr W9 w' ∧ Pc w' (w.heap.size + 1 + 1) a1 a2 ∧ Kc w' g12 a1 a2 1 ∧ Pc w' g13 a1 a2, fun w' h => h, ?_, fun w' h => h.2.2, fun w' h => h.2.1⟩
                          rintro u u' ⟨h0, h1, h2⟩ hg
                          exact ⟨Nat.le_trans h0 hg.size, h1.trans hg, h2.1.gr hg (by omega), h2.2.1.gr hg (by omega), h2.2.2.gr hg (by omega)⟩
                        refine wp_region_quietV C (by kernel_rfl) (by kernel_rfl) (hin _ ⟨by simp, (by with_reducible repeat (first | exact IsGr.refl _ | refine IsGr.gr ?_ _ _ | refine IsGr.alloc ?_ _ | refine IsGr.drew ?_ | refine IsGr.drewN ?_ _)), ⟨qb, q12, q13⟩⟩) (fun K HK => ?_)
                        refine QK.take HK ?_ (by rfl) ?_ ?_
                        rotate_left
                        · (intro w hw; (try have hcs := hcells w hw); (try unfold Pc Kc at hcs); (try go_split_ands); go_simp <;> with_reducible rfl)
                        (try simp only [Act.put, qA, qB, qC])
                        refine QK.take HK ?_ (by rfl) ?_ ?_
                        rotate_left
                        · (intro w hw; (try have hcs := hcells w hw); (try unfold Pc Kc at hcs); (try go_split_ands); go_simp <;> with_reducible rfl)
                        (try simp only [Act.put, qA, qB, qC])
                        refine QK.take HK ?_ (by rfl) ?_ ?_
                        rotate_left
                        · (intro w hw; (try have hcs := hcells w hw); (try unfold Pc Kc at hcs); (try go_split_ands); go_simp <;> with_reducible rfl)
                        (try simp only [Act.put, qA, qB, qC])
                        refine QK.take HK ?_ (by rfl) ?_ ?_
                        rotate_left
                        · (intro w hw; (try have hcs := hcells w hw); (try unfold Pc Kc at hcs); (try go_split_ands); go_simp <;> with_reducible rfl)
                        (try simp only [Act.put, qA, qB, qC])
                        refine QK.take HK ?_ (by rfl) ?_ ?_
                        rotate_left
                        · (intro w hw; (try have hcs := hcells w hw); (try unfold Pc Kc at hcs); (try go_split_ands); go_simp <;> with_reducible rfl)
                        (try simp only [Act.put, qA, qB, qC])
                        refine QK.take HK ?_ (by rfl) ?_ ?_
                        rotate_left
                        · (intro w hw; (try have hcs := hcells w hw); (try unfold Pc Kc at hcs); (try go_split_ands); go_simp <;> with_reducible rfl)
                        (try simp only [Act.put, qA, qB, qC])
                        refine QK.take HK ?_ (by rfl) ?_ ?_
                        rotate_left
                        · (intro w hw; (try have hcs := hcells w hw); (try unfold Pc Kc at hcs); (try go_split_ands); go_simp <;> with_reducible rfl)
                        (try simp only [Act.put, qA, qB, qC])
                        refine QK.take HK ?_ (by rfl) ?_ ?_
                        rotate_left
                        · (intro w hw; (try have hcs := hcells w hw); (try unfold Pc Kc at hcs); (try go_split_ands); go_simp <;> with_reducible rfl)
                        (try simp only [Act.put, qA, qB, qC])
                        refine QK.take HK ?_ (by rfl) ?_ ?_
                        rotate_left
                        · (intro w hw; (try have hcs := hcells w hw); (try unfold Pc Kc at hcs); (try go_split_ands); go_simp <;> with_reducible rfl)
                        (try simp only [Act.put, qA, qB, qC])
                        refine QK.take HK ?_ (by rfl) ?_ ?_
                        rotate_left
                        · (intro w hw; (try have hcs := hcells w hw); (try unfold Pc Kc at hcs); (try go_split_ands); go_simp <;> with_reducible rfl)
                        (try simp only [Act.put, qA, qB, qC])
                        refine QK.take HK ?_ (by rfl) ?_ ?_
                        rotate_left
                        · (intro w hw; (try have hcs := hcells w hw); (try unfold Pc Kc at hcs); (try go_split_ands); go_simp <;> with_reducible rfl)
                        (try simp only [Act.put, qA, qB, qC])
                        refine QK.call HK 38 #[.int .i64 a1] (.agg #[.int .u64 (wd0 a1), .int .u64 (wd1 a1), .int .u64 (wd2 a1), .int .u64 (wd3 a1)]) hcl (by rfl) (fun w => by go_simp) O1 ?_
                        (try simp only [Act.put, qA, qB, qC])
                        refine QK.take HK ?_ (by rfl) ?_ ?_
                        rotate_left
                        · (intro w hw; (try have hcs := hcells w hw); (try unfold Pc Kc at hcs); (try go_split_ands); go_simp <;> with_reducible rfl)
                        (try simp only [Act.put, qA, qB, qC])
                        refine QK.take HK ?_ (by rfl) ?_ ?_
                        rotate_left
                        · (intro w hw; (try have hcs := hcells w hw); (try unfold Pc Kc at hcs); (try go_split_ands); go_simp <;> with_reducible rfl)
                        (try simp only [Act.put, qA, qB, qC])
                        refine QK.call HK 38 #[.int .i64 a2] (.agg #[.int .u64 (wd0 a2), .int .u64 (wd1 a2), .int .u64 (wd2 a2), .int .u64 (wd3 a2)]) hcl (by rfl) (fun w => by go_simp) O2 ?_
                        (try simp only [Act.put, qA, qB, qC])
                        refine QK.call HK 38 #[.int .i64 1] (.agg #[.int .u64 (wd0 (1)), .int .u64 (wd1 (1)), .int .u64 (wd2 (1)), .int .u64 (wd3 (1))]) hcl (by rfl) (fun w => by go_simp) O3 ?_
                        (try simp only [Act.put, qA, qB, qC])
                        refine QK.take HK ?_ (by rfl) ?_ ?_
                        rotate_left
                        · (intro w hw; (try have hcs := hcells w hw); (try unfold Pc Kc at hcs); (try go_split_ands); go_simp <;> with_reducible rfl)
                        (try simp only [Act.put, qA, qB, qC])
                        refine QK.take HK ?_ (by rfl) ?_ ?_
                        rotate_left
                        · (intro w hw; (try have hcs := hcells w hw); (try unfold Pc Kc at hcs); (try go_split_ands); go_simp <;> with_reducible rfl)
                        (try simp only [Act.put, qA, qB, qC])
                        refine QK.take HK ?_ (by rfl) ?_ ?_
                        rotate_left
                        · (intro w hw; (try have hcs := hcells w hw); (try unfold Pc Kc at hcs); (try go_split_ands); go_simp <;> with_reducible rfl)
                        (try simp only [Act.put, qA, qB, qC])
                        refine QK.nil HK ?_
                        clear HK K
                        intro wq hq
                        have hg := hgr wq hq
                        clear hcells hin hcl hgr hq
                        go_wp2
                        go_meet
                        case rel => exact ⟨by first | rfl | simp, hg⟩
                      case rest =>
                        obtain ⟨rfl, hgr⟩ := hcut
                        obtain ⟨W10, hW9⟩ : ∃ W10, W10 = wc := ⟨_, rfl⟩
                        subst hW9
                        replace qp := qp.gr hgr (by omega)
                        replace qq := qq.gr hgr (by omega)
                        replace qb := qb.gr hgr (by omega)
                        replace q7 := q7.gr hgr (by omega)
                        replace q8 := q8.gr hgr (by omega)
                        have hsz := hgr.size
                        replace HG : Hid (IsGr w W10) := HG.out.trans hgr
                        replace sp := sp.gr hgr
                        replace sq := sq.gr hgr
                        replace k7 : g7 < W10.heap.size := by omega
                        replace k8 : g8 < W10.heap.size := by omega
                        replace ks : w.heap.size + 3 ≤ W10.heap.size := by omega
                        clear hsz hgr
                        clear O1 O2 O3 heS q12 q13 k12 k13
                        have CR := fun w1 (hg : IsGr W10 w1) => RSRight_any _ x y z w1 (sp.gr hg) fx fy fz
                        rw [hA] at CR
                        have CDA := fun w1 s (hg : IsGr W10 w1) (hv : IsSp w1 s a1 a2 1) => RSCmp_any s _ a1 a2 1 x y z w1 hv (sp.gr hg) fA.1 fA.2.1 fA.2.2 fx fy fz
                        generalize spotD a1 a2 1 x y z = E at *
                        obtain rfl | rfl : E = -1 ∨ E = 1 := by omega
                        · clear E8 ER
                          clear sp sq hA hW fx fy fz fu fv ft
                          go_upto_region 17 with fail
                          obtain ⟨C, hin, hcl, hcells, hgr⟩ : ∃ C : World → Prop, (∀ w', W10.heap.size ≤ w'.heap.size ∧ IsGr W10 w' ∧ Pc w' (w.heap.size + 1 + 1) a1 a2 ∧ Rc w' g7 xs xa xn xc ys ya yn yc zs za zn zc → C w') ∧ (∀ u u', C u → IsGr u u' → C u') ∧ (∀ w', C w' → Pc w' (w.heap.size + 1 + 1) a1 a2 ∧ Rc w' g7 xs xa xn xc ys ya yn yc zs za zn zc) ∧ (∀ w', C w' → IsGr W10 w') := by
                            refine ⟨fun w' => W10.heap.size ≤ w'.heap.size ∧ IsGr W10 w' ∧ Pc w' (w.heap.size + 1 + 1) a1 a2 ∧ Rc w' g7 xs xa xn xc ys ya yn yc zs za zn zc, fun w' h => h, ?_, fun w' h => h.2.2, fun w' h => h.2.1⟩
                            rintro u u' ⟨h0, h1, h2⟩ hg
                            exact ⟨Nat.le_trans h0 hg.size, h1.trans hg, h2.1.gr hg (by omega), h2.2.gr hg (by omega)⟩
                          refine wp_region_held_drew (S := C) (by kernel_rfl) (by (try dsimp only); exact hin _ ⟨by simp, (by with_reducible repeat (first | exact IsGr.refl _ | refine IsGr.gr ?_ _ _ | refine IsGr.alloc ?_ _ | refine IsGr.drew ?_ | refine IsGr.drewN ?_ _)), ⟨qb, q7⟩⟩) (fun hHeld => ?_)
                          refine wpAnyH_take (i := 0) (oi := { dst := some 116, op := Op.move (Operand.tmp 11), type := 4, pos := "law.go:83", after := #[], guard := none }) (v := ?_) rfl (by kernel_rfl) (by kernel_rfl) (by kernel_rfl) (fun _ _ _ h => h) (Or.inl ⟨by rfl, ?_⟩) (by assumption) ?_
                          rotate_left
                          · (intro w hSw; (try dsimp only at hSw); (try have hcs := hcells w hSw); (try unfold Pc Rc at hcs); (try go_split_ands); go_simp <;> with_reducible rfl)
                          (try simp only [Act.put, qA, qB, qC])
                          refine wpAnyH_take (i := 1) (oi := { dst := some 117, op := Op.move (Operand.tmp 116), type := 4, pos := "law.go:83", after := #[{ on := 0, ground := Ground.data }], guard := none }) (v := ?_) rfl (by kernel_rfl) (by kernel_rfl) (by kernel_rfl) (fun _ _ _ h => h) (Or.inl ⟨by rfl, ?_⟩) (by assumption) ?_
                          rotate_left
                          · (intro w hSw; (try dsimp only at hSw); (try have hcs := hcells w hSw); (try unfold Pc Rc at hcs); (try go_split_ands); go_simp <;> with_reducible rfl)
                          (try simp only [Act.put, qA, qB, qC])
                          refine wpAnyH_take (i := 2) (oi := { dst := some 118, op := Op.load 55 (Operand.tmp 7), type := 55, pos := "law.go:83", after := #[{ on := 1, ground := Ground.guard }], guard := some (1, false) }) (v := ?_) rfl (by kernel_rfl) (by kernel_rfl) (by kernel_rfl) (fun _ _ _ h => h) (Or.inl ⟨by rfl, ?_⟩) (by assumption) ?_
                          rotate_left
                          · (intro w hSw; (try dsimp only at hSw); (try have hcs := hcells w hSw); (try unfold Pc Rc at hcs); (try go_split_ands); go_simp <;> with_reducible rfl)
                          (try simp only [Act.put, qA, qB, qC])
                          refine wpAnyH_ready (rs := [3]) (by kernel_rfl) (by simp) ?_
                          refine AllReadyH.cons (o := { dst := some 119, op := Op.call { callee := Callee.value (Operand.func 26), args := #[Operand.tmp 118], argTypes := #[55] }, type := 4, pos := "law.go:83", after := #[{ on := 2, ground := Ground.data }, { on := 1, ground := Ground.chain }, { on := 1, ground := Ground.guard }], guard := some (1, false) }) rfl (fun K hK => ?_) AllReadyH.nil
                          go_simp
                          refine (CR _ (hgr _ hHeld)).mono ?_
                          rintro e w3 ⟨rfl, hg3⟩
                          (try go_wp2_with fail)
                          refine hK.out _ _ (by (try dsimp only); exact hcl _ _ hHeld (by first | with_reducible assumption | with_reducible exact IsGr.refl _ | with_reducible exact (IsGr.refl _).alloc _ | with_reducible exact ((IsGr.refl _).alloc _).alloc _ | assumption)) (fun hHeld2 => ?_)
                          clear hK K hHeld
                          have hHeld := hHeld2
                          clear hHeld2
                          (try simp only [Act.put, qA, qB, qC])
                          refine wpAnyH_take (i := 4) (oi := { dst := some 120, op := Op.unOp UnOp.not 4 (Operand.tmp 119), type := 4, pos := "law.go:83", after := #[{ on := 3, ground := Ground.data }, { on := 1, ground := Ground.guard }], guard := some (1, false) }) (v := ?_) rfl (by kernel_rfl) (by kernel_rfl) (by kernel_rfl) (fun _ _ _ h => h) (Or.inl ⟨by rfl, ?_⟩) (by assumption) ?_
                          rotate_left
                          · (intro w hSw; (try dsimp only at hSw); (try have hcs := hcells w hSw); (try unfold Pc Rc at hcs); (try go_split_ands); go_simp <;> with_reducible rfl)
                          (try simp only [Act.put, qA, qB, qC])
                          refine wpAnyH_take (i := 5) (oi := { dst := some 121, op := Op.pick (Operand.tmp 117) (Operand.const (Value.bool true)) (Operand.tmp 120), type := 4, pos := "law.go:83", after := #[{ on := 1, ground := Ground.data }, { on := 4, ground := Ground.data }], guard := none }) (v := ?_) rfl (by kernel_rfl) (by kernel_rfl) (by kernel_rfl) (fun _ _ _ h => h) (Or.inl ⟨by rfl, ?_⟩) (by assumption) ?_
                          rotate_left
                          · (intro w hSw; (try dsimp only at hSw); (try have hcs := hcells w hSw); (try unfold Pc Rc at hcs); (try go_split_ands); go_simp <;> with_reducible rfl)
                          (try simp only [Act.put, qA, qB, qC])
                          refine wpAnyH_take (i := 6) (oi := { dst := some 122, op := Op.move (Operand.tmp 121), type := 4, pos := "law.go:83", after := #[{ on := 5, ground := Ground.data }, { on := 3, ground := Ground.chain }], guard := none }) (v := ?_) rfl (by kernel_rfl) (by kernel_rfl) (by kernel_rfl) (fun _ _ _ h => h) (Or.inl ⟨by rfl, ?_⟩) (by assumption) ?_
                          rotate_left
                          · (intro w hSw; (try dsimp only at hSw); (try have hcs := hcells w hSw); (try unfold Pc Rc at hcs); (try go_split_ands); go_simp <;> with_reducible rfl)
                          (try simp only [Act.put, qA, qB, qC])
                          refine wpAnyH_take (i := 7) (oi := { dst := some 123, op := Op.load 24 (Operand.tmp 5), type := 24, pos := "law.go:83", after := #[{ on := 6, ground := Ground.guard }], guard := some (6, false) }) (v := ?_) rfl (by kernel_rfl) (by kernel_rfl) (by kernel_rfl) (fun _ _ _ h => h) (Or.inl ⟨by rfl, ?_⟩) (by assumption) ?_
                          rotate_left
                          · (intro w hSw; (try dsimp only at hSw); (try have hcs := hcells w hSw); (try unfold Pc Rc at hcs); (try go_split_ands); go_simp <;> with_reducible rfl)
                          (try simp only [Act.put, qA, qB, qC])
                          refine wpAnyH_take (i := 10) (oi := { dst := some 126, op := Op.load 55 (Operand.tmp 7), type := 55, pos := "law.go:83", after := #[{ on := 6, ground := Ground.guard }], guard := some (6, false) }) (v := ?_) rfl (by kernel_rfl) (by kernel_rfl) (by kernel_rfl) (fun _ _ _ h => h) (Or.inl ⟨by rfl, ?_⟩) (by assumption) ?_
                          rotate_left
                          · (intro w hSw; (try dsimp only at hSw); (try have hcs := hcells w hSw); (try unfold Pc Rc at hcs); (try go_split_ands); go_simp <;> with_reducible rfl)
                          (try simp only [Act.put, qA, qB, qC])
                          refine wpAnyH_ready (rs := [8]) (by kernel_rfl) (by simp) ?_
                          refine AllReadyH.cons (o := { dst := some 124, op := Op.call { callee := Callee.value (Operand.func 22), args := #[Operand.tmp 123], argTypes := #[24] }, type := 27, pos := "law.go:83", after := #[{ on := 7, ground := Ground.data }, { on := 6, ground := Ground.chain }, { on := 6, ground := Ground.guard }], guard := some (6, false) }) rfl (fun K hK => ?_) AllReadyH.nil
                          go_simp
                          refine (Fa _).mono ?_
                          rintro e w4 ⟨rfl, hg4⟩
                          (try go_wp2_with fail)
                          refine hK.out _ _ (by (try dsimp only); exact hcl _ _ hHeld (by first | with_reducible assumption | with_reducible exact IsGr.refl _ | with_reducible exact (IsGr.refl _).alloc _ | with_reducible exact ((IsGr.refl _).alloc _).alloc _ | assumption)) (fun hHeld2 => ?_)
                          clear hK K hHeld
                          have hHeld := hHeld2
                          clear hHeld2
                          (try simp only [Act.put, qA, qB, qC])
                          refine wpAnyH_ready (rs := [9]) (by kernel_rfl) (by simp) ?_
                          refine AllReadyH.cons (o := { dst := some 125, op := Op.call { callee := Callee.value (Operand.func 36), args := #[Operand.tmp 124], argTypes := #[27] }, type := 55, pos := "law.go:83", after := #[{ on := 8, ground := Ground.data }, { on := 8, ground := Ground.chain }, { on := 6, ground := Ground.guard }], guard := some (6, false) }) rfl (fun K hK => ?_) AllReadyH.nil
                          go_simp
                          refine (AA _).mono ?_
                          rintro e w5 ⟨v5, rfl, hv5, hg5⟩
                          (try go_wp2_with fail)
                          refine hK.out _ _ (by (try dsimp only); exact hcl _ _ hHeld (by first | with_reducible assumption | with_reducible exact IsGr.refl _ | with_reducible exact (IsGr.refl _).alloc _ | with_reducible exact ((IsGr.refl _).alloc _).alloc _ | assumption)) (fun hHeld2 => ?_)
                          clear hK K hHeld
                          have hHeld := hHeld2
                          clear hHeld2
                          (try simp only [Act.put, qA, qB, qC])
                          refine wpAnyH_ready (rs := [11]) (by kernel_rfl) (by simp) ?_
                          refine AllReadyH.cons (o := { dst := some 127, op := Op.call { callee := Callee.value (Operand.func 27), args := #[Operand.tmp 125, Operand.tmp 126], argTypes := #[55, 55] }, type := 3, pos := "law.go:83", after := #[{ on := 9, ground := Ground.data }, { on := 10, ground := Ground.data }, { on := 9, ground := Ground.chain }, { on := 6, ground := Ground.guard }], guard := some (6, false) }) rfl (fun K hK => ?_) AllReadyH.nil
                          go_simp
                          refine (CDA _ _ (hgr _ hHeld) hv5).mono ?_
                          rintro e w6 ⟨rfl, hg6⟩
                          (try go_wp2_with fail)
                          refine hK.out _ _ (by (try dsimp only); exact hcl _ _ hHeld (by first | with_reducible assumption | with_reducible exact IsGr.refl _ | with_reducible exact (IsGr.refl _).alloc _ | with_reducible exact ((IsGr.refl _).alloc _).alloc _ | assumption)) (fun hHeld2 => ?_)
                          clear hK K hHeld
                          have hHeld := hHeld2
                          clear hHeld2
                          (try simp only [Act.put, qA, qB, qC])
                          refine wpAnyH_take (i := 12) (oi := { dst := some 128, op := Op.binOp BinOp.neq 3 (Operand.tmp 127) (Operand.const (Value.int IntKind.i64 0)) 3, type := 4, pos := "law.go:83", after := #[{ on := 11, ground := Ground.data }, { on := 6, ground := Ground.guard }], guard := some (6, false) }) (v := ?_) rfl (by kernel_rfl) (by kernel_rfl) (by kernel_rfl) (fun _ _ _ h => h) (Or.inl ⟨by rfl, ?_⟩) (by assumption) ?_
                          rotate_left
                          · (intro w hSw; (try dsimp only at hSw); (try have hcs := hcells w hSw); (try unfold Pc Rc at hcs); (try go_split_ands); go_simp <;> with_reducible rfl)
                          (try simp only [Act.put, qA, qB, qC])
                          refine wpAnyH_take (i := 13) (oi := { dst := some 129, op := Op.pick (Operand.tmp 122) (Operand.const (Value.bool true)) (Operand.tmp 128), type := 4, pos := "law.go:83", after := #[{ on := 6, ground := Ground.data }, { on := 12, ground := Ground.data }], guard := none }) (v := ?_) rfl (by kernel_rfl) (by kernel_rfl) (by kernel_rfl) (fun _ _ _ h => h) (Or.inl ⟨by rfl, ?_⟩) (by assumption) ?_
                          rotate_left
                          · (intro w hSw; (try dsimp only at hSw); (try have hcs := hcells w hSw); (try unfold Pc Rc at hcs); (try go_split_ands); go_simp <;> with_reducible rfl)
                          (try simp only [Act.put, qA, qB, qC])
                          refine wpAnyH_take (i := 14) (oi := { dst := some 130, op := Op.move (Operand.tmp 129), type := 4, pos := "law.go:83", after := #[{ on := 13, ground := Ground.data }, { on := 11, ground := Ground.chain }], guard := none }) (v := ?_) rfl (by kernel_rfl) (by kernel_rfl) (by kernel_rfl) (fun _ _ _ h => h) (Or.inl ⟨by rfl, ?_⟩) (by assumption) ?_
                          rotate_left
                          · (intro w hSw; (try dsimp only at hSw); (try have hcs := hcells w hSw); (try unfold Pc Rc at hcs); (try go_split_ands); go_simp <;> with_reducible rfl)
                          (try simp only [Act.put, qA, qB, qC])
                          refine wpAnyH_ready (rs := [15]) (by kernel_rfl) (by simp) ?_
                          refine AllReadyH.cons (o := { dst := some 131, op := Op.call { callee := Callee.value (Operand.func 24), args := #[], argTypes := #[] }, type := 4, pos := "law.go:83", after := #[{ on := 14, ground := Ground.chain }, { on := 14, ground := Ground.guard }], guard := some (14, true) }) rfl (fun K hK => ?_) AllReadyH.nil
                          go_simp
                          refine (CA _).mono ?_
                          rintro e w7 ⟨rfl, hg7⟩
                          (try go_wp2_with fail)
                          refine hK.out _ _ (by (try dsimp only); exact hcl _ _ hHeld (by first | with_reducible assumption | with_reducible exact IsGr.refl _ | with_reducible exact (IsGr.refl _).alloc _ | with_reducible exact ((IsGr.refl _).alloc _).alloc _ | assumption)) (fun hHeld2 => ?_)
                          clear hK K hHeld
                          have hHeld := hHeld2
                          clear hHeld2
                          (try simp only [Act.put, qA, qB, qC])
                          refine wpAnyH_take (i := 16) (oi := { dst := some 132, op := Op.pick (Operand.tmp 130) (Operand.tmp 131) (Operand.const (Value.bool false)), type := 4, pos := "law.go:83", after := #[{ on := 14, ground := Ground.data }, { on := 15, ground := Ground.data }], guard := none }) (v := ?_) rfl (by kernel_rfl) (by kernel_rfl) (by kernel_rfl) (fun _ _ _ h => h) (Or.inl ⟨by rfl, ?_⟩) (by assumption) ?_
                          rotate_left
                          · (intro w hSw; (try dsimp only at hSw); (try have hcs := hcells w hSw); (try unfold Pc Rc at hcs); (try go_split_ands); go_simp <;> with_reducible rfl)
                          (try simp only [Act.put, qA, qB, qC])
                          refine wpAnyH_take (i := 17) (oi := { dst := some 6, op := Op.assign (Operand.tmp 132), type := 4, pos := "law.go:83", after := #[{ on := 16, ground := Ground.data }, { on := 15, ground := Ground.chain }, { on := 0, ground := Ground.phase }, { on := 1, ground := Ground.phase }, { on := 2, ground := Ground.phase }, { on := 3, ground := Ground.phase }, { on := 4, ground := Ground.phase }, { on := 5, ground := Ground.phase }, { on := 6, ground := Ground.phase }, { on := 7, ground := Ground.phase }, { on := 8, ground := Ground.phase }, { on := 9, ground := Ground.phase }, { on := 10, ground := Ground.phase }, { on := 11, ground := Ground.phase }, { on := 12, ground := Ground.phase }, { on := 13, ground := Ground.phase }, { on := 14, ground := Ground.phase }, { on := 15, ground := Ground.phase }, { on := 16, ground := Ground.phase }], guard := none }) (v := ?_) rfl (by kernel_rfl) (by kernel_rfl) (by kernel_rfl) (fun _ _ _ h => h) (Or.inl ⟨by rfl, ?_⟩) (by assumption) ?_
                          rotate_left
                          · (intro w hSw; (try dsimp only at hSw); (try have hcs := hcells w hSw); (try unfold Pc Rc at hcs); (try go_split_ands); go_simp <;> with_reducible rfl)
                          (try simp only [Act.put, qA, qB, qC])
                          refine wpAnyH_done (by kernel_rfl) ?_ _
                          have hg := hgr _ hHeld
                          clear hcells hin hcl hgr hHeld
                          go_wp2
                          go_ret
                          exact ⟨rfl, HG.out.trans hg⟩
                        · clear E8 ER
                          clear sp sq hA hW fx fy fz fu fv ft
                          go_upto_region 17 with fail
                          obtain ⟨C, hin, hcl, hcells, hgr⟩ : ∃ C : World → Prop, (∀ w', W10.heap.size ≤ w'.heap.size ∧ IsGr W10 w' ∧ Pc w' (w.heap.size + 1 + 1) a1 a2 ∧ Rc w' g7 xs xa xn xc ys ya yn yc zs za zn zc → C w') ∧ (∀ u u', C u → IsGr u u' → C u') ∧ (∀ w', C w' → Pc w' (w.heap.size + 1 + 1) a1 a2 ∧ Rc w' g7 xs xa xn xc ys ya yn yc zs za zn zc) ∧ (∀ w', C w' → IsGr W10 w') := by
                            refine ⟨fun w' => W10.heap.size ≤ w'.heap.size ∧ IsGr W10 w' ∧ Pc w' (w.heap.size + 1 + 1) a1 a2 ∧ Rc w' g7 xs xa xn xc ys ya yn yc zs za zn zc, fun w' h => h, ?_, fun w' h => h.2.2, fun w' h => h.2.1⟩
                            rintro u u' ⟨h0, h1, h2⟩ hg
                            exact ⟨Nat.le_trans h0 hg.size, h1.trans hg, h2.1.gr hg (by omega), h2.2.gr hg (by omega)⟩
                          refine wp_region_held_drew (S := C) (by kernel_rfl) (by (try dsimp only); exact hin _ ⟨by simp, (by with_reducible repeat (first | exact IsGr.refl _ | refine IsGr.gr ?_ _ _ | refine IsGr.alloc ?_ _ | refine IsGr.drew ?_ | refine IsGr.drewN ?_ _)), ⟨qb, q7⟩⟩) (fun hHeld => ?_)
                          refine wpAnyH_take (i := 0) (oi := { dst := some 116, op := Op.move (Operand.tmp 11), type := 4, pos := "law.go:83", after := #[], guard := none }) (v := ?_) rfl (by kernel_rfl) (by kernel_rfl) (by kernel_rfl) (fun _ _ _ h => h) (Or.inl ⟨by rfl, ?_⟩) (by assumption) ?_
                          rotate_left
                          · (intro w hSw; (try dsimp only at hSw); (try have hcs := hcells w hSw); (try unfold Pc Rc at hcs); (try go_split_ands); go_simp <;> with_reducible rfl)
                          (try simp only [Act.put, qA, qB, qC])
                          refine wpAnyH_take (i := 1) (oi := { dst := some 117, op := Op.move (Operand.tmp 116), type := 4, pos := "law.go:83", after := #[{ on := 0, ground := Ground.data }], guard := none }) (v := ?_) rfl (by kernel_rfl) (by kernel_rfl) (by kernel_rfl) (fun _ _ _ h => h) (Or.inl ⟨by rfl, ?_⟩) (by assumption) ?_
                          rotate_left
                          · (intro w hSw; (try dsimp only at hSw); (try have hcs := hcells w hSw); (try unfold Pc Rc at hcs); (try go_split_ands); go_simp <;> with_reducible rfl)
                          (try simp only [Act.put, qA, qB, qC])
                          refine wpAnyH_take (i := 2) (oi := { dst := some 118, op := Op.load 55 (Operand.tmp 7), type := 55, pos := "law.go:83", after := #[{ on := 1, ground := Ground.guard }], guard := some (1, false) }) (v := ?_) rfl (by kernel_rfl) (by kernel_rfl) (by kernel_rfl) (fun _ _ _ h => h) (Or.inl ⟨by rfl, ?_⟩) (by assumption) ?_
                          rotate_left
                          · (intro w hSw; (try dsimp only at hSw); (try have hcs := hcells w hSw); (try unfold Pc Rc at hcs); (try go_split_ands); go_simp <;> with_reducible rfl)
                          (try simp only [Act.put, qA, qB, qC])
                          refine wpAnyH_ready (rs := [3]) (by kernel_rfl) (by simp) ?_
                          refine AllReadyH.cons (o := { dst := some 119, op := Op.call { callee := Callee.value (Operand.func 26), args := #[Operand.tmp 118], argTypes := #[55] }, type := 4, pos := "law.go:83", after := #[{ on := 2, ground := Ground.data }, { on := 1, ground := Ground.chain }, { on := 1, ground := Ground.guard }], guard := some (1, false) }) rfl (fun K hK => ?_) AllReadyH.nil
                          go_simp
                          refine (CR _ (hgr _ hHeld)).mono ?_
                          rintro e w3 ⟨rfl, hg3⟩
                          (try go_wp2_with fail)
                          refine hK.out _ _ (by (try dsimp only); exact hcl _ _ hHeld (by first | with_reducible assumption | with_reducible exact IsGr.refl _ | with_reducible exact (IsGr.refl _).alloc _ | with_reducible exact ((IsGr.refl _).alloc _).alloc _ | assumption)) (fun hHeld2 => ?_)
                          clear hK K hHeld
                          have hHeld := hHeld2
                          clear hHeld2
                          (try simp only [Act.put, qA, qB, qC])
                          refine wpAnyH_take (i := 4) (oi := { dst := some 120, op := Op.unOp UnOp.not 4 (Operand.tmp 119), type := 4, pos := "law.go:83", after := #[{ on := 3, ground := Ground.data }, { on := 1, ground := Ground.guard }], guard := some (1, false) }) (v := ?_) rfl (by kernel_rfl) (by kernel_rfl) (by kernel_rfl) (fun _ _ _ h => h) (Or.inl ⟨by rfl, ?_⟩) (by assumption) ?_
                          rotate_left
                          · (intro w hSw; (try dsimp only at hSw); (try have hcs := hcells w hSw); (try unfold Pc Rc at hcs); (try go_split_ands); go_simp <;> with_reducible rfl)
                          (try simp only [Act.put, qA, qB, qC])
                          refine wpAnyH_take (i := 5) (oi := { dst := some 121, op := Op.pick (Operand.tmp 117) (Operand.const (Value.bool true)) (Operand.tmp 120), type := 4, pos := "law.go:83", after := #[{ on := 1, ground := Ground.data }, { on := 4, ground := Ground.data }], guard := none }) (v := ?_) rfl (by kernel_rfl) (by kernel_rfl) (by kernel_rfl) (fun _ _ _ h => h) (Or.inl ⟨by rfl, ?_⟩) (by assumption) ?_
                          rotate_left
                          · (intro w hSw; (try dsimp only at hSw); (try have hcs := hcells w hSw); (try unfold Pc Rc at hcs); (try go_split_ands); go_simp <;> with_reducible rfl)
                          (try simp only [Act.put, qA, qB, qC])
                          refine wpAnyH_take (i := 6) (oi := { dst := some 122, op := Op.move (Operand.tmp 121), type := 4, pos := "law.go:83", after := #[{ on := 5, ground := Ground.data }, { on := 3, ground := Ground.chain }], guard := none }) (v := ?_) rfl (by kernel_rfl) (by kernel_rfl) (by kernel_rfl) (fun _ _ _ h => h) (Or.inl ⟨by rfl, ?_⟩) (by assumption) ?_
                          rotate_left
                          · (intro w hSw; (try dsimp only at hSw); (try have hcs := hcells w hSw); (try unfold Pc Rc at hcs); (try go_split_ands); go_simp <;> with_reducible rfl)
                          (try simp only [Act.put, qA, qB, qC])
                          refine wpAnyH_take (i := 7) (oi := { dst := some 123, op := Op.load 24 (Operand.tmp 5), type := 24, pos := "law.go:83", after := #[{ on := 6, ground := Ground.guard }], guard := some (6, false) }) (v := ?_) rfl (by kernel_rfl) (by kernel_rfl) (by kernel_rfl) (fun _ _ _ h => h) (Or.inl ⟨by rfl, ?_⟩) (by assumption) ?_
                          rotate_left
                          · (intro w hSw; (try dsimp only at hSw); (try have hcs := hcells w hSw); (try unfold Pc Rc at hcs); (try go_split_ands); go_simp <;> with_reducible rfl)
                          (try simp only [Act.put, qA, qB, qC])
                          refine wpAnyH_take (i := 10) (oi := { dst := some 126, op := Op.load 55 (Operand.tmp 7), type := 55, pos := "law.go:83", after := #[{ on := 6, ground := Ground.guard }], guard := some (6, false) }) (v := ?_) rfl (by kernel_rfl) (by kernel_rfl) (by kernel_rfl) (fun _ _ _ h => h) (Or.inl ⟨by rfl, ?_⟩) (by assumption) ?_
                          rotate_left
                          · (intro w hSw; (try dsimp only at hSw); (try have hcs := hcells w hSw); (try unfold Pc Rc at hcs); (try go_split_ands); go_simp <;> with_reducible rfl)
                          (try simp only [Act.put, qA, qB, qC])
                          refine wpAnyH_ready (rs := [8]) (by kernel_rfl) (by simp) ?_
                          refine AllReadyH.cons (o := { dst := some 124, op := Op.call { callee := Callee.value (Operand.func 22), args := #[Operand.tmp 123], argTypes := #[24] }, type := 27, pos := "law.go:83", after := #[{ on := 7, ground := Ground.data }, { on := 6, ground := Ground.chain }, { on := 6, ground := Ground.guard }], guard := some (6, false) }) rfl (fun K hK => ?_) AllReadyH.nil
                          go_simp
                          refine (Fa _).mono ?_
                          rintro e w4 ⟨rfl, hg4⟩
                          (try go_wp2_with fail)
                          refine hK.out _ _ (by (try dsimp only); exact hcl _ _ hHeld (by first | with_reducible assumption | with_reducible exact IsGr.refl _ | with_reducible exact (IsGr.refl _).alloc _ | with_reducible exact ((IsGr.refl _).alloc _).alloc _ | assumption)) (fun hHeld2 => ?_)
                          clear hK K hHeld
                          have hHeld := hHeld2
                          clear hHeld2
                          (try simp only [Act.put, qA, qB, qC])
                          refine wpAnyH_ready (rs := [9]) (by kernel_rfl) (by simp) ?_
                          refine AllReadyH.cons (o := { dst := some 125, op := Op.call { callee := Callee.value (Operand.func 36), args := #[Operand.tmp 124], argTypes := #[27] }, type := 55, pos := "law.go:83", after := #[{ on := 8, ground := Ground.data }, { on := 8, ground := Ground.chain }, { on := 6, ground := Ground.guard }], guard := some (6, false) }) rfl (fun K hK => ?_) AllReadyH.nil
                          go_simp
                          refine (AA _).mono ?_
                          rintro e w5 ⟨v5, rfl, hv5, hg5⟩
                          (try go_wp2_with fail)
                          refine hK.out _ _ (by (try dsimp only); exact hcl _ _ hHeld (by first | with_reducible assumption | with_reducible exact IsGr.refl _ | with_reducible exact (IsGr.refl _).alloc _ | with_reducible exact ((IsGr.refl _).alloc _).alloc _ | assumption)) (fun hHeld2 => ?_)
                          clear hK K hHeld
                          have hHeld := hHeld2
                          clear hHeld2
                          (try simp only [Act.put, qA, qB, qC])
                          refine wpAnyH_ready (rs := [11]) (by kernel_rfl) (by simp) ?_
                          refine AllReadyH.cons (o := { dst := some 127, op := Op.call { callee := Callee.value (Operand.func 27), args := #[Operand.tmp 125, Operand.tmp 126], argTypes := #[55, 55] }, type := 3, pos := "law.go:83", after := #[{ on := 9, ground := Ground.data }, { on := 10, ground := Ground.data }, { on := 9, ground := Ground.chain }, { on := 6, ground := Ground.guard }], guard := some (6, false) }) rfl (fun K hK => ?_) AllReadyH.nil
                          go_simp
                          refine (CDA _ _ (hgr _ hHeld) hv5).mono ?_
                          rintro e w6 ⟨rfl, hg6⟩
                          (try go_wp2_with fail)
                          refine hK.out _ _ (by (try dsimp only); exact hcl _ _ hHeld (by first | with_reducible assumption | with_reducible exact IsGr.refl _ | with_reducible exact (IsGr.refl _).alloc _ | with_reducible exact ((IsGr.refl _).alloc _).alloc _ | assumption)) (fun hHeld2 => ?_)
                          clear hK K hHeld
                          have hHeld := hHeld2
                          clear hHeld2
                          (try simp only [Act.put, qA, qB, qC])
                          refine wpAnyH_take (i := 12) (oi := { dst := some 128, op := Op.binOp BinOp.neq 3 (Operand.tmp 127) (Operand.const (Value.int IntKind.i64 0)) 3, type := 4, pos := "law.go:83", after := #[{ on := 11, ground := Ground.data }, { on := 6, ground := Ground.guard }], guard := some (6, false) }) (v := ?_) rfl (by kernel_rfl) (by kernel_rfl) (by kernel_rfl) (fun _ _ _ h => h) (Or.inl ⟨by rfl, ?_⟩) (by assumption) ?_
                          rotate_left
                          · (intro w hSw; (try dsimp only at hSw); (try have hcs := hcells w hSw); (try unfold Pc Rc at hcs); (try go_split_ands); go_simp <;> with_reducible rfl)
                          (try simp only [Act.put, qA, qB, qC])
                          refine wpAnyH_take (i := 13) (oi := { dst := some 129, op := Op.pick (Operand.tmp 122) (Operand.const (Value.bool true)) (Operand.tmp 128), type := 4, pos := "law.go:83", after := #[{ on := 6, ground := Ground.data }, { on := 12, ground := Ground.data }], guard := none }) (v := ?_) rfl (by kernel_rfl) (by kernel_rfl) (by kernel_rfl) (fun _ _ _ h => h) (Or.inl ⟨by rfl, ?_⟩) (by assumption) ?_
                          rotate_left
                          · (intro w hSw; (try dsimp only at hSw); (try have hcs := hcells w hSw); (try unfold Pc Rc at hcs); (try go_split_ands); go_simp <;> with_reducible rfl)
                          (try simp only [Act.put, qA, qB, qC])
                          refine wpAnyH_take (i := 14) (oi := { dst := some 130, op := Op.move (Operand.tmp 129), type := 4, pos := "law.go:83", after := #[{ on := 13, ground := Ground.data }, { on := 11, ground := Ground.chain }], guard := none }) (v := ?_) rfl (by kernel_rfl) (by kernel_rfl) (by kernel_rfl) (fun _ _ _ h => h) (Or.inl ⟨by rfl, ?_⟩) (by assumption) ?_
                          rotate_left
                          · (intro w hSw; (try dsimp only at hSw); (try have hcs := hcells w hSw); (try unfold Pc Rc at hcs); (try go_split_ands); go_simp <;> with_reducible rfl)
                          (try simp only [Act.put, qA, qB, qC])
                          refine wpAnyH_ready (rs := [15]) (by kernel_rfl) (by simp) ?_
                          refine AllReadyH.cons (o := { dst := some 131, op := Op.call { callee := Callee.value (Operand.func 24), args := #[], argTypes := #[] }, type := 4, pos := "law.go:83", after := #[{ on := 14, ground := Ground.chain }, { on := 14, ground := Ground.guard }], guard := some (14, true) }) rfl (fun K hK => ?_) AllReadyH.nil
                          go_simp
                          refine (CA _).mono ?_
                          rintro e w7 ⟨rfl, hg7⟩
                          (try go_wp2_with fail)
                          refine hK.out _ _ (by (try dsimp only); exact hcl _ _ hHeld (by first | with_reducible assumption | with_reducible exact IsGr.refl _ | with_reducible exact (IsGr.refl _).alloc _ | with_reducible exact ((IsGr.refl _).alloc _).alloc _ | assumption)) (fun hHeld2 => ?_)
                          clear hK K hHeld
                          have hHeld := hHeld2
                          clear hHeld2
                          (try simp only [Act.put, qA, qB, qC])
                          refine wpAnyH_take (i := 16) (oi := { dst := some 132, op := Op.pick (Operand.tmp 130) (Operand.tmp 131) (Operand.const (Value.bool false)), type := 4, pos := "law.go:83", after := #[{ on := 14, ground := Ground.data }, { on := 15, ground := Ground.data }], guard := none }) (v := ?_) rfl (by kernel_rfl) (by kernel_rfl) (by kernel_rfl) (fun _ _ _ h => h) (Or.inl ⟨by rfl, ?_⟩) (by assumption) ?_
                          rotate_left
                          · (intro w hSw; (try dsimp only at hSw); (try have hcs := hcells w hSw); (try unfold Pc Rc at hcs); (try go_split_ands); go_simp <;> with_reducible rfl)
                          (try simp only [Act.put, qA, qB, qC])
                          refine wpAnyH_take (i := 17) (oi := { dst := some 6, op := Op.assign (Operand.tmp 132), type := 4, pos := "law.go:83", after := #[{ on := 16, ground := Ground.data }, { on := 15, ground := Ground.chain }, { on := 0, ground := Ground.phase }, { on := 1, ground := Ground.phase }, { on := 2, ground := Ground.phase }, { on := 3, ground := Ground.phase }, { on := 4, ground := Ground.phase }, { on := 5, ground := Ground.phase }, { on := 6, ground := Ground.phase }, { on := 7, ground := Ground.phase }, { on := 8, ground := Ground.phase }, { on := 9, ground := Ground.phase }, { on := 10, ground := Ground.phase }, { on := 11, ground := Ground.phase }, { on := 12, ground := Ground.phase }, { on := 13, ground := Ground.phase }, { on := 14, ground := Ground.phase }, { on := 15, ground := Ground.phase }, { on := 16, ground := Ground.phase }], guard := none }) (v := ?_) rfl (by kernel_rfl) (by kernel_rfl) (by kernel_rfl) (fun _ _ _ h => h) (Or.inl ⟨by rfl, ?_⟩) (by assumption) ?_
                          rotate_left
                          · (intro w hSw; (try dsimp only at hSw); (try have hcs := hcells w hSw); (try unfold Pc Rc at hcs); (try go_split_ands); go_simp <;> with_reducible rfl)
                          (try simp only [Act.put, qA, qB, qC])
                          refine wpAnyH_done (by kernel_rfl) ?_ _
                          have hg := hgr _ hHeld
                          clear hcells hin hcl hgr hHeld
                          go_wp2
                          go_ret
                          exact ⟨rfl, HG.out.trans hg⟩
end Go.Proofs.Ytohhlhoijanjfaa
