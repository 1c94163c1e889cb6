/- gromalaw03.PointIn: for every four points the law answers true. -/
import Derived.Test.YtecohcgcffhlnaaU12
import Derived.Test.YtecohcgcffhlnaaH4
namespace Go.Proofs.Ytecohcgcffhlnaa
open Go.RowKit Go.Shelf
attribute [local go_sem] Gr.size Gr.cell? Gr.frozen? Gr.setCell Gr.drew Gr.drewN Gr.of_drew Gr.of_drewN Gr.gr Gr.lt_of1 Gr.le_of1 Gr.lt_of2 Gr.le_of2 Gr.lt_of3 Gr.le_of3 Gr.lt_of4 Gr.le_of4 Gr.lt_of5 Gr.le_of5 Gr.lt_of6 Gr.le_of6 Gr.lt_of7 Gr.le_of7 Gr.lt_of8 Gr.le_of8 Gr.lt_of9 Gr.le_of9 Gr.lt_of10 Gr.le_of10 Gr.lt_of11 Gr.le_of11 Gr.lt_of12 Gr.le_of12 Gr.lt_of13 Gr.le_of13 Gr.lt_of14 Gr.le_of14 Gr.lt_of15 Gr.le_of15 Gr.lt_of16 Gr.le_of16 Gr.lt_of17 Gr.le_of17 Gr.lt_of18 Gr.le_of18 Gr.lt_of19 Gr.le_of19 Gr.lt_of20 Gr.le_of20 Gr.lt_of21 Gr.le_of21 Gr.lt_of22 Gr.le_of22 Gr.lt_of23 Gr.le_of23 Gr.lt_of24 Gr.le_of24

/-- A box with a point in it. -/
def PtAt (w : World) (v : Value) (x y : Int) : Prop := ∃ g : Nat, v = .pointer (some ⟨g, 0, none⟩) ∧ g < w.heap.size ∧ w.cell? ⟨g, 0, none⟩ = some (.int .i64 x) ∧ w.cell? ⟨g, 1, none⟩ = some (.int .i64 y)
theorem PtAt.of {w : World} {T : TypeId} {v u : Value} {x y : Int} (h : ∃ c0 c1 : Value, u = .agg #[c0, c1] ∧ Hx w T v c0 c1) (hu : u = .agg #[.int .i64 x, .int .i64 y]) : PtAt w v x y := by
  obtain ⟨c0, c1, rfl, b, rfl, hb⟩ := h
  simp at hu
  obtain ⟨rfl, rfl⟩ := hu
  obtain ⟨k1, k2, k3, _, _⟩ := block_cells hb
  exact ⟨b, rfl, k1, k2, k3⟩
theorem pt_cells {v : Value} {x y : Int} (h : v = .agg #[.int .i64 x, .int .i64 y]) : ∃ z0 z1 : Value, v = .agg #[z0, z1] ∧ ptCells z0 z1 := ⟨_, _, h, x, y, rfl, rfl⟩


set_option maxRecDepth 20000 in set_option maxHeartbeats 3000000 in
theorem law_in (a1 a2 b1 b2 c1 c2 p1 p2 : Int) (w : World) :
    Calls Try.prog 6 #[.agg #[.int .i64 a1, .int .i64 a2, .int .i64 b1, .int .i64 b2, .int .i64 c1, .int .i64 c2, .int .i64 p1, .int .i64 p2]] w fun e w' => e = .returned (.bool true) ∧ IsGr w w' := by
  have CI := fun w => In_any a1 a2 b1 b2 c1 c2 p1 p2 w
  have CJ := fun w => refIn_any a1 a2 b1 b2 c1 c2 p1 p2 w
  have CF := fun w => Facing_any a1 a2 b1 b2 c1 c2 p1 p2 w
  have CG := fun w => refFacing_any a1 a2 b1 b2 c1 c2 p1 p2 w
  have CH := fun w => Facing_any c1 c2 p1 p2 b1 b2 a1 a2 w
  rw [facingP_turn] at CH
  have Ra := fun w => pref_any a1 a2 w
  have Rb := fun w => pref_any b1 b2 w
  have Rc := fun w => pref_any c1 c2 w
  have Rp := fun w => pref_any p1 p2 w
  have CA := fun w => awake3_any w
  generalize inP a1 a2 b1 b2 c1 c2 p1 p2 = I at *
  generalize facingP a1 a2 b1 b2 c1 c2 p1 p2 = F at *
  go_enter Try.func6, Try.ntmps6
  go_upto_region 0 with fail
  go_cut [1, 2] (fun t1 t2 wr => t1 = .pointer (some ⟨w.heap.size, 0, none⟩) ∧ t2 = .bool false ∧ w.heap.size < wr.heap.size ∧ (wr.cell? ⟨w.heap.size, 0, none⟩ = some (.int .i64 a1) ∧ wr.cell? ⟨w.heap.size, 1, none⟩ = some (.int .i64 a2) ∧ wr.cell? ⟨w.heap.size, 2, none⟩ = some (.int .i64 b1) ∧ wr.cell? ⟨w.heap.size, 3, none⟩ = some (.int .i64 b2) ∧ wr.cell? ⟨w.heap.size, 4, none⟩ = some (.int .i64 c1) ∧ wr.cell? ⟨w.heap.size, 5, none⟩ = some (.int .i64 c2) ∧ wr.cell? ⟨w.heap.size, 6, none⟩ = some (.int .i64 p1) ∧ wr.cell? ⟨w.heap.size, 7, none⟩ = some (.int .i64 p2)) ∧ IsGr w wr)
  case first =>
    go_wp2
    go_meet
    case rel =>
      refine ⟨rfl, rfl, ?_, ?_, (by with_reducible repeat (first | exact IsGr.refl _ | refine IsGr.gr ?_ _ _ | refine IsGr.alloc ?_ _ | refine IsGr.drew ?_ | refine IsGr.drewN ?_ _))⟩
      · simp
      · simp [go_sem]
  case rest =>
    obtain ⟨rfl, rfl, k0, ⟨z0, z1, z2, z3, z4, z5, z6, z7⟩, hg0⟩ := hcut
    obtain ⟨W1, hW9⟩ : ∃ W1, W1 = wc := ⟨_, rfl⟩
    subst hW9
    have HG : Hid (IsGr w W1) := hg0
    have SO : ∀ w', IsGr W1 w' → (fun w' => w'.cell? ⟨w.heap.size, 0, none⟩ = some (.int .i64 a1) ∧ w'.cell? ⟨w.heap.size, 1, none⟩ = some (.int .i64 a2) ∧ w'.cell? ⟨w.heap.size, 2, none⟩ = some (.int .i64 b1) ∧ w'.cell? ⟨w.heap.size, 3, none⟩ = some (.int .i64 b2) ∧ w'.cell? ⟨w.heap.size, 4, none⟩ = some (.int .i64 c1) ∧ w'.cell? ⟨w.heap.size, 5, none⟩ = some (.int .i64 c2) ∧ w'.cell? ⟨w.heap.size, 6, none⟩ = some (.int .i64 p1) ∧ w'.cell? ⟨w.heap.size, 7, none⟩ = some (.int .i64 p2)) w' := fun w' hg => ⟨hg.cell_at k0 z0, hg.cell_at k0 z1, hg.cell_at k0 z2, hg.cell_at k0 z3, hg.cell_at k0 z4, hg.cell_at k0 z5, hg.cell_at k0 z6, hg.cell_at k0 z7⟩
    clear hg0 z0 z1 z2 z3 z4 z5 z6 z7
    go_upto_region 1 with fail
    go_cut [3, 4, 5, 6] (fun t3 t4 t5 t6 wr => PtAt wr t3 a1 a2 ∧ PtAt wr t4 b1 b2 ∧ PtAt wr t5 c1 c2 ∧ PtAt wr t6 p1 p2 ∧ IsGr W1 wr)
    case first =>
      clear CI CJ CF CG CH CA
      refine wp_region_held_drew (S := (fun w' => w'.cell? ⟨w.heap.size, 0, none⟩ = some (.int .i64 a1) ∧ w'.cell? ⟨w.heap.size, 1, none⟩ = some (.int .i64 a2) ∧ w'.cell? ⟨w.heap.size, 2, none⟩ = some (.int .i64 b1) ∧ w'.cell? ⟨w.heap.size, 3, none⟩ = some (.int .i64 b2) ∧ w'.cell? ⟨w.heap.size, 4, none⟩ = some (.int .i64 c1) ∧ w'.cell? ⟨w.heap.size, 5, none⟩ = some (.int .i64 c2) ∧ w'.cell? ⟨w.heap.size, 6, none⟩ = some (.int .i64 p1) ∧ w'.cell? ⟨w.heap.size, 7, none⟩ = some (.int .i64 p2))) (by kernel_rfl) (by (try dsimp only); exact SO _ (by with_reducible repeat (first | exact IsGr.refl _ | refine IsGr.gr ?_ _ _ | refine IsGr.alloc ?_ _ | refine IsGr.drew ?_ | refine IsGr.drewN ?_ _))) (fun hHeld => ?_)
      refine wpAnyH_take (i := 0) (oi := { dst := some 7, op := Op.fieldAddr 52 (Operand.tmp 1) 0, type := 0, pos := "law.go:51", after := #[], guard := none }) (v := ?_) rfl (by kernel_rfl) (by kernel_rfl) (by kernel_rfl) (fun _ _ _ h => h) (Or.inl ⟨by rfl, ?_⟩) (by assumption) ?_
      rotate_left
      · (intro w hSw; (try dsimp only at hSw); go_simp <;> with_reducible rfl)
      (try simp only [Act.put, List.setIfInBounds_toArray, List.set_cons_zero, List.set_cons_succ])
      refine wpAnyH_take (i := 1) (oi := { dst := some 8, op := Op.load 50 (Operand.tmp 7), type := 50, pos := "law.go:51", after := #[{ on := 0, ground := Ground.data }], guard := none }) (v := ?_) rfl (by kernel_rfl) (by kernel_rfl) (by kernel_rfl) (fun _ _ _ h => h) (Or.inl ⟨by rfl, ?_⟩) (by assumption) ?_
      rotate_left
      · (intro w hSw; (try dsimp only at hSw); go_simp <;> with_reducible rfl)
      (try simp only [Act.put, List.setIfInBounds_toArray, List.set_cons_zero, List.set_cons_succ])
      refine wpAnyH_take (i := 3) (oi := { dst := some 10, op := Op.fieldAddr 52 (Operand.tmp 1) 1, type := 0, pos := "law.go:51", after := #[], guard := none }) (v := ?_) rfl (by kernel_rfl) (by kernel_rfl) (by kernel_rfl) (fun _ _ _ h => h) (Or.inl ⟨by rfl, ?_⟩) (by assumption) ?_
      rotate_left
      · (intro w hSw; (try dsimp only at hSw); go_simp <;> with_reducible rfl)
      (try simp only [Act.put, List.setIfInBounds_toArray, List.set_cons_zero, List.set_cons_succ])
      refine wpAnyH_take (i := 4) (oi := { dst := some 11, op := Op.load 50 (Operand.tmp 10), type := 50, pos := "law.go:51", after := #[{ on := 3, ground := Ground.data }], guard := none }) (v := ?_) rfl (by kernel_rfl) (by kernel_rfl) (by kernel_rfl) (fun _ _ _ h => h) (Or.inl ⟨by rfl, ?_⟩) (by assumption) ?_
      rotate_left
      · (intro w hSw; (try dsimp only at hSw); go_simp <;> with_reducible rfl)
      (try simp only [Act.put, List.setIfInBounds_toArray, List.set_cons_zero, List.set_cons_succ])
      refine wpAnyH_take (i := 6) (oi := { dst := some 13, op := Op.fieldAddr 52 (Operand.tmp 1) 2, type := 0, pos := "law.go:51", after := #[], guard := none }) (v := ?_) rfl (by kernel_rfl) (by kernel_rfl) (by kernel_rfl) (fun _ _ _ h => h) (Or.inl ⟨by rfl, ?_⟩) (by assumption) ?_
      rotate_left
      · (intro w hSw; (try dsimp only at hSw); go_simp <;> with_reducible rfl)
      (try simp only [Act.put, List.setIfInBounds_toArray, List.set_cons_zero, List.set_cons_succ])
      refine wpAnyH_take (i := 7) (oi := { dst := some 14, op := Op.load 50 (Operand.tmp 13), type := 50, pos := "law.go:51", after := #[{ on := 6, ground := Ground.data }], guard := none }) (v := ?_) rfl (by kernel_rfl) (by kernel_rfl) (by kernel_rfl) (fun _ _ _ h => h) (Or.inl ⟨by rfl, ?_⟩) (by assumption) ?_
      rotate_left
      · (intro w hSw; (try dsimp only at hSw); go_simp <;> with_reducible rfl)
      (try simp only [Act.put, List.setIfInBounds_toArray, List.set_cons_zero, List.set_cons_succ])
      refine wpAnyH_take (i := 9) (oi := { dst := some 16, op := Op.fieldAddr 52 (Operand.tmp 1) 3, type := 0, pos := "law.go:51", after := #[], guard := none }) (v := ?_) rfl (by kernel_rfl) (by kernel_rfl) (by kernel_rfl) (fun _ _ _ h => h) (Or.inl ⟨by rfl, ?_⟩) (by assumption) ?_
      rotate_left
      · (intro w hSw; (try dsimp only at hSw); go_simp <;> with_reducible rfl)
      (try simp only [Act.put, List.setIfInBounds_toArray, List.set_cons_zero, List.set_cons_succ])
      refine wpAnyH_take (i := 10) (oi := { dst := some 17, op := Op.load 50 (Operand.tmp 16), type := 50, pos := "law.go:51", after := #[{ on := 9, ground := Ground.data }], guard := none }) (v := ?_) rfl (by kernel_rfl) (by kernel_rfl) (by kernel_rfl) (fun _ _ _ h => h) (Or.inl ⟨by rfl, ?_⟩) (by assumption) ?_
      rotate_left
      · (intro w hSw; (try dsimp only at hSw); go_simp <;> with_reducible rfl)
      (try simp only [Act.put, List.setIfInBounds_toArray, List.set_cons_zero, List.set_cons_succ])
      refine wpAnyH_invA [2, 5, 8, 11, 12, 13, 14, 15, 16, 17, 18, 19] (fun A D a w => ∃ t2 t5 t8 t11 t12 t13 t14 t15 : Value, a = ((((((((A.put (some 9) t2).put (some 12) t5).put (some 15) t8).put (some 18) t11).put (some 3) t12).put (some 4) t13).put (some 5) t14).put (some 6) t15) ∧ IsGr W1 w ∧ (D 2 → t2 = .agg #[.int .i64 a1, .int .i64 a2]) ∧ (D 5 → t5 = .agg #[.int .i64 b1, .int .i64 b2]) ∧ (D 8 → t8 = .agg #[.int .i64 c1, .int .i64 c2]) ∧ (D 11 → t11 = .agg #[.int .i64 p1, .int .i64 p2]) ∧ (D 12 → Bx W1 w 55 ptCells t12) ∧ (D 13 → Bx W1 w 55 ptCells t13) ∧ (D 14 → Bx W1 w 55 ptCells t14) ∧ (D 15 → Bx W1 w 55 ptCells t15) ∧ (D 12 → D 13 → t12 ≠ t13) ∧ (D 12 → D 14 → t12 ≠ t14) ∧ (D 12 → D 15 → t12 ≠ t15) ∧ (D 13 → D 14 → t13 ≠ t14) ∧ (D 13 → D 15 → t13 ≠ t15) ∧ (D 14 → D 15 → t14 ≠ t15) ∧ (D 16 → D 12 ∧ D 2 ∧ ∃ c0 c1 : Value, t2 = .agg #[c0, c1] ∧ Hx w 55 t12 c0 c1) ∧ (D 17 → D 13 ∧ D 5 ∧ ∃ c0 c1 : Value, t5 = .agg #[c0, c1] ∧ Hx w 55 t13 c0 c1) ∧ (D 18 → D 14 ∧ D 8 ∧ ∃ c0 c1 : Value, t8 = .agg #[c0, c1] ∧ Hx w 55 t14 c0 c1) ∧ (D 19 → D 15 ∧ D 11 ∧ ∃ c0 c1 : Value, t11 = .agg #[c0, c1] ∧ Hx w 55 t15 c0 c1)) (by kernel_rfl) (by assumption) ?_ ?_ ?_
      · exact ⟨_, _, _, _, _, _, _, _, by (simp only [Act.put, List.setIfInBounds_toArray, List.set_cons_zero, List.set_cons_succ]); try rfl, (by with_reducible repeat (first | exact IsGr.refl _ | refine IsGr.gr ?_ _ _ | refine IsGr.alloc ?_ _ | refine IsGr.drew ?_ | refine IsGr.drewN ?_ _)), fun h => h.elim, fun h => h.elim, fun h => h.elim, fun h => h.elim, fun h => h.elim, fun h => h.elim, fun h => h.elim, fun h => h.elim, fun h => h.elim, fun h => h.elim, fun h => h.elim, fun h => h.elim, fun h => h.elim, fun h => h.elim, fun h => h.elim, fun h => h.elim, fun h => h.elim, fun h => h.elim⟩
      · intro D a w hD hF hSw
        obtain ⟨t2, t5, t8, t11, t12, t13, t14, t15, ha, hg, f2, f5, f8, f11, b12, b13, b14, b15, p12_13, p12_14, p12_15, p13_14, p13_15, p14_15, h16, h17, h18, h19⟩ := hF
        subst ha
        (try simp only [Act.put, List.setIfInBounds_toArray, List.set_cons_zero, List.set_cons_succ])
        have hh16 := (h16 (hD 16 (by simp))).2.2
        have hh17 := (h17 (hD 17 (by simp))).2.2
        have hh18 := (h18 (hD 18 (by simp))).2.2
        have hh19 := (h19 (hD 19 (by simp))).2.2
        have A1 := PtAt.of hh16 (f2 (hD 2 (by simp)))
        have A2 := PtAt.of hh17 (f5 (hD 5 (by simp)))
        have A3 := PtAt.of hh18 (f8 (hD 8 (by simp)))
        have A4 := PtAt.of hh19 (f11 (hD 11 (by simp)))
        clear f2 f5 f8 f11 b12 b13 b14 b15 p12_13 p12_14 p12_15 p13_14 p13_15 p14_15 h16 h17 h18 h19 hh16 hh17 hh18 hh19 hD hSw
        go_wp2
        go_meet
        case rel => exact ⟨A1, A2, A3, A4, hg⟩
      refine StepI.cons (i := 2) (o := { dst := some 9, op := Op.call { callee := Callee.value (Operand.func 29), args := #[Operand.tmp 8], argTypes := #[50] }, type := 55, pos := "law.go:51", after := #[{ on := 1, ground := Ground.data }], guard := none }) (ns := []) rfl (by kernel_rfl) (fun D a w nD hn hF hSw K hK => ?_) ?_
      · obtain ⟨t2, t5, t8, t11, t12, t13, t14, t15, ha, hg, f2, f5, f8, f11, b12, b13, b14, b15, p12_13, p12_14, p12_15, p13_14, p13_15, p14_15, h16, h17, h18, h19⟩ := hF
        subst ha
        (try simp only [Act.put, List.setIfInBounds_toArray, List.set_cons_zero, List.set_cons_succ])
        go_simp
        refine (Ra _).mono ?_
        rintro e w1 ⟨rfl, hg1⟩
        (try go_wp2_with fail)
        refine hK.out _ _ (SO _ (hg.trans hg1)) (fun _ => ?_)
        refine ⟨.agg #[.int .i64 a1, .int .i64 a2], t5, t8, t11, t12, t13, t14, t15, by (simp only [Act.put, List.setIfInBounds_toArray, List.set_cons_zero, List.set_cons_succ]); try rfl, (hg.trans hg1), ?_, ?_, ?_, ?_, ?_, ?_, ?_, ?_, ?_, ?_, ?_, ?_, ?_, ?_, ?_, ?_, ?_, ?_⟩
        · exact fun _ => rfl
        · exact fun h => f5 (Or.resolve_left h (by decide))
        · exact fun h => f8 (Or.resolve_left h (by decide))
        · exact fun h => f11 (Or.resolve_left h (by decide))
        · exact fun h => (b12 (Or.resolve_left h (by decide))).gr hg1
        · exact fun h => (b13 (Or.resolve_left h (by decide))).gr hg1
        · exact fun h => (b14 (Or.resolve_left h (by decide))).gr hg1
        · exact fun h => (b15 (Or.resolve_left h (by decide))).gr hg1
        · exact fun h h' => p12_13 (Or.resolve_left h (by decide)) (Or.resolve_left h' (by decide))
        · exact fun h h' => p12_14 (Or.resolve_left h (by decide)) (Or.resolve_left h' (by decide))
        · exact fun h h' => p12_15 (Or.resolve_left h (by decide)) (Or.resolve_left h' (by decide))
        · exact fun h h' => p13_14 (Or.resolve_left h (by decide)) (Or.resolve_left h' (by decide))
        · exact fun h h' => p13_15 (Or.resolve_left h (by decide)) (Or.resolve_left h' (by decide))
        · exact fun h h' => p14_15 (Or.resolve_left h (by decide)) (Or.resolve_left h' (by decide))
        · exact fun h => absurd (h16 (Or.resolve_left h (by decide))).2.1 nD
        · exact fun h => (h17 (Or.resolve_left h (by decide))).imp Or.inr (fun ⟨x1, c0, c1, x2, x3⟩ => ⟨Or.inr x1, c0, c1, x2, x3.gr hg1⟩)
        · exact fun h => (h18 (Or.resolve_left h (by decide))).imp Or.inr (fun ⟨x1, c0, c1, x2, x3⟩ => ⟨Or.inr x1, c0, c1, x2, x3.gr hg1⟩)
        · exact fun h => (h19 (Or.resolve_left h (by decide))).imp Or.inr (fun ⟨x1, c0, c1, x2, x3⟩ => ⟨Or.inr x1, c0, c1, x2, x3.gr hg1⟩)
      refine StepI.cons (i := 5) (o := { dst := some 12, op := Op.call { callee := Callee.value (Operand.func 29), args := #[Operand.tmp 11], argTypes := #[50] }, type := 55, pos := "law.go:51", after := #[{ on := 4, ground := Ground.data }, { on := 2, ground := Ground.chain }], guard := none }) (ns := [2]) rfl (by kernel_rfl) (fun D a w nD hn hF hSw K hK => ?_) ?_
      · obtain ⟨t2, t5, t8, t11, t12, t13, t14, t15, ha, hg, f2, f5, f8, f11, b12, b13, b14, b15, p12_13, p12_14, p12_15, p13_14, p13_15, p14_15, h16, h17, h18, h19⟩ := hF
        have d2 : D 2 := hn 2 (by simp)
        subst ha
        (try simp only [Act.put, List.setIfInBounds_toArray, List.set_cons_zero, List.set_cons_succ])
        go_simp
        refine (Rb _).mono ?_
        rintro e w1 ⟨rfl, hg1⟩
        (try go_wp2_with fail)
        refine hK.out _ _ (SO _ (hg.trans hg1)) (fun _ => ?_)
        refine ⟨t2, .agg #[.int .i64 b1, .int .i64 b2], t8, t11, t12, t13, t14, t15, by (simp only [Act.put, List.setIfInBounds_toArray, List.set_cons_zero, List.set_cons_succ]); try rfl, (hg.trans hg1), ?_, ?_, ?_, ?_, ?_, ?_, ?_, ?_, ?_, ?_, ?_, ?_, ?_, ?_, ?_, ?_, ?_, ?_⟩
        · exact fun h => f2 (Or.resolve_left h (by decide))
        · exact fun _ => rfl
        · exact fun h => f8 (Or.resolve_left h (by decide))
        · exact fun h => f11 (Or.resolve_left h (by decide))
        · exact fun h => (b12 (Or.resolve_left h (by decide))).gr hg1
        · exact fun h => (b13 (Or.resolve_left h (by decide))).gr hg1
        · exact fun h => (b14 (Or.resolve_left h (by decide))).gr hg1
        · exact fun h => (b15 (Or.resolve_left h (by decide))).gr hg1
        · exact fun h h' => p12_13 (Or.resolve_left h (by decide)) (Or.resolve_left h' (by decide))
        · exact fun h h' => p12_14 (Or.resolve_left h (by decide)) (Or.resolve_left h' (by decide))
        · exact fun h h' => p12_15 (Or.resolve_left h (by decide)) (Or.resolve_left h' (by decide))
        · exact fun h h' => p13_14 (Or.resolve_left h (by decide)) (Or.resolve_left h' (by decide))
        · exact fun h h' => p13_15 (Or.resolve_left h (by decide)) (Or.resolve_left h' (by decide))
        · exact fun h h' => p14_15 (Or.resolve_left h (by decide)) (Or.resolve_left h' (by decide))
        · exact fun h => (h16 (Or.resolve_left h (by decide))).imp Or.inr (fun ⟨x1, c0, c1, x2, x3⟩ => ⟨Or.inr x1, c0, c1, x2, x3.gr hg1⟩)
        · exact fun h => absurd (h17 (Or.resolve_left h (by decide))).2.1 nD
        · exact fun h => (h18 (Or.resolve_left h (by decide))).imp Or.inr (fun ⟨x1, c0, c1, x2, x3⟩ => ⟨Or.inr x1, c0, c1, x2, x3.gr hg1⟩)
        · exact fun h => (h19 (Or.resolve_left h (by decide))).imp Or.inr (fun ⟨x1, c0, c1, x2, x3⟩ => ⟨Or.inr x1, c0, c1, x2, x3.gr hg1⟩)
      refine StepI.cons (i := 8) (o := { dst := some 15, op := Op.call { callee := Callee.value (Operand.func 29), args := #[Operand.tmp 14], argTypes := #[50] }, type := 55, pos := "law.go:51", after := #[{ on := 7, ground := Ground.data }, { on := 5, ground := Ground.chain }], guard := none }) (ns := [5]) rfl (by kernel_rfl) (fun D a w nD hn hF hSw K hK => ?_) ?_
      · obtain ⟨t2, t5, t8, t11, t12, t13, t14, t15, ha, hg, f2, f5, f8, f11, b12, b13, b14, b15, p12_13, p12_14, p12_15, p13_14, p13_15, p14_15, h16, h17, h18, h19⟩ := hF
        have d5 : D 5 := hn 5 (by simp)
        subst ha
        (try simp only [Act.put, List.setIfInBounds_toArray, List.set_cons_zero, List.set_cons_succ])
        go_simp
        refine (Rc _).mono ?_
        rintro e w1 ⟨rfl, hg1⟩
        (try go_wp2_with fail)
        refine hK.out _ _ (SO _ (hg.trans hg1)) (fun _ => ?_)
        refine ⟨t2, t5, .agg #[.int .i64 c1, .int .i64 c2], t11, t12, t13, t14, t15, by (simp only [Act.put, List.setIfInBounds_toArray, List.set_cons_zero, List.set_cons_succ]); try rfl, (hg.trans hg1), ?_, ?_, ?_, ?_, ?_, ?_, ?_, ?_, ?_, ?_, ?_, ?_, ?_, ?_, ?_, ?_, ?_, ?_⟩
        · exact fun h => f2 (Or.resolve_left h (by decide))
        · exact fun h => f5 (Or.resolve_left h (by decide))
        · exact fun _ => rfl
        · exact fun h => f11 (Or.resolve_left h (by decide))
        · exact fun h => (b12 (Or.resolve_left h (by decide))).gr hg1
        · exact fun h => (b13 (Or.resolve_left h (by decide))).gr hg1
        · exact fun h => (b14 (Or.resolve_left h (by decide))).gr hg1
        · exact fun h => (b15 (Or.resolve_left h (by decide))).gr hg1
        · exact fun h h' => p12_13 (Or.resolve_left h (by decide)) (Or.resolve_left h' (by decide))
        · exact fun h h' => p12_14 (Or.resolve_left h (by decide)) (Or.resolve_left h' (by decide))
        · exact fun h h' => p12_15 (Or.resolve_left h (by decide)) (Or.resolve_left h' (by decide))
        · exact fun h h' => p13_14 (Or.resolve_left h (by decide)) (Or.resolve_left h' (by decide))
        · exact fun h h' => p13_15 (Or.resolve_left h (by decide)) (Or.resolve_left h' (by decide))
        · exact fun h h' => p14_15 (Or.resolve_left h (by decide)) (Or.resolve_left h' (by decide))
        · exact fun h => (h16 (Or.resolve_left h (by decide))).imp Or.inr (fun ⟨x1, c0, c1, x2, x3⟩ => ⟨Or.inr x1, c0, c1, x2, x3.gr hg1⟩)
        · exact fun h => (h17 (Or.resolve_left h (by decide))).imp Or.inr (fun ⟨x1, c0, c1, x2, x3⟩ => ⟨Or.inr x1, c0, c1, x2, x3.gr hg1⟩)
        · exact fun h => absurd (h18 (Or.resolve_left h (by decide))).2.1 nD
        · exact fun h => (h19 (Or.resolve_left h (by decide))).imp Or.inr (fun ⟨x1, c0, c1, x2, x3⟩ => ⟨Or.inr x1, c0, c1, x2, x3.gr hg1⟩)
      refine StepI.cons (i := 11) (o := { dst := some 18, op := Op.call { callee := Callee.value (Operand.func 29), args := #[Operand.tmp 17], argTypes := #[50] }, type := 55, pos := "law.go:51", after := #[{ on := 10, ground := Ground.data }, { on := 8, ground := Ground.chain }], guard := none }) (ns := [8]) rfl (by kernel_rfl) (fun D a w nD hn hF hSw K hK => ?_) ?_
      · obtain ⟨t2, t5, t8, t11, t12, t13, t14, t15, ha, hg, f2, f5, f8, f11, b12, b13, b14, b15, p12_13, p12_14, p12_15, p13_14, p13_15, p14_15, h16, h17, h18, h19⟩ := hF
        have d8 : D 8 := hn 8 (by simp)
        subst ha
        (try simp only [Act.put, List.setIfInBounds_toArray, List.set_cons_zero, List.set_cons_succ])
        go_simp
        refine (Rp _).mono ?_
        rintro e w1 ⟨rfl, hg1⟩
        (try go_wp2_with fail)
        refine hK.out _ _ (SO _ (hg.trans hg1)) (fun _ => ?_)
        refine ⟨t2, t5, t8, .agg #[.int .i64 p1, .int .i64 p2], t12, t13, t14, t15, by (simp only [Act.put, List.setIfInBounds_toArray, List.set_cons_zero, List.set_cons_succ]); try rfl, (hg.trans hg1), ?_, ?_, ?_, ?_, ?_, ?_, ?_, ?_, ?_, ?_, ?_, ?_, ?_, ?_, ?_, ?_, ?_, ?_⟩
        · exact fun h => f2 (Or.resolve_left h (by decide))
        · exact fun h => f5 (Or.resolve_left h (by decide))
        · exact fun h => f8 (Or.resolve_left h (by decide))
        · exact fun _ => rfl
        · exact fun h => (b12 (Or.resolve_left h (by decide))).gr hg1
        · exact fun h => (b13 (Or.resolve_left h (by decide))).gr hg1
        · exact fun h => (b14 (Or.resolve_left h (by decide))).gr hg1
        · exact fun h => (b15 (Or.resolve_left h (by decide))).gr hg1
        · exact fun h h' => p12_13 (Or.resolve_left h (by decide)) (Or.resolve_left h' (by decide))
        · exact fun h h' => p12_14 (Or.resolve_left h (by decide)) (Or.resolve_left h' (by decide))
        · exact fun h h' => p12_15 (Or.resolve_left h (by decide)) (Or.resolve_left h' (by decide))
        · exact fun h h' => p13_14 (Or.resolve_left h (by decide)) (Or.resolve_left h' (by decide))
        · exact fun h h' => p13_15 (Or.resolve_left h (by decide)) (Or.resolve_left h' (by decide))
        · exact fun h h' => p14_15 (Or.resolve_left h (by decide)) (Or.resolve_left h' (by decide))
        · exact fun h => (h16 (Or.resolve_left h (by decide))).imp Or.inr (fun ⟨x1, c0, c1, x2, x3⟩ => ⟨Or.inr x1, c0, c1, x2, x3.gr hg1⟩)
        · exact fun h => (h17 (Or.resolve_left h (by decide))).imp Or.inr (fun ⟨x1, c0, c1, x2, x3⟩ => ⟨Or.inr x1, c0, c1, x2, x3.gr hg1⟩)
        · exact fun h => (h18 (Or.resolve_left h (by decide))).imp Or.inr (fun ⟨x1, c0, c1, x2, x3⟩ => ⟨Or.inr x1, c0, c1, x2, x3.gr hg1⟩)
        · exact fun h => absurd (h19 (Or.resolve_left h (by decide))).2.1 nD
      refine StepI.cons (i := 12) (o := { dst := some 3, op := Op.alloc 55, type := 0, pos := "law.go:51", after := #[], guard := none }) (ns := []) rfl (by kernel_rfl) (fun D a w nD hn hF hSw K hK => ?_) ?_
      · obtain ⟨t2, t5, t8, t11, t12, t13, t14, t15, ha, hg, f2, f5, f8, f11, b12, b13, b14, b15, p12_13, p12_14, p12_15, p13_14, p13_15, p14_15, h16, h17, h18, h19⟩ := hF
        subst ha
        (try simp only [Act.put, List.setIfInBounds_toArray, List.set_cons_zero, List.set_cons_succ])
        go_simp
        refine hK.out _ _ (SO _ (hg.alloc _)) (fun _ => ?_)
        refine ⟨t2, t5, t8, t11, _, t13, t14, t15, by (simp only [Act.put, List.setIfInBounds_toArray, List.set_cons_zero, List.set_cons_succ]); try rfl, (hg.alloc _), ?_, ?_, ?_, ?_, ?_, ?_, ?_, ?_, ?_, ?_, ?_, ?_, ?_, ?_, ?_, ?_, ?_, ?_⟩
        · exact fun h => f2 (Or.resolve_left h (by decide))
        · exact fun h => f5 (Or.resolve_left h (by decide))
        · exact fun h => f8 (Or.resolve_left h (by decide))
        · exact fun h => f11 (Or.resolve_left h (by decide))
        · exact fun _ => Bx.lay hg (by simp [ptCells])
        · exact fun h => (b13 (Or.resolve_left h (by decide))).gr ((IsGr.refl _).alloc _)
        · exact fun h => (b14 (Or.resolve_left h (by decide))).gr ((IsGr.refl _).alloc _)
        · exact fun h => (b15 (Or.resolve_left h (by decide))).gr ((IsGr.refl _).alloc _)
        · exact fun _ h' => Ne.symm (b13 (Or.resolve_left h' (by decide))).ne
        · exact fun _ h' => Ne.symm (b14 (Or.resolve_left h' (by decide))).ne
        · exact fun _ h' => Ne.symm (b15 (Or.resolve_left h' (by decide))).ne
        · exact fun h h' => p13_14 (Or.resolve_left h (by decide)) (Or.resolve_left h' (by decide))
        · exact fun h h' => p13_15 (Or.resolve_left h (by decide)) (Or.resolve_left h' (by decide))
        · exact fun h h' => p14_15 (Or.resolve_left h (by decide)) (Or.resolve_left h' (by decide))
        · exact fun h => absurd (h16 (Or.resolve_left h (by decide))).1 nD
        · exact fun h => (h17 (Or.resolve_left h (by decide))).imp Or.inr (fun ⟨x1, c0, c1, x2, x3⟩ => ⟨Or.inr x1, c0, c1, x2, x3.gr ((IsGr.refl _).alloc _)⟩)
        · exact fun h => (h18 (Or.resolve_left h (by decide))).imp Or.inr (fun ⟨x1, c0, c1, x2, x3⟩ => ⟨Or.inr x1, c0, c1, x2, x3.gr ((IsGr.refl _).alloc _)⟩)
        · exact fun h => (h19 (Or.resolve_left h (by decide))).imp Or.inr (fun ⟨x1, c0, c1, x2, x3⟩ => ⟨Or.inr x1, c0, c1, x2, x3.gr ((IsGr.refl _).alloc _)⟩)
      refine StepI.cons (i := 13) (o := { dst := some 4, op := Op.alloc 55, type := 0, pos := "law.go:51", after := #[], guard := none }) (ns := []) rfl (by kernel_rfl) (fun D a w nD hn hF hSw K hK => ?_) ?_
      · obtain ⟨t2, t5, t8, t11, t12, t13, t14, t15, ha, hg, f2, f5, f8, f11, b12, b13, b14, b15, p12_13, p12_14, p12_15, p13_14, p13_15, p14_15, h16, h17, h18, h19⟩ := hF
        subst ha
        (try simp only [Act.put, List.setIfInBounds_toArray, List.set_cons_zero, List.set_cons_succ])
        go_simp
        refine hK.out _ _ (SO _ (hg.alloc _)) (fun _ => ?_)
        refine ⟨t2, t5, t8, t11, t12, _, t14, t15, by (simp only [Act.put, List.setIfInBounds_toArray, List.set_cons_zero, List.set_cons_succ]); try rfl, (hg.alloc _), ?_, ?_, ?_, ?_, ?_, ?_, ?_, ?_, ?_, ?_, ?_, ?_, ?_, ?_, ?_, ?_, ?_, ?_⟩
        · exact fun h => f2 (Or.resolve_left h (by decide))
        · exact fun h => f5 (Or.resolve_left h (by decide))
        · exact fun h => f8 (Or.resolve_left h (by decide))
        · exact fun h => f11 (Or.resolve_left h (by decide))
        · exact fun h => (b12 (Or.resolve_left h (by decide))).gr ((IsGr.refl _).alloc _)
        · exact fun _ => Bx.lay hg (by simp [ptCells])
        · exact fun h => (b14 (Or.resolve_left h (by decide))).gr ((IsGr.refl _).alloc _)
        · exact fun h => (b15 (Or.resolve_left h (by decide))).gr ((IsGr.refl _).alloc _)
        · exact fun h _ => (b12 (Or.resolve_left h (by decide))).ne
        · exact fun h h' => p12_14 (Or.resolve_left h (by decide)) (Or.resolve_left h' (by decide))
        · exact fun h h' => p12_15 (Or.resolve_left h (by decide)) (Or.resolve_left h' (by decide))
        · exact fun _ h' => Ne.symm (b14 (Or.resolve_left h' (by decide))).ne
        · exact fun _ h' => Ne.symm (b15 (Or.resolve_left h' (by decide))).ne
        · exact fun h h' => p14_15 (Or.resolve_left h (by decide)) (Or.resolve_left h' (by decide))
        · exact fun h => (h16 (Or.resolve_left h (by decide))).imp Or.inr (fun ⟨x1, c0, c1, x2, x3⟩ => ⟨Or.inr x1, c0, c1, x2, x3.gr ((IsGr.refl _).alloc _)⟩)
        · exact fun h => absurd (h17 (Or.resolve_left h (by decide))).1 nD
        · exact fun h => (h18 (Or.resolve_left h (by decide))).imp Or.inr (fun ⟨x1, c0, c1, x2, x3⟩ => ⟨Or.inr x1, c0, c1, x2, x3.gr ((IsGr.refl _).alloc _)⟩)
        · exact fun h => (h19 (Or.resolve_left h (by decide))).imp Or.inr (fun ⟨x1, c0, c1, x2, x3⟩ => ⟨Or.inr x1, c0, c1, x2, x3.gr ((IsGr.refl _).alloc _)⟩)
      refine StepI.cons (i := 14) (o := { dst := some 5, op := Op.alloc 55, type := 0, pos := "law.go:51", after := #[], guard := none }) (ns := []) rfl (by kernel_rfl) (fun D a w nD hn hF hSw K hK => ?_) ?_
      · obtain ⟨t2, t5, t8, t11, t12, t13, t14, t15, ha, hg, f2, f5, f8, f11, b12, b13, b14, b15, p12_13, p12_14, p12_15, p13_14, p13_15, p14_15, h16, h17, h18, h19⟩ := hF
        subst ha
        (try simp only [Act.put, List.setIfInBounds_toArray, List.set_cons_zero, List.set_cons_succ])
        go_simp
        refine hK.out _ _ (SO _ (hg.alloc _)) (fun _ => ?_)
        refine ⟨t2, t5, t8, t11, t12, t13, _, t15, by (simp only [Act.put, List.setIfInBounds_toArray, List.set_cons_zero, List.set_cons_succ]); try rfl, (hg.alloc _), ?_, ?_, ?_, ?_, ?_, ?_, ?_, ?_, ?_, ?_, ?_, ?_, ?_, ?_, ?_, ?_, ?_, ?_⟩
        · exact fun h => f2 (Or.resolve_left h (by decide))
        · exact fun h => f5 (Or.resolve_left h (by decide))
        · exact fun h => f8 (Or.resolve_left h (by decide))
        · exact fun h => f11 (Or.resolve_left h (by decide))
        · exact fun h => (b12 (Or.resolve_left h (by decide))).gr ((IsGr.refl _).alloc _)
        · exact fun h => (b13 (Or.resolve_left h (by decide))).gr ((IsGr.refl _).alloc _)
        · exact fun _ => Bx.lay hg (by simp [ptCells])
        · exact fun h => (b15 (Or.resolve_left h (by decide))).gr ((IsGr.refl _).alloc _)
        · exact fun h h' => p12_13 (Or.resolve_left h (by decide)) (Or.resolve_left h' (by decide))
        · exact fun h _ => (b12 (Or.resolve_left h (by decide))).ne
        · exact fun h h' => p12_15 (Or.resolve_left h (by decide)) (Or.resolve_left h' (by decide))
        · exact fun h _ => (b13 (Or.resolve_left h (by decide))).ne
        · exact fun h h' => p13_15 (Or.resolve_left h (by decide)) (Or.resolve_left h' (by decide))
        · exact fun _ h' => Ne.symm (b15 (Or.resolve_left h' (by decide))).ne
        · exact fun h => (h16 (Or.resolve_left h (by decide))).imp Or.inr (fun ⟨x1, c0, c1, x2, x3⟩ => ⟨Or.inr x1, c0, c1, x2, x3.gr ((IsGr.refl _).alloc _)⟩)
        · exact fun h => (h17 (Or.resolve_left h (by decide))).imp Or.inr (fun ⟨x1, c0, c1, x2, x3⟩ => ⟨Or.inr x1, c0, c1, x2, x3.gr ((IsGr.refl _).alloc _)⟩)
        · exact fun h => absurd (h18 (Or.resolve_left h (by decide))).1 nD
        · exact fun h => (h19 (Or.resolve_left h (by decide))).imp Or.inr (fun ⟨x1, c0, c1, x2, x3⟩ => ⟨Or.inr x1, c0, c1, x2, x3.gr ((IsGr.refl _).alloc _)⟩)
      refine StepI.cons (i := 15) (o := { dst := some 6, op := Op.alloc 55, type := 0, pos := "law.go:51", after := #[], guard := none }) (ns := []) rfl (by kernel_rfl) (fun D a w nD hn hF hSw K hK => ?_) ?_
      · obtain ⟨t2, t5, t8, t11, t12, t13, t14, t15, ha, hg, f2, f5, f8, f11, b12, b13, b14, b15, p12_13, p12_14, p12_15, p13_14, p13_15, p14_15, h16, h17, h18, h19⟩ := hF
        subst ha
        (try simp only [Act.put, List.setIfInBounds_toArray, List.set_cons_zero, List.set_cons_succ])
        go_simp
        refine hK.out _ _ (SO _ (hg.alloc _)) (fun _ => ?_)
        refine ⟨t2, t5, t8, t11, t12, t13, t14, _, by (simp only [Act.put, List.setIfInBounds_toArray, List.set_cons_zero, List.set_cons_succ]); try rfl, (hg.alloc _), ?_, ?_, ?_, ?_, ?_, ?_, ?_, ?_, ?_, ?_, ?_, ?_, ?_, ?_, ?_, ?_, ?_, ?_⟩
        · exact fun h => f2 (Or.resolve_left h (by decide))
        · exact fun h => f5 (Or.resolve_left h (by decide))
        · exact fun h => f8 (Or.resolve_left h (by decide))
        · exact fun h => f11 (Or.resolve_left h (by decide))
        · exact fun h => (b12 (Or.resolve_left h (by decide))).gr ((IsGr.refl _).alloc _)
        · exact fun h => (b13 (Or.resolve_left h (by decide))).gr ((IsGr.refl _).alloc _)
        · exact fun h => (b14 (Or.resolve_left h (by decide))).gr ((IsGr.refl _).alloc _)
        · exact fun _ => Bx.lay hg (by simp [ptCells])
        · exact fun h h' => p12_13 (Or.resolve_left h (by decide)) (Or.resolve_left h' (by decide))
        · exact fun h h' => p12_14 (Or.resolve_left h (by decide)) (Or.resolve_left h' (by decide))
        · exact fun h _ => (b12 (Or.resolve_left h (by decide))).ne
        · exact fun h h' => p13_14 (Or.resolve_left h (by decide)) (Or.resolve_left h' (by decide))
        · exact fun h _ => (b13 (Or.resolve_left h (by decide))).ne
        · exact fun h _ => (b14 (Or.resolve_left h (by decide))).ne
        · exact fun h => (h16 (Or.resolve_left h (by decide))).imp Or.inr (fun ⟨x1, c0, c1, x2, x3⟩ => ⟨Or.inr x1, c0, c1, x2, x3.gr ((IsGr.refl _).alloc _)⟩)
        · exact fun h => (h17 (Or.resolve_left h (by decide))).imp Or.inr (fun ⟨x1, c0, c1, x2, x3⟩ => ⟨Or.inr x1, c0, c1, x2, x3.gr ((IsGr.refl _).alloc _)⟩)
        · exact fun h => (h18 (Or.resolve_left h (by decide))).imp Or.inr (fun ⟨x1, c0, c1, x2, x3⟩ => ⟨Or.inr x1, c0, c1, x2, x3.gr ((IsGr.refl _).alloc _)⟩)
        · exact fun h => absurd (h19 (Or.resolve_left h (by decide))).1 nD
      refine StepI.cons (i := 16) (o := { dst := none, op := Op.store 55 (Operand.tmp 3) (Operand.tmp 9), type := 0, pos := "law.go:51", after := #[{ on := 12, ground := Ground.data }, { on := 2, ground := Ground.data }, { on := 11, ground := Ground.chain }, { on := 0, ground := Ground.phase }, { on := 1, ground := Ground.phase }, { on := 2, ground := Ground.phase }, { on := 3, ground := Ground.textOnly Departure.lateStores }, { on := 4, ground := Ground.textOnly Departure.lateStores }, { on := 5, ground := Ground.textOnly Departure.lateStoresUnsure }, { on := 6, ground := Ground.textOnly Departure.lateStores }, { on := 7, ground := Ground.textOnly Departure.lateStores }, { on := 8, ground := Ground.textOnly Departure.lateStoresUnsure }, { on := 9, ground := Ground.textOnly Departure.lateStores }, { on := 10, ground := Ground.textOnly Departure.lateStores }, { on := 11, ground := Ground.textOnly Departure.lateStoresUnsure }, { on := 12, ground := Ground.phase }, { on := 13, ground := Ground.phase }, { on := 14, ground := Ground.phase }, { on := 15, ground := Ground.phase }], guard := none }) (ns := [12, 2, 11, 2, 12, 13, 14, 15]) rfl (by kernel_rfl) (fun D a w nD hn hF hSw K hK => ?_) ?_
      · obtain ⟨t2, t5, t8, t11, t12, t13, t14, t15, ha, hg, f2, f5, f8, f11, b12, b13, b14, b15, p12_13, p12_14, p12_15, p13_14, p13_15, p14_15, h16, h17, h18, h19⟩ := hF
        have d12 : D 12 := hn 12 (by simp)
        have d2 : D 2 := hn 2 (by simp)
        have d11 : D 11 := hn 11 (by simp)
        have d2 : D 2 := hn 2 (by simp)
        have d12 : D 12 := hn 12 (by simp)
        have d13 : D 13 := hn 13 (by simp)
        have d14 : D 14 := hn 14 (by simp)
        have d15 : D 15 := hn 15 (by simp)
        obtain ⟨z0, z1, hz0⟩ : ∃ z0 z1 : Value, t2 = .agg #[z0, z1] ∧ ptCells z0 z1 := pt_cells (f2 d2)
        obtain ⟨hz0, hz1⟩ := hz0
        obtain ⟨bb, y0, y1, hb0, hb1, hb2, hb3⟩ := b12 d12
        obtain ⟨k1, k2, k3, k4, k5⟩ := block_cells hb2
        have hz2 := hz1
        obtain ⟨zx, zy, rfl, rfl⟩ := hz1
        subst hz0
        subst hb0
        subst ha
        (try simp only [Act.put, List.setIfInBounds_toArray, List.set_cons_zero, List.set_cons_succ])
        go_simp
        refine hK.out _ _ (SO _ (put2_gr hg hb1)) (fun _ => ?_)
        refine ⟨(.agg #[.int .i64 zx, .int .i64 zy]), t5, t8, t11, (.pointer (some ⟨bb, 0, none⟩)), t13, t14, t15, by (simp only [Act.put, List.setIfInBounds_toArray, List.set_cons_zero, List.set_cons_succ]); try rfl, (put2_gr hg hb1), ?_, ?_, ?_, ?_, ?_, ?_, ?_, ?_, ?_, ?_, ?_, ?_, ?_, ?_, ?_, ?_, ?_, ?_⟩
        · exact fun h => f2 (Or.resolve_left h (by decide))
        · exact fun h => f5 (Or.resolve_left h (by decide))
        · exact fun h => f8 (Or.resolve_left h (by decide))
        · exact fun h => f11 (Or.resolve_left h (by decide))
        · exact fun h => put2_bx hb2 hz2 (b12 (Or.resolve_left h (by decide)))
        · exact fun h => put2_bx hb2 hz2 (b13 (Or.resolve_left h (by decide)))
        · exact fun h => put2_bx hb2 hz2 (b14 (Or.resolve_left h (by decide)))
        · exact fun h => put2_bx hb2 hz2 (b15 (Or.resolve_left h (by decide)))
        · exact fun h h' => p12_13 (Or.resolve_left h (by decide)) (Or.resolve_left h' (by decide))
        · exact fun h h' => p12_14 (Or.resolve_left h (by decide)) (Or.resolve_left h' (by decide))
        · exact fun h h' => p12_15 (Or.resolve_left h (by decide)) (Or.resolve_left h' (by decide))
        · exact fun h h' => p13_14 (Or.resolve_left h (by decide)) (Or.resolve_left h' (by decide))
        · exact fun h h' => p13_15 (Or.resolve_left h (by decide)) (Or.resolve_left h' (by decide))
        · exact fun h h' => p14_15 (Or.resolve_left h (by decide)) (Or.resolve_left h' (by decide))
        · exact fun _ => ⟨Or.inr d12, Or.inr d2, _, _, rfl, put2_new hb2⟩
        · exact fun h => (fun ⟨x0, x1, c0, c1, x2, x3⟩ => ⟨Or.inr x0, Or.inr x1, c0, c1, x2, put2_hx hb2 x3 (Ne.symm (p12_13 d12 x0))⟩) (h17 (Or.resolve_left h (by decide)))
        · exact fun h => (fun ⟨x0, x1, c0, c1, x2, x3⟩ => ⟨Or.inr x0, Or.inr x1, c0, c1, x2, put2_hx hb2 x3 (Ne.symm (p12_14 d12 x0))⟩) (h18 (Or.resolve_left h (by decide)))
        · exact fun h => (fun ⟨x0, x1, c0, c1, x2, x3⟩ => ⟨Or.inr x0, Or.inr x1, c0, c1, x2, put2_hx hb2 x3 (Ne.symm (p12_15 d12 x0))⟩) (h19 (Or.resolve_left h (by decide)))
      refine StepI.cons (i := 17) (o := { dst := none, op := Op.store 55 (Operand.tmp 4) (Operand.tmp 12), type := 0, pos := "law.go:51", after := #[{ on := 13, ground := Ground.data }, { on := 5, ground := Ground.data }, { on := 16, ground := Ground.chain }, { on := 0, ground := Ground.phase }, { on := 1, ground := Ground.phase }, { on := 2, ground := Ground.phase }, { on := 3, ground := Ground.phase }, { on := 4, ground := Ground.phase }, { on := 5, ground := Ground.phase }, { on := 6, ground := Ground.textOnly Departure.lateStores }, { on := 7, ground := Ground.textOnly Departure.lateStores }, { on := 8, ground := Ground.textOnly Departure.lateStoresUnsure }, { on := 9, ground := Ground.textOnly Departure.lateStores }, { on := 10, ground := Ground.textOnly Departure.lateStores }, { on := 11, ground := Ground.textOnly Departure.lateStoresUnsure }, { on := 12, ground := Ground.phase }, { on := 13, ground := Ground.phase }, { on := 14, ground := Ground.phase }, { on := 15, ground := Ground.phase }, { on := 16, ground := Ground.phase }], guard := none }) (ns := [13, 5, 16, 2, 5, 12, 13, 14, 15, 16]) rfl (by kernel_rfl) (fun D a w nD hn hF hSw K hK => ?_) ?_
      · obtain ⟨t2, t5, t8, t11, t12, t13, t14, t15, ha, hg, f2, f5, f8, f11, b12, b13, b14, b15, p12_13, p12_14, p12_15, p13_14, p13_15, p14_15, h16, h17, h18, h19⟩ := hF
        have d13 : D 13 := hn 13 (by simp)
        have d5 : D 5 := hn 5 (by simp)
        have d16 : D 16 := hn 16 (by simp)
        have d2 : D 2 := hn 2 (by simp)
        have d5 : D 5 := hn 5 (by simp)
        have d12 : D 12 := hn 12 (by simp)
        have d13 : D 13 := hn 13 (by simp)
        have d14 : D 14 := hn 14 (by simp)
        have d15 : D 15 := hn 15 (by simp)
        have d16 : D 16 := hn 16 (by simp)
        obtain ⟨z0, z1, hz0⟩ : ∃ z0 z1 : Value, t5 = .agg #[z0, z1] ∧ ptCells z0 z1 := pt_cells (f5 d5)
        obtain ⟨hz0, hz1⟩ := hz0
        obtain ⟨bb, y0, y1, hb0, hb1, hb2, hb3⟩ := b13 d13
        obtain ⟨k1, k2, k3, k4, k5⟩ := block_cells hb2
        have hz2 := hz1
        obtain ⟨zx, zy, rfl, rfl⟩ := hz1
        subst hz0
        subst hb0
        subst ha
        (try simp only [Act.put, List.setIfInBounds_toArray, List.set_cons_zero, List.set_cons_succ])
        go_simp
        refine hK.out _ _ (SO _ (put2_gr hg hb1)) (fun _ => ?_)
        refine ⟨t2, (.agg #[.int .i64 zx, .int .i64 zy]), t8, t11, t12, (.pointer (some ⟨bb, 0, none⟩)), t14, t15, by (simp only [Act.put, List.setIfInBounds_toArray, List.set_cons_zero, List.set_cons_succ]); try rfl, (put2_gr hg hb1), ?_, ?_, ?_, ?_, ?_, ?_, ?_, ?_, ?_, ?_, ?_, ?_, ?_, ?_, ?_, ?_, ?_, ?_⟩
        · exact fun h => f2 (Or.resolve_left h (by decide))
        · exact fun h => f5 (Or.resolve_left h (by decide))
        · exact fun h => f8 (Or.resolve_left h (by decide))
        · exact fun h => f11 (Or.resolve_left h (by decide))
        · exact fun h => put2_bx hb2 hz2 (b12 (Or.resolve_left h (by decide)))
        · exact fun h => put2_bx hb2 hz2 (b13 (Or.resolve_left h (by decide)))
        · exact fun h => put2_bx hb2 hz2 (b14 (Or.resolve_left h (by decide)))
        · exact fun h => put2_bx hb2 hz2 (b15 (Or.resolve_left h (by decide)))
        · exact fun h h' => p12_13 (Or.resolve_left h (by decide)) (Or.resolve_left h' (by decide))
        · exact fun h h' => p12_14 (Or.resolve_left h (by decide)) (Or.resolve_left h' (by decide))
        · exact fun h h' => p12_15 (Or.resolve_left h (by decide)) (Or.resolve_left h' (by decide))
        · exact fun h h' => p13_14 (Or.resolve_left h (by decide)) (Or.resolve_left h' (by decide))
        · exact fun h h' => p13_15 (Or.resolve_left h (by decide)) (Or.resolve_left h' (by decide))
        · exact fun h h' => p14_15 (Or.resolve_left h (by decide)) (Or.resolve_left h' (by decide))
        · exact fun h => (fun ⟨x0, x1, c0, c1, x2, x3⟩ => ⟨Or.inr x0, Or.inr x1, c0, c1, x2, put2_hx hb2 x3 (p12_13 x0 d13)⟩) (h16 (Or.resolve_left h (by decide)))
        · exact fun _ => ⟨Or.inr d13, Or.inr d5, _, _, rfl, put2_new hb2⟩
        · exact fun h => (fun ⟨x0, x1, c0, c1, x2, x3⟩ => ⟨Or.inr x0, Or.inr x1, c0, c1, x2, put2_hx hb2 x3 (Ne.symm (p13_14 d13 x0))⟩) (h18 (Or.resolve_left h (by decide)))
        · exact fun h => (fun ⟨x0, x1, c0, c1, x2, x3⟩ => ⟨Or.inr x0, Or.inr x1, c0, c1, x2, put2_hx hb2 x3 (Ne.symm (p13_15 d13 x0))⟩) (h19 (Or.resolve_left h (by decide)))
      refine StepI.cons (i := 18) (o := { dst := none, op := Op.store 55 (Operand.tmp 5) (Operand.tmp 15), type := 0, pos := "law.go:51", after := #[{ on := 14, ground := Ground.data }, { on := 8, ground := Ground.data }, { on := 17, ground := Ground.chain }, { on := 0, ground := Ground.phase }, { on := 1, ground := Ground.phase }, { on := 2, ground := Ground.phase }, { on := 3, ground := Ground.phase }, { on := 4, ground := Ground.phase }, { on := 5, ground := Ground.phase }, { on := 6, ground := Ground.phase }, { on := 7, ground := Ground.phase }, { on := 8, ground := Ground.phase }, { on := 9, ground := Ground.textOnly Departure.lateStores }, { on := 10, ground := Ground.textOnly Departure.lateStores }, { on := 11, ground := Ground.textOnly Departure.lateStoresUnsure }, { on := 12, ground := Ground.phase }, { on := 13, ground := Ground.phase }, { on := 14, ground := Ground.phase }, { on := 15, ground := Ground.phase }, { on := 16, ground := Ground.phase }, { on := 17, ground := Ground.phase }], guard := none }) (ns := [14, 8, 17, 2, 5, 8, 12, 13, 14, 15, 16, 17]) rfl (by kernel_rfl) (fun D a w nD hn hF hSw K hK => ?_) ?_
      · obtain ⟨t2, t5, t8, t11, t12, t13, t14, t15, ha, hg, f2, f5, f8, f11, b12, b13, b14, b15, p12_13, p12_14, p12_15, p13_14, p13_15, p14_15, h16, h17, h18, h19⟩ := hF
        have d14 : D 14 := hn 14 (by simp)
        have d8 : D 8 := hn 8 (by simp)
        have d17 : D 17 := hn 17 (by simp)
        have d2 : D 2 := hn 2 (by simp)
        have d5 : D 5 := hn 5 (by simp)
        have d8 : D 8 := hn 8 (by simp)
        have d12 : D 12 := hn 12 (by simp)
        have d13 : D 13 := hn 13 (by simp)
        have d14 : D 14 := hn 14 (by simp)
        have d15 : D 15 := hn 15 (by simp)
        have d16 : D 16 := hn 16 (by simp)
        have d17 : D 17 := hn 17 (by simp)
        obtain ⟨z0, z1, hz0⟩ : ∃ z0 z1 : Value, t8 = .agg #[z0, z1] ∧ ptCells z0 z1 := pt_cells (f8 d8)
        obtain ⟨hz0, hz1⟩ := hz0
        obtain ⟨bb, y0, y1, hb0, hb1, hb2, hb3⟩ := b14 d14
        obtain ⟨k1, k2, k3, k4, k5⟩ := block_cells hb2
        have hz2 := hz1
        obtain ⟨zx, zy, rfl, rfl⟩ := hz1
        subst hz0
        subst hb0
        subst ha
        (try simp only [Act.put, List.setIfInBounds_toArray, List.set_cons_zero, List.set_cons_succ])
        go_simp
        refine hK.out _ _ (SO _ (put2_gr hg hb1)) (fun _ => ?_)
        refine ⟨t2, t5, (.agg #[.int .i64 zx, .int .i64 zy]), t11, t12, t13, (.pointer (some ⟨bb, 0, none⟩)), t15, by (simp only [Act.put, List.setIfInBounds_toArray, List.set_cons_zero, List.set_cons_succ]); try rfl, (put2_gr hg hb1), ?_, ?_, ?_, ?_, ?_, ?_, ?_, ?_, ?_, ?_, ?_, ?_, ?_, ?_, ?_, ?_, ?_, ?_⟩
        · exact fun h => f2 (Or.resolve_left h (by decide))
        · exact fun h => f5 (Or.resolve_left h (by decide))
        · exact fun h => f8 (Or.resolve_left h (by decide))
        · exact fun h => f11 (Or.resolve_left h (by decide))
        · exact fun h => put2_bx hb2 hz2 (b12 (Or.resolve_left h (by decide)))
        · exact fun h => put2_bx hb2 hz2 (b13 (Or.resolve_left h (by decide)))
        · exact fun h => put2_bx hb2 hz2 (b14 (Or.resolve_left h (by decide)))
        · exact fun h => put2_bx hb2 hz2 (b15 (Or.resolve_left h (by decide)))
        · exact fun h h' => p12_13 (Or.resolve_left h (by decide)) (Or.resolve_left h' (by decide))
        · exact fun h h' => p12_14 (Or.resolve_left h (by decide)) (Or.resolve_left h' (by decide))
        · exact fun h h' => p12_15 (Or.resolve_left h (by decide)) (Or.resolve_left h' (by decide))
        · exact fun h h' => p13_14 (Or.resolve_left h (by decide)) (Or.resolve_left h' (by decide))
        · exact fun h h' => p13_15 (Or.resolve_left h (by decide)) (Or.resolve_left h' (by decide))
        · exact fun h h' => p14_15 (Or.resolve_left h (by decide)) (Or.resolve_left h' (by decide))
        · exact fun h => (fun ⟨x0, x1, c0, c1, x2, x3⟩ => ⟨Or.inr x0, Or.inr x1, c0, c1, x2, put2_hx hb2 x3 (p12_14 x0 d14)⟩) (h16 (Or.resolve_left h (by decide)))
        · exact fun h => (fun ⟨x0, x1, c0, c1, x2, x3⟩ => ⟨Or.inr x0, Or.inr x1, c0, c1, x2, put2_hx hb2 x3 (p13_14 x0 d14)⟩) (h17 (Or.resolve_left h (by decide)))
        · exact fun _ => ⟨Or.inr d14, Or.inr d8, _, _, rfl, put2_new hb2⟩
        · exact fun h => (fun ⟨x0, x1, c0, c1, x2, x3⟩ => ⟨Or.inr x0, Or.inr x1, c0, c1, x2, put2_hx hb2 x3 (Ne.symm (p14_15 d14 x0))⟩) (h19 (Or.resolve_left h (by decide)))
      refine StepI.cons (i := 19) (o := { dst := none, op := Op.store 55 (Operand.tmp 6) (Operand.tmp 18), type := 0, pos := "law.go:51", after := #[{ on := 15, ground := Ground.data }, { on := 11, ground := Ground.data }, { on := 18, ground := Ground.chain }, { on := 0, ground := Ground.phase }, { on := 1, ground := Ground.phase }, { on := 2, ground := Ground.phase }, { on := 3, ground := Ground.phase }, { on := 4, ground := Ground.phase }, { on := 5, ground := Ground.phase }, { on := 6, ground := Ground.phase }, { on := 7, ground := Ground.phase }, { on := 8, ground := Ground.phase }, { on := 9, ground := Ground.phase }, { on := 10, ground := Ground.phase }, { on := 11, ground := Ground.phase }, { on := 12, ground := Ground.phase }, { on := 13, ground := Ground.phase }, { on := 14, ground := Ground.phase }, { on := 15, ground := Ground.phase }, { on := 16, ground := Ground.phase }, { on := 17, ground := Ground.phase }, { on := 18, ground := Ground.phase }], guard := none }) (ns := [15, 11, 18, 2, 5, 8, 11, 12, 13, 14, 15, 16, 17, 18]) rfl (by kernel_rfl) (fun D a w nD hn hF hSw K hK => ?_) ?_
      · obtain ⟨t2, t5, t8, t11, t12, t13, t14, t15, ha, hg, f2, f5, f8, f11, b12, b13, b14, b15, p12_13, p12_14, p12_15, p13_14, p13_15, p14_15, h16, h17, h18, h19⟩ := hF
        have d15 : D 15 := hn 15 (by simp)
        have d11 : D 11 := hn 11 (by simp)
        have d18 : D 18 := hn 18 (by simp)
        have d2 : D 2 := hn 2 (by simp)
        have d5 : D 5 := hn 5 (by simp)
        have d8 : D 8 := hn 8 (by simp)
        have d11 : D 11 := hn 11 (by simp)
        have d12 : D 12 := hn 12 (by simp)
        have d13 : D 13 := hn 13 (by simp)
        have d14 : D 14 := hn 14 (by simp)
        have d15 : D 15 := hn 15 (by simp)
        have d16 : D 16 := hn 16 (by simp)
        have d17 : D 17 := hn 17 (by simp)
        have d18 : D 18 := hn 18 (by simp)
        obtain ⟨z0, z1, hz0⟩ : ∃ z0 z1 : Value, t11 = .agg #[z0, z1] ∧ ptCells z0 z1 := pt_cells (f11 d11)
        obtain ⟨hz0, hz1⟩ := hz0
        obtain ⟨bb, y0, y1, hb0, hb1, hb2, hb3⟩ := b15 d15
        obtain ⟨k1, k2, k3, k4, k5⟩ := block_cells hb2
        have hz2 := hz1
        obtain ⟨zx, zy, rfl, rfl⟩ := hz1
        subst hz0
        subst hb0
        subst ha
        (try simp only [Act.put, List.setIfInBounds_toArray, List.set_cons_zero, List.set_cons_succ])
        go_simp
        refine hK.out _ _ (SO _ (put2_gr hg hb1)) (fun _ => ?_)
        refine ⟨t2, t5, t8, (.agg #[.int .i64 zx, .int .i64 zy]), t12, t13, t14, (.pointer (some ⟨bb, 0, none⟩)), by (simp only [Act.put, List.setIfInBounds_toArray, List.set_cons_zero, List.set_cons_succ]); try rfl, (put2_gr hg hb1), ?_, ?_, ?_, ?_, ?_, ?_, ?_, ?_, ?_, ?_, ?_, ?_, ?_, ?_, ?_, ?_, ?_, ?_⟩
        · exact fun h => f2 (Or.resolve_left h (by decide))
        · exact fun h => f5 (Or.resolve_left h (by decide))
        · exact fun h => f8 (Or.resolve_left h (by decide))
        · exact fun h => f11 (Or.resolve_left h (by decide))
        · exact fun h => put2_bx hb2 hz2 (b12 (Or.resolve_left h (by decide)))
        · exact fun h => put2_bx hb2 hz2 (b13 (Or.resolve_left h (by decide)))
        · exact fun h => put2_bx hb2 hz2 (b14 (Or.resolve_left h (by decide)))
        · exact fun h => put2_bx hb2 hz2 (b15 (Or.resolve_left h (by decide)))
        · exact fun h h' => p12_13 (Or.resolve_left h (by decide)) (Or.resolve_left h' (by decide))
        · exact fun h h' => p12_14 (Or.resolve_left h (by decide)) (Or.resolve_left h' (by decide))
        · exact fun h h' => p12_15 (Or.resolve_left h (by decide)) (Or.resolve_left h' (by decide))
        · exact fun h h' => p13_14 (Or.resolve_left h (by decide)) (Or.resolve_left h' (by decide))
        · exact fun h h' => p13_15 (Or.resolve_left h (by decide)) (Or.resolve_left h' (by decide))
        · exact fun h h' => p14_15 (Or.resolve_left h (by decide)) (Or.resolve_left h' (by decide))
        · exact fun h => (fun ⟨x0, x1, c0, c1, x2, x3⟩ => ⟨Or.inr x0, Or.inr x1, c0, c1, x2, put2_hx hb2 x3 (p12_15 x0 d15)⟩) (h16 (Or.resolve_left h (by decide)))
        · exact fun h => (fun ⟨x0, x1, c0, c1, x2, x3⟩ => ⟨Or.inr x0, Or.inr x1, c0, c1, x2, put2_hx hb2 x3 (p13_15 x0 d15)⟩) (h17 (Or.resolve_left h (by decide)))
        · exact fun h => (fun ⟨x0, x1, c0, c1, x2, x3⟩ => ⟨Or.inr x0, Or.inr x1, c0, c1, x2, put2_hx hb2 x3 (p14_15 x0 d15)⟩) (h18 (Or.resolve_left h (by decide)))
        · exact fun _ => ⟨Or.inr d15, Or.inr d11, _, _, rfl, put2_new hb2⟩
      exact StepI.nil
    case rest =>
      obtain ⟨⟨ga, rfl, ka, a1', a2'⟩, ⟨gb, rfl, kb, b1', b2'⟩, ⟨gc, rfl, kc, c1', c2'⟩, ⟨gp, rfl, kp, p1', p2'⟩, hgr⟩ := hcut
      obtain ⟨W2, hW9⟩ : ∃ W2, W2 = wc := ⟨_, rfl⟩
      subst hW9
      replace HG : Hid (IsGr w W2) := HG.out.trans hgr
      obtain ⟨C, hin, hcl, hcells, hgw⟩ : ∃ C : World → Prop, (∀ w', IsGr W2 w' → C w') ∧ (∀ u u', C u → IsGr u u' → C u') ∧ (∀ w', C w' → (fun w' => (w'.cell? ⟨w.heap.size, 0, none⟩ = some (.int .i64 a1) ∧ w'.cell? ⟨w.heap.size, 1, none⟩ = some (.int .i64 a2) ∧ w'.cell? ⟨w.heap.size, 2, none⟩ = some (.int .i64 b1) ∧ w'.cell? ⟨w.heap.size, 3, none⟩ = some (.int .i64 b2) ∧ w'.cell? ⟨w.heap.size, 4, none⟩ = some (.int .i64 c1) ∧ w'.cell? ⟨w.heap.size, 5, none⟩ = some (.int .i64 c2) ∧ w'.cell? ⟨w.heap.size, 6, none⟩ = some (.int .i64 p1) ∧ w'.cell? ⟨w.heap.size, 7, none⟩ = some (.int .i64 p2)) ∧ (w'.cell? ⟨ga, 0, none⟩ = some (.int .i64 a1) ∧ w'.cell? ⟨ga, 1, none⟩ = some (.int .i64 a2)) ∧ (w'.cell? ⟨gb, 0, none⟩ = some (.int .i64 b1) ∧ w'.cell? ⟨gb, 1, none⟩ = some (.int .i64 b2)) ∧ (w'.cell? ⟨gc, 0, none⟩ = some (.int .i64 c1) ∧ w'.cell? ⟨gc, 1, none⟩ = some (.int .i64 c2)) ∧ (w'.cell? ⟨gp, 0, none⟩ = some (.int .i64 p1) ∧ w'.cell? ⟨gp, 1, none⟩ = some (.int .i64 p2))) w') ∧ (∀ w', C w' → IsGr W2 w') :=
        ⟨fun w' => IsGr W2 w', fun _ h => h, fun _ _ h g => h.trans g, fun w' hg => ⟨SO w' (hgr.trans hg), ⟨hg.cell_at ka a1', hg.cell_at ka a2'⟩, ⟨hg.cell_at kb b1', hg.cell_at kb b2'⟩, ⟨hg.cell_at kc c1', hg.cell_at kc c2'⟩, ⟨hg.cell_at kp p1', hg.cell_at kp p2'⟩⟩, fun _ h => h⟩
      clear SO hgr a1' a2' b1' b2' c1' c2' p1' p2' Ra Rb Rc Rp
      go_upto_region 2 with fail
      refine wp_region_quietV C (by kernel_rfl) (by kernel_rfl) (hin _ (by with_reducible repeat (first | exact IsGr.refl _ | refine IsGr.gr ?_ _ _ | refine IsGr.alloc ?_ _ | refine IsGr.drew ?_ | refine IsGr.drewN ?_ _))) (fun K HK => ?_)
      refine QK.take HK ?_ (by rfl) ?_ ?_
      rotate_left
      · (intro w hw; (try have hcs := hcells w hw); (try go_split_ands); go_simp <;> with_reducible rfl)
      (try simp only [Act.put, List.setIfInBounds_toArray, List.set_cons_zero, List.set_cons_succ])
      refine QK.take HK ?_ (by rfl) ?_ ?_
      rotate_left
      · (intro w hw; (try have hcs := hcells w hw); (try go_split_ands); go_simp <;> with_reducible rfl)
      (try simp only [Act.put, List.setIfInBounds_toArray, List.set_cons_zero, List.set_cons_succ])
      refine QK.take HK ?_ (by rfl) ?_ ?_
      rotate_left
      · (intro w hw; (try have hcs := hcells w hw); (try go_split_ands); go_simp <;> with_reducible rfl)
      (try simp only [Act.put, List.setIfInBounds_toArray, List.set_cons_zero, List.set_cons_succ])
      refine QK.take HK ?_ (by rfl) ?_ ?_
      rotate_left
      · (intro w hw; (try have hcs := hcells w hw); (try go_split_ands); go_simp <;> with_reducible rfl)
      (try simp only [Act.put, List.setIfInBounds_toArray, List.set_cons_zero, List.set_cons_succ])
      refine QK.take HK ?_ (by rfl) ?_ ?_
      rotate_left
      · (intro w hw; (try have hcs := hcells w hw); (try go_split_ands); go_simp <;> with_reducible rfl)
      (try simp only [Act.put, List.setIfInBounds_toArray, List.set_cons_zero, List.set_cons_succ])
      refine QK.take HK ?_ (by rfl) ?_ ?_
      rotate_left
      · (intro w hw; (try have hcs := hcells w hw); (try go_split_ands); go_simp <;> with_reducible rfl)
      (try simp only [Act.put, List.setIfInBounds_toArray, List.set_cons_zero, List.set_cons_succ])
      refine QK.take HK ?_ (by rfl) ?_ ?_
      rotate_left
      · (intro w hw; (try have hcs := hcells w hw); (try go_split_ands); go_simp <;> with_reducible rfl)
      (try simp only [Act.put, List.setIfInBounds_toArray, List.set_cons_zero, List.set_cons_succ])
      refine QK.take HK ?_ (by rfl) ?_ ?_
      rotate_left
      · (intro w hw; (try have hcs := hcells w hw); (try go_split_ands); go_simp <;> with_reducible rfl)
      (try simp only [Act.put, List.setIfInBounds_toArray, List.set_cons_zero, List.set_cons_succ])
      refine QK.call HK 31 #[.agg #[.int .i64 a1, .int .i64 a2], .agg #[.int .i64 b1, .int .i64 b2], .agg #[.int .i64 c1, .int .i64 c2], .agg #[.int .i64 p1, .int .i64 p2]] (.int .i64 I) hcl (by rfl) (fun w => by go_simp) CI ?_
      (try simp only [Act.put, List.setIfInBounds_toArray, List.set_cons_zero, List.set_cons_succ])
      refine QK.take HK ?_ (by rfl) ?_ ?_
      rotate_left
      · (intro w hw; (try have hcs := hcells w hw); (try go_split_ands); go_simp <;> with_reducible rfl)
      (try simp only [Act.put, List.setIfInBounds_toArray, List.set_cons_zero, List.set_cons_succ])
      refine QK.take HK ?_ (by rfl) ?_ ?_
      rotate_left
      · (intro w hw; (try have hcs := hcells w hw); (try go_split_ands); go_simp <;> with_reducible rfl)
      (try simp only [Act.put, List.setIfInBounds_toArray, List.set_cons_zero, List.set_cons_succ])
      refine QK.take HK ?_ (by rfl) ?_ ?_
      rotate_left
      · (intro w hw; (try have hcs := hcells w hw); (try go_split_ands); go_simp <;> with_reducible rfl)
      (try simp only [Act.put, List.setIfInBounds_toArray, List.set_cons_zero, List.set_cons_succ])
      refine QK.take HK ?_ (by rfl) ?_ ?_
      rotate_left
      · (intro w hw; (try have hcs := hcells w hw); (try go_split_ands); go_simp <;> with_reducible rfl)
      (try simp only [Act.put, List.setIfInBounds_toArray, List.set_cons_zero, List.set_cons_succ])
      refine QK.call HK 32 #[.agg #[.int .i64 a1, .int .i64 a2], .agg #[.int .i64 b1, .int .i64 b2], .agg #[.int .i64 c1, .int .i64 c2], .agg #[.int .i64 p1, .int .i64 p2]] (.int .i64 I) hcl (by rfl) (fun w => by go_simp) CJ ?_
      (try simp only [Act.put, List.setIfInBounds_toArray, List.set_cons_zero, List.set_cons_succ])
      refine QK.take HK ?_ (by rfl) ?_ ?_
      rotate_left
      · (intro w hw; (try have hcs := hcells w hw); (try go_split_ands); go_simp <;> with_reducible rfl)
      (try simp only [Act.put, List.setIfInBounds_toArray, List.set_cons_zero, List.set_cons_succ])
      refine QK.take HK ?_ (by rfl) ?_ ?_
      rotate_left
      · (intro w hw; (try have hcs := hcells w hw); (try go_split_ands); go_simp <;> with_reducible rfl)
      (try simp only [Act.put, List.setIfInBounds_toArray, List.set_cons_zero, List.set_cons_succ])
      refine QK.take HK ?_ (by rfl) ?_ ?_
      rotate_left
      · (intro w hw; (try have hcs := hcells w hw); (try go_split_ands); go_simp <;> with_reducible rfl)
      (try simp only [Act.put, List.setIfInBounds_toArray, List.set_cons_zero, List.set_cons_succ])
      refine QK.take HK ?_ (by rfl) ?_ ?_
      rotate_left
      · (intro w hw; (try have hcs := hcells w hw); (try go_split_ands); go_simp <;> with_reducible rfl)
      (try simp only [Act.put, List.setIfInBounds_toArray, List.set_cons_zero, List.set_cons_succ])
      refine QK.take HK ?_ (by rfl) ?_ ?_
      rotate_left
      · (intro w hw; (try have hcs := hcells w hw); (try go_split_ands); go_simp <;> with_reducible rfl)
      (try simp only [Act.put, List.setIfInBounds_toArray, List.set_cons_zero, List.set_cons_succ])
      refine QK.take HK ?_ (by rfl) ?_ ?_
      rotate_left
      · (intro w hw; (try have hcs := hcells w hw); (try go_split_ands); go_simp <;> with_reducible rfl)
      (try simp only [Act.put, List.setIfInBounds_toArray, List.set_cons_zero, List.set_cons_succ])
      refine QK.take HK ?_ (by rfl) ?_ ?_
      rotate_left
      · (intro w hw; (try have hcs := hcells w hw); (try go_split_ands); go_simp <;> with_reducible rfl)
      (try simp only [Act.put, List.setIfInBounds_toArray, List.set_cons_zero, List.set_cons_succ])
      refine QK.take HK ?_ (by rfl) ?_ ?_
      rotate_left
      · (intro w hw; (try have hcs := hcells w hw); (try go_split_ands); go_simp <;> with_reducible rfl)
      (try simp only [Act.put, List.setIfInBounds_toArray, List.set_cons_zero, List.set_cons_succ])
      refine QK.take HK ?_ (by rfl) ?_ ?_
      rotate_left
      · (intro w hw; (try have hcs := hcells w hw); (try go_split_ands); go_simp <;> with_reducible rfl)
      (try simp only [Act.put, List.setIfInBounds_toArray, List.set_cons_zero, List.set_cons_succ])
      refine QK.take HK ?_ (by rfl) ?_ ?_
      rotate_left
      · (intro w hw; (try have hcs := hcells w hw); (try go_split_ands); go_simp <;> with_reducible rfl)
      (try simp only [Act.put, List.setIfInBounds_toArray, List.set_cons_zero, List.set_cons_succ])
      refine QK.call HK 33 #[.agg #[.int .i64 a1, .int .i64 a2], .agg #[.int .i64 b1, .int .i64 b2], .agg #[.int .i64 c1, .int .i64 c2], .agg #[.int .i64 p1, .int .i64 p2]] (.bool F) hcl (by rfl) (fun w => by go_simp) CF ?_
      (try simp only [Act.put, List.setIfInBounds_toArray, List.set_cons_zero, List.set_cons_succ])
      refine QK.take HK ?_ (by rfl) ?_ ?_
      rotate_left
      · (intro w hw; (try have hcs := hcells w hw); (try go_split_ands); go_simp <;> with_reducible rfl)
      (try simp only [Act.put, List.setIfInBounds_toArray, List.set_cons_zero, List.set_cons_succ])
      refine QK.take HK ?_ (by rfl) ?_ ?_
      rotate_left
      · (intro w hw; (try have hcs := hcells w hw); (try go_split_ands); go_simp <;> with_reducible rfl)
      (try simp only [Act.put, List.setIfInBounds_toArray, List.set_cons_zero, List.set_cons_succ])
      refine QK.take HK ?_ (by rfl) ?_ ?_
      rotate_left
      · (intro w hw; (try have hcs := hcells w hw); (try go_split_ands); go_simp <;> with_reducible rfl)
      (try simp only [Act.put, List.setIfInBounds_toArray, List.set_cons_zero, List.set_cons_succ])
      refine QK.take HK ?_ (by rfl) ?_ ?_
      rotate_left
      · (intro w hw; (try have hcs := hcells w hw); (try go_split_ands); go_simp <;> with_reducible rfl)
      (try simp only [Act.put, List.setIfInBounds_toArray, List.set_cons_zero, List.set_cons_succ])
      refine QK.call HK 34 #[.agg #[.int .i64 a1, .int .i64 a2], .agg #[.int .i64 b1, .int .i64 b2], .agg #[.int .i64 c1, .int .i64 c2], .agg #[.int .i64 p1, .int .i64 p2]] (.bool F) hcl (by rfl) (fun w => by go_simp) CG ?_
      (try simp only [Act.put, List.setIfInBounds_toArray, List.set_cons_zero, List.set_cons_succ])
      refine QK.take HK ?_ (by rfl) ?_ ?_
      rotate_left
      · (intro w hw; (try have hcs := hcells w hw); (try go_split_ands); go_simp <;> with_reducible rfl)
      (try simp only [Act.put, List.setIfInBounds_toArray, List.set_cons_zero, List.set_cons_succ])
      refine QK.take HK ?_ (by rfl) ?_ ?_
      rotate_left
      · (intro w hw; (try have hcs := hcells w hw); (try go_split_ands); go_simp <;> with_reducible rfl)
      (try simp only [Act.put, List.setIfInBounds_toArray, List.set_cons_zero, List.set_cons_succ])
      refine QK.take HK ?_ (by rfl) ?_ ?_
      rotate_left
      · (intro w hw; (try have hcs := hcells w hw); (try go_split_ands); go_simp <;> with_reducible rfl)
      (try simp only [Act.put, List.setIfInBounds_toArray, List.set_cons_zero, List.set_cons_succ])
      refine QK.take HK ?_ (by rfl) ?_ ?_
      rotate_left
      · (intro w hw; (try have hcs := hcells w hw); (try go_split_ands); go_simp <;> with_reducible rfl)
      (try simp only [Act.put, List.setIfInBounds_toArray, List.set_cons_zero, List.set_cons_succ])
      refine QK.take HK ?_ (by rfl) ?_ ?_
      rotate_left
      · (intro w hw; (try have hcs := hcells w hw); (try go_split_ands); go_simp <;> with_reducible rfl)
      (try simp only [Act.put, List.setIfInBounds_toArray, List.set_cons_zero, List.set_cons_succ])
      refine QK.take HK ?_ (by rfl) ?_ ?_
      rotate_left
      · (intro w hw; (try have hcs := hcells w hw); (try go_split_ands); go_simp <;> with_reducible rfl)
      (try simp only [Act.put, List.setIfInBounds_toArray, List.set_cons_zero, List.set_cons_succ])
      refine QK.take HK ?_ (by rfl) ?_ ?_
      rotate_left
      · (intro w hw; (try have hcs := hcells w hw); (try go_split_ands); go_simp <;> with_reducible rfl)
      (try simp only [Act.put, List.setIfInBounds_toArray, List.set_cons_zero, List.set_cons_succ])
      refine QK.take HK ?_ (by rfl) ?_ ?_
      rotate_left
      · (intro w hw; (try have hcs := hcells w hw); (try go_split_ands); go_simp <;> with_reducible rfl)
      (try simp only [Act.put, List.setIfInBounds_toArray, List.set_cons_zero, List.set_cons_succ])
      refine QK.take HK ?_ (by rfl) ?_ ?_
      rotate_left
      · (intro w hw; (try have hcs := hcells w hw); (try go_split_ands); go_simp <;> with_reducible rfl)
      (try simp only [Act.put, List.setIfInBounds_toArray, List.set_cons_zero, List.set_cons_succ])
      refine QK.take HK ?_ (by rfl) ?_ ?_
      rotate_left
      · (intro w hw; (try have hcs := hcells w hw); (try go_split_ands); go_simp <;> with_reducible rfl)
      (try simp only [Act.put, List.setIfInBounds_toArray, List.set_cons_zero, List.set_cons_succ])
      refine QK.take HK ?_ (by rfl) ?_ ?_
      rotate_left
      · (intro w hw; (try have hcs := hcells w hw); (try go_split_ands); go_simp <;> with_reducible rfl)
      (try simp only [Act.put, List.setIfInBounds_toArray, List.set_cons_zero, List.set_cons_succ])
      refine QK.call HK 33 #[.agg #[.int .i64 c1, .int .i64 c2], .agg #[.int .i64 p1, .int .i64 p2], .agg #[.int .i64 b1, .int .i64 b2], .agg #[.int .i64 a1, .int .i64 a2]] (.bool F) hcl (by rfl) (fun w => by go_simp) CH ?_
      (try simp only [Act.put, List.setIfInBounds_toArray, List.set_cons_zero, List.set_cons_succ])
      refine QK.take HK ?_ (by rfl) ?_ ?_
      rotate_left
      · (intro w hw; (try have hcs := hcells w hw); (try go_split_ands); go_simp <;> with_reducible rfl)
      (try simp only [Act.put, List.setIfInBounds_toArray, List.set_cons_zero, List.set_cons_succ])
      refine QK.take HK ?_ (by rfl) ?_ ?_
      rotate_left
      · (intro w hw; (try have hcs := hcells w hw); (try go_split_ands); go_simp <;> with_reducible rfl)
      (try simp only [Act.put, List.setIfInBounds_toArray, List.set_cons_zero, List.set_cons_succ])
      refine QK.take HK ?_ (by rfl) ?_ ?_
      rotate_left
      · (intro w hw; (try have hcs := hcells w hw); (try go_split_ands); go_simp <;> with_reducible rfl)
      (try simp only [Act.put, List.setIfInBounds_toArray, List.set_cons_zero, List.set_cons_succ])
      refine QK.take HK ?_ (by rfl) ?_ ?_
      rotate_left
      · (intro w hw; (try have hcs := hcells w hw); (try go_split_ands); go_simp <;> with_reducible rfl)
      (try simp only [Act.put, List.setIfInBounds_toArray, List.set_cons_zero, List.set_cons_succ])
      refine QK.take HK ?_ (by rfl) ?_ ?_
      rotate_left
      · (intro w hw; (try have hcs := hcells w hw); (try go_split_ands); go_simp <;> with_reducible rfl)
      (try simp only [Act.put, List.setIfInBounds_toArray, List.set_cons_zero, List.set_cons_succ])
      refine QK.take HK ?_ (by rfl) ?_ ?_
      rotate_left
      · (intro w hw; (try have hcs := hcells w hw); (try go_split_ands); go_simp <;> with_reducible rfl)
      (try simp only [Act.put, List.setIfInBounds_toArray, List.set_cons_zero, List.set_cons_succ])
      refine QK.take HK ?_ (by rfl) ?_ ?_
      rotate_left
      · (intro w hw; (try have hcs := hcells w hw); (try go_split_ands); go_simp <;> with_reducible rfl)
      (try simp only [Act.put, List.setIfInBounds_toArray, List.set_cons_zero, List.set_cons_succ])
      refine QK.take HK ?_ (by rfl) ?_ ?_
      rotate_left
      · (intro w hw; (try have hcs := hcells w hw); (try go_split_ands); go_simp <;> with_reducible rfl)
      (try simp only [Act.put, List.setIfInBounds_toArray, List.set_cons_zero, List.set_cons_succ])
      refine QK.call HK 33 #[.agg #[.int .i64 a1, .int .i64 a2], .agg #[.int .i64 b1, .int .i64 b2], .agg #[.int .i64 c1, .int .i64 c2], .agg #[.int .i64 p1, .int .i64 p2]] (.bool F) hcl (by rfl) (fun w => by go_simp) CF ?_
      (try simp only [Act.put, List.setIfInBounds_toArray, List.set_cons_zero, List.set_cons_succ])
      refine QK.take HK ?_ (by rfl) ?_ ?_
      rotate_left
      · (intro w hw; (try have hcs := hcells w hw); (try go_split_ands); go_simp <;> with_reducible rfl)
      (try simp only [Act.put, List.setIfInBounds_toArray, List.set_cons_zero, List.set_cons_succ])
      refine QK.take HK ?_ (by rfl) ?_ ?_
      rotate_left
      · (intro w hw; (try have hcs := hcells w hw); (try go_split_ands); go_simp <;> with_reducible rfl)
      (try simp only [Act.put, List.setIfInBounds_toArray, List.set_cons_zero, List.set_cons_succ])
      refine QK.take HK ?_ (by rfl) ?_ ?_
      rotate_left
      · (intro w hw; (try have hcs := hcells w hw); (try go_split_ands); go_simp <;> with_reducible rfl)
      (try simp only [Act.put, List.setIfInBounds_toArray, List.set_cons_zero, List.set_cons_succ])
      refine QK.call HK 30 #[] (.bool true) hcl (by rfl) (fun w => by go_simp) CA ?_
      (try simp only [Act.put, List.setIfInBounds_toArray, List.set_cons_zero, List.set_cons_succ])
      refine QK.take HK ?_ (by rfl) ?_ ?_
      rotate_left
      · (intro w hw; (try have hcs := hcells w hw); (try go_split_ands); go_simp <;> with_reducible rfl)
      (try simp only [Act.put, List.setIfInBounds_toArray, List.set_cons_zero, List.set_cons_succ])
      refine QK.take HK ?_ (by rfl) ?_ ?_
      rotate_left
      · (intro w hw; (try have hcs := hcells w hw); (try go_split_ands); go_simp <;> with_reducible rfl)
      (try simp only [Act.put, List.setIfInBounds_toArray, List.set_cons_zero, List.set_cons_succ])
      refine QK.nil HK ?_
      clear HK K
      intro wq hq
      have hg := HG.out.trans (hgw wq hq)
      clear hcells hin hcl hgw hq
      go_wp2
      go_ret
      exact ⟨rfl, hg⟩
end Go.Proofs.Ytecohcgcffhlnaa
