/- gromalaw02.RatioMakes: for every two Ints and every int the law answers true. -/
import Derived.Test.YtecohcgcffhlnaaT4
import Derived.Test.YtecohcgcffhlnaaG3
import Derived.Test.YtecohcgcffhlnaaH1
import Derived.Test.YtecohcgcffhlnaaH5
import Derived.Test.YtecohcgcffhlnaaU5
namespace Go.Proofs.Ytecohcgcffhlnaa
open Go.RowKit Go.Shelf
attribute [local go_sem] Gr.size Gr.cell? Gr.frozen? Gr.setCell Gr.drew Gr.drewN Gr.of_drew Gr.of_drewN Gr.gr Gr.lt_of1 Gr.le_of1 Gr.lt_of2 Gr.le_of2 Gr.lt_of3 Gr.le_of3 Gr.lt_of4 Gr.le_of4 Gr.lt_of5 Gr.le_of5 Gr.lt_of6 Gr.le_of6 Gr.lt_of7 Gr.le_of7 Gr.lt_of8 Gr.le_of8 Gr.lt_of9 Gr.le_of9 Gr.lt_of10 Gr.le_of10 Gr.lt_of11 Gr.le_of11 Gr.lt_of12 Gr.le_of12 Gr.lt_of13 Gr.le_of13 Gr.lt_of14 Gr.le_of14 Gr.lt_of15 Gr.le_of15 Gr.lt_of16 Gr.le_of16 Gr.lt_of17 Gr.le_of17 Gr.lt_of18 Gr.le_of18 Gr.lt_of19 Gr.le_of19 Gr.lt_of20 Gr.le_of20 Gr.lt_of21 Gr.le_of21 Gr.lt_of22 Gr.le_of22 Gr.lt_of23 Gr.le_of23 Gr.lt_of24 Gr.le_of24

theorem top255 : (2 : Int) ^ ((255 : Int).toNat) = 57896044618658097711785492504343953926634992332820282019728792003956564819968 := by decide
theorem sm_top : Sm 57896044618658097711785492504343953926634992332820282019728792003956564819968 := by unfold Sm; omega


set_option maxRecDepth 20000 in set_option maxHeartbeats 4000000 in
theorem law_rmakes (n0 n1 n2 n3 n d0 d1 d2 d3 d k : Int) (hn : IsI n0 n1 n2 n3 n) (hd : IsI d0 d1 d2 d3 d) (k0 : -9223372036854775808 ≤ k) (k1 : k < 9223372036854775808) (w : World) :
    Calls Try.prog 3 #[.agg #[.int .u64 n0, .int .u64 n1, .int .u64 n2, .int .u64 n3], .agg #[.int .u64 d0, .int .u64 d1, .int .u64 d2, .int .u64 d3], .int .i64 k] w fun e w' => e = .returned (.bool true) ∧ IsGr w w' := by
  have CA := fun w => awake2_any w
  have CN := fun w => New_any n0 n1 n2 n3 n d0 d1 d2 d3 d hn hd w
  have RN := fun w => Read_any hn.1 hn.2.1 hn.2.2 w
  have RD := fun w => Read_any hd.1 hd.2.1 hd.2.2 w
  have CP := fun w1 => Power_any 255 w1 (by omega) (by omega)
  rw [top255] at CP
  have sn : Sm n := by have := hn.2; unfold Sm; omega
  have sd : Sm d := by have := hd.2; unfold Sm; omega
  have sn' : Sm (0 - n) := by have := hn.2; unfold Sm; omega
  have sd' : Sm (0 - d) := by have := hd.2; unfold Sm; omega
  have st : Sm (0 - 57896044618658097711785492504343953926634992332820282019728792003956564819968) := by unfold Sm; omega
  have bn : Hid (-57896044618658097711785492504343953926634992332820282019728792003956564819968 ≤ n ∧ n < 57896044618658097711785492504343953926634992332820282019728792003956564819968) := hn.2
  have bd : Hid (-57896044618658097711785492504343953926634992332820282019728792003956564819968 ≤ d ∧ d < 57896044618658097711785492504343953926634992332820282019728792003956564819968) := hd.2
  have MT := fun w1 v (h : IsBig w1 v 57896044618658097711785492504343953926634992332820282019728792003956564819968) => Minus_any v 57896044618658097711785492504343953926634992332820282019728792003956564819968 w1 h sm_top
  have O1 := fun w => ROf_any k k0 k1 w
  have O2 := fun w => Of_any k k0 k1 w
  have O3 := fun w => Of_any 1 (by omega) (by omega) w
  have EQ : ∀ (a0 a1 a2 a3 b0 b1 b2 b3 c0 c1 c2 c3 e0 e1 e2 e3 : Int), IsI a0 a1 a2 a3 k → IsI b0 b1 b2 b3 1 → IsI c0 c1 c2 c3 k → IsI e0 e1 e2 e3 1 → ∀ w, (Op.equalIn 10000 26 (.agg #[.int .u64 a0, .int .u64 a1, .int .u64 a2, .int .u64 a3, .int .u64 b0, .int .u64 b1, .int .u64 b2, .int .u64 b3]) (.agg #[.int .u64 c0, .int .u64 c1, .int .u64 c2, .int .u64 c3, .int .u64 e0, .int .u64 e1, .int .u64 e2, .int .u64 e3])).run Try.prog w = .ok true w := fun _ _ _ _ _ _ _ _ _ _ _ _ _ _ _ _ h1 h2 h3 h4 w => eqR_t h1.1 h2.1 h3.1 h4.1 rfl rfl w
  have hk : Hid (-9223372036854775808 ≤ k ∧ k < 9223372036854775808) := ⟨k0, k1⟩
  clear hn hd k0 k1
  go_enter Try.func3, Try.ntmps3
  go_upto_region 1 with fail
  go_cut [7, 8] (fun t7 t8 wr => ∃ (g7 : Nat) (s0 s1 s2 s3 t0 t1 t2 t3 : Int) (ok : Bool), t7 = .pointer (some ⟨g7, 0, none⟩) ∧ t8 = .bool ok ∧ NewT n d s0 s1 s2 s3 t0 t1 t2 t3 ok ∧ w.heap.size + 1 < g7 ∧ g7 < wr.heap.size ∧ (wr.cell? ⟨w.heap.size, 0, none⟩ = some (.int .u64 n0) ∧ wr.cell? ⟨w.heap.size, 1, none⟩ = some (.int .u64 n1) ∧ wr.cell? ⟨w.heap.size, 2, none⟩ = some (.int .u64 n2) ∧ wr.cell? ⟨w.heap.size, 3, none⟩ = some (.int .u64 n3)) ∧ (wr.cell? ⟨w.heap.size + 1, 0, none⟩ = some (.int .u64 d0) ∧ wr.cell? ⟨w.heap.size + 1, 1, none⟩ = some (.int .u64 d1) ∧ wr.cell? ⟨w.heap.size + 1, 2, none⟩ = some (.int .u64 d2) ∧ wr.cell? ⟨w.heap.size + 1, 3, none⟩ = some (.int .u64 d3)) ∧ (wr.cell? ⟨g7, 0, none⟩ = some (.int .u64 s0) ∧ wr.cell? ⟨g7, 1, none⟩ = some (.int .u64 s1) ∧ wr.cell? ⟨g7, 2, none⟩ = some (.int .u64 s2) ∧ wr.cell? ⟨g7, 3, none⟩ = some (.int .u64 s3) ∧ wr.cell? ⟨g7, 4, none⟩ = some (.int .u64 t0) ∧ wr.cell? ⟨g7, 5, none⟩ = some (.int .u64 t1) ∧ wr.cell? ⟨g7, 6, none⟩ = some (.int .u64 t2) ∧ wr.cell? ⟨g7, 7, none⟩ = some (.int .u64 t3)) ∧ IsGr w wr)
  case first =>
    clear RN RD CP MT O1 O2 O3 EQ CA
    go_wp2_with fail
    refine (CN _).mono ?_
    rintro e w1 ⟨s0, s1, s2, s3, t0, t1, t2, t3, ok, rfl, hN, os1, m1, rfl⟩
    go_wp2
    go_meet
    case rel =>
      refine ⟨_, s0, s1, s2, s3, t0, t1, t2, t3, ok, rfl, rfl, hN, ?_, ?_, ?_, ?_, ?_, (by with_reducible repeat (first | exact IsGr.refl _ | refine IsGr.gr ?_ _ _ | refine IsGr.alloc ?_ _ | refine IsGr.drew ?_ | refine IsGr.drewN ?_ _))⟩
      · first | omega | (simp [Gr.size]; done) | (simp [Gr.size]; omega) | (simp; done) | (simp; omega)
      · first | omega | (simp [Gr.size]; done) | (simp [Gr.size]; omega) | (simp; done) | (simp; omega)
      · simp [go_sem]
      · simp [go_sem]
      · simp [go_sem]
  case rest =>
    obtain ⟨g7, s0, s1, s2, s3, t0, t1, t2, t3, ok, rfl, rfl, hN, kg0, kg, ⟨a0, a1, a2, a3⟩, ⟨b0, b1, b2, b3⟩, ⟨r0, r1, r2, r3, r4, r5, r6, r7⟩, hg⟩ := hcut
    obtain ⟨W1, hW9⟩ : ∃ W1, W1 = wc := ⟨_, rfl⟩
    subst hW9
    have HG : Hid (IsGr w W1) := hg
    have SO : ∀ w', IsGr W1 w' → (fun w' => (w'.cell? ⟨w.heap.size, 0, none⟩ = some (.int .u64 n0) ∧ w'.cell? ⟨w.heap.size, 1, none⟩ = some (.int .u64 n1) ∧ w'.cell? ⟨w.heap.size, 2, none⟩ = some (.int .u64 n2) ∧ w'.cell? ⟨w.heap.size, 3, none⟩ = some (.int .u64 n3)) ∧ (w'.cell? ⟨w.heap.size + 1, 0, none⟩ = some (.int .u64 d0) ∧ w'.cell? ⟨w.heap.size + 1, 1, none⟩ = some (.int .u64 d1) ∧ w'.cell? ⟨w.heap.size + 1, 2, none⟩ = some (.int .u64 d2) ∧ w'.cell? ⟨w.heap.size + 1, 3, none⟩ = some (.int .u64 d3))) w' := fun w' hg => ⟨⟨hg.cell_at (by omega) a0, hg.cell_at (by omega) a1, hg.cell_at (by omega) a2, hg.cell_at (by omega) a3⟩, ⟨hg.cell_at (by omega) b0, hg.cell_at (by omega) b1, hg.cell_at (by omega) b2, hg.cell_at (by omega) b3⟩⟩
    have hW1 : w.heap.size ≤ W1.heap.size := hg.size
    clear hg CN a0 a1 a2 a3 b0 b1 b2 b3
    go_upto_region 2 with fail
    go_cut [9, 10] (fun t9 t10 wr => BigBx W1 wr t9 n ∧ BigBx W1 wr t10 d ∧ t9 ≠ t10 ∧ IsGr W1 wr)
    case first =>
      clear CP MT O1 O2 O3 EQ CA r0 r1 r2 r3 r4 r5 r6 r7
      refine wp_region_held_drew (S := (fun w' => (w'.cell? ⟨w.heap.size, 0, none⟩ = some (.int .u64 n0) ∧ w'.cell? ⟨w.heap.size, 1, none⟩ = some (.int .u64 n1) ∧ w'.cell? ⟨w.heap.size, 2, none⟩ = some (.int .u64 n2) ∧ w'.cell? ⟨w.heap.size, 3, none⟩ = some (.int .u64 n3)) ∧ (w'.cell? ⟨w.heap.size + 1, 0, none⟩ = some (.int .u64 d0) ∧ w'.cell? ⟨w.heap.size + 1, 1, none⟩ = some (.int .u64 d1) ∧ w'.cell? ⟨w.heap.size + 1, 2, none⟩ = some (.int .u64 d2) ∧ w'.cell? ⟨w.heap.size + 1, 3, none⟩ = some (.int .u64 d3)))) (by kernel_rfl) (by (try dsimp only); exact SO _ (by with_reducible repeat (first | exact IsGr.refl _ | refine IsGr.gr ?_ _ _ | refine IsGr.alloc ?_ _ | refine IsGr.drew ?_ | refine IsGr.drewN ?_ _))) (fun hHeld => ?_)
      refine wpAnyH_take (i := 0) (oi := { dst := some 19, op := Op.load 24 (Operand.tmp 3), type := 24, pos := "law.go:29", after := #[], guard := none }) (v := ?_) rfl (by kernel_rfl) (by kernel_rfl) (by kernel_rfl) (fun _ _ _ h => h) (Or.inl ⟨by rfl, ?_⟩) (by assumption) ?_
      rotate_left
      · (intro w hSw; (try dsimp only at hSw); go_simp <;> with_reducible rfl)
      (try simp only [Act.put, List.setIfInBounds_toArray, List.set_cons_zero, List.set_cons_succ])
      refine wpAnyH_take (i := 2) (oi := { dst := some 21, op := Op.load 24 (Operand.tmp 4), type := 24, pos := "law.go:29", after := #[], guard := none }) (v := ?_) rfl (by kernel_rfl) (by kernel_rfl) (by kernel_rfl) (fun _ _ _ h => h) (Or.inl ⟨by rfl, ?_⟩) (by assumption) ?_
      rotate_left
      · (intro w hSw; (try dsimp only at hSw); go_simp <;> with_reducible rfl)
      (try simp only [Act.put, List.setIfInBounds_toArray, List.set_cons_zero, List.set_cons_succ])
      refine wpAnyH_invA [1, 3, 4, 5, 6, 7] (fun A D a w => ∃ t1 t3 t4 t5 : Value, a = ((((A.put (some 20) t1).put (some 22) t3).put (some 9) t4).put (some 10) t5) ∧ IsGr W1 w ∧ (D 1 → IsBig w t1 (n)) ∧ (D 3 → IsBig w t3 (d)) ∧ (D 4 → Bx W1 w 31 bigCells t4) ∧ (D 5 → Bx W1 w 31 bigCells t5) ∧ (D 4 → D 5 → t4 ≠ t5) ∧ (D 6 → D 4 ∧ D 1 ∧ ∃ c0 c1 : Value, t1 = .agg #[c0, c1] ∧ Hx w 31 t4 c0 c1) ∧ (D 7 → D 5 ∧ D 3 ∧ ∃ c0 c1 : Value, t3 = .agg #[c0, c1] ∧ Hx w 31 t5 c0 c1)) (by kernel_rfl) (by assumption) ?_ ?_ ?_
      · exact ⟨_, _, _, _, by (simp only [Act.put, List.setIfInBounds_toArray, List.set_cons_zero, List.set_cons_succ]); try rfl, (by with_reducible repeat (first | exact IsGr.refl _ | refine IsGr.gr ?_ _ _ | refine IsGr.alloc ?_ _ | refine IsGr.drew ?_ | refine IsGr.drewN ?_ _)), fun h => h.elim, fun h => h.elim, fun h => h.elim, fun h => h.elim, fun h => h.elim, fun h => h.elim, fun h => h.elim⟩
      · intro D a w hD hF hSw
        obtain ⟨t1, t3, t4, t5, ha, hg, f1, f3, b4, b5, p4_5, h6, h7⟩ := hF
        subst ha
        (try simp only [Act.put, List.setIfInBounds_toArray, List.set_cons_zero, List.set_cons_succ])
        have A1 := BigBx.of (b4 (hD 4 (by simp))) (h6 (hD 6 (by simp))).2.2 (f1 (hD 1 (by simp)))
        have A2 := BigBx.of (b5 (hD 5 (by simp))) (h7 (hD 7 (by simp))).2.2 (f3 (hD 3 (by simp)))
        have A3 := p4_5 (hD 4 (by simp)) (hD 5 (by simp))
        clear f1 f3 b4 b5 p4_5 h6 h7 hD hSw
        go_wp2
        go_meet
        case rel => exact ⟨A1, A2, A3, hg⟩
      refine StepI.cons (i := 1) (o := { dst := some 20, op := Op.call { callee := Callee.value (Operand.func 11), args := #[Operand.tmp 19], argTypes := #[23] }, type := 31, pos := "law.go:29", after := #[{ on := 0, ground := Ground.data }], guard := none }) (ns := []) rfl (by kernel_rfl) (fun D a w nD hn hF hSw K hK => ?_) ?_
      · obtain ⟨t1, t3, t4, t5, ha, hg, f1, f3, b4, b5, p4_5, h6, h7⟩ := hF
        subst ha
        (try simp only [Act.put, List.setIfInBounds_toArray, List.set_cons_zero, List.set_cons_succ])
        go_simp
        refine (RN _).mono ?_
        rintro e w1 ⟨z, rfl, hz, hg1⟩
        (try go_wp2_with fail)
        refine hK.out _ _ (SO _ (hg.trans hg1)) (fun _ => ?_)
        refine ⟨z, t3, t4, t5, by (simp only [Act.put, List.setIfInBounds_toArray, List.set_cons_zero, List.set_cons_succ]); try rfl, (hg.trans hg1), ?_, ?_, ?_, ?_, ?_, ?_, ?_⟩
        · exact fun _ => hz
        · exact fun h => (f3 (Or.resolve_left h (by decide))).gr hg1
        · exact fun h => (b4 (Or.resolve_left h (by decide))).gr hg1
        · exact fun h => (b5 (Or.resolve_left h (by decide))).gr hg1
        · exact fun h h' => p4_5 (Or.resolve_left h (by decide)) (Or.resolve_left h' (by decide))
        · exact fun h => absurd (h6 (Or.resolve_left h (by decide))).2.1 nD
        · exact fun h => (h7 (Or.resolve_left h (by decide))).imp Or.inr (fun ⟨x1, c0, c1, x2, x3⟩ => ⟨Or.inr x1, c0, c1, x2, x3.gr hg1⟩)
      refine StepI.cons (i := 3) (o := { dst := some 22, op := Op.call { callee := Callee.value (Operand.func 11), args := #[Operand.tmp 21], argTypes := #[23] }, type := 31, pos := "law.go:29", after := #[{ on := 2, ground := Ground.data }, { on := 1, ground := Ground.chain }], guard := none }) (ns := [1]) rfl (by kernel_rfl) (fun D a w nD hn hF hSw K hK => ?_) ?_
      · obtain ⟨t1, t3, t4, t5, ha, hg, f1, f3, b4, b5, p4_5, h6, h7⟩ := hF
        have d1 : D 1 := hn 1 (by simp)
        subst ha
        (try simp only [Act.put, List.setIfInBounds_toArray, List.set_cons_zero, List.set_cons_succ])
        go_simp
        refine (RD _).mono ?_
        rintro e w1 ⟨z, rfl, hz, hg1⟩
        (try go_wp2_with fail)
        refine hK.out _ _ (SO _ (hg.trans hg1)) (fun _ => ?_)
        refine ⟨t1, z, t4, t5, by (simp only [Act.put, List.setIfInBounds_toArray, List.set_cons_zero, List.set_cons_succ]); try rfl, (hg.trans hg1), ?_, ?_, ?_, ?_, ?_, ?_, ?_⟩
        · exact fun h => (f1 (Or.resolve_left h (by decide))).gr hg1
        · exact fun _ => hz
        · exact fun h => (b4 (Or.resolve_left h (by decide))).gr hg1
        · exact fun h => (b5 (Or.resolve_left h (by decide))).gr hg1
        · exact fun h h' => p4_5 (Or.resolve_left h (by decide)) (Or.resolve_left h' (by decide))
        · exact fun h => (h6 (Or.resolve_left h (by decide))).imp Or.inr (fun ⟨x1, c0, c1, x2, x3⟩ => ⟨Or.inr x1, c0, c1, x2, x3.gr hg1⟩)
        · exact fun h => absurd (h7 (Or.resolve_left h (by decide))).2.1 nD
      refine StepI.cons (i := 4) (o := { dst := some 9, op := Op.alloc 31, type := 0, pos := "law.go:29", after := #[], guard := none }) (ns := []) rfl (by kernel_rfl) (fun D a w nD hn hF hSw K hK => ?_) ?_
      · obtain ⟨t1, t3, t4, t5, ha, hg, f1, f3, b4, b5, p4_5, h6, h7⟩ := hF
        subst ha
        (try simp only [Act.put, List.setIfInBounds_toArray, List.set_cons_zero, List.set_cons_succ])
        go_simp
        refine hK.out _ _ (SO _ (hg.alloc _)) (fun _ => ?_)
        refine ⟨t1, t3, _, t5, by (simp only [Act.put, List.setIfInBounds_toArray, List.set_cons_zero, List.set_cons_succ]); try rfl, (hg.alloc _), ?_, ?_, ?_, ?_, ?_, ?_, ?_⟩
        · exact fun h => (f1 (Or.resolve_left h (by decide))).gr ((IsGr.refl _).alloc _)
        · exact fun h => (f3 (Or.resolve_left h (by decide))).gr ((IsGr.refl _).alloc _)
        · exact fun _ => Bx.lay hg (by simp [bigCells])
        · exact fun h => (b5 (Or.resolve_left h (by decide))).gr ((IsGr.refl _).alloc _)
        · exact fun _ h' => Ne.symm (b5 (Or.resolve_left h' (by decide))).ne
        · exact fun h => absurd (h6 (Or.resolve_left h (by decide))).1 nD
        · exact fun h => (h7 (Or.resolve_left h (by decide))).imp Or.inr (fun ⟨x1, c0, c1, x2, x3⟩ => ⟨Or.inr x1, c0, c1, x2, x3.gr ((IsGr.refl _).alloc _)⟩)
      refine StepI.cons (i := 5) (o := { dst := some 10, op := Op.alloc 31, type := 0, pos := "law.go:29", after := #[], guard := none }) (ns := []) rfl (by kernel_rfl) (fun D a w nD hn hF hSw K hK => ?_) ?_
      · obtain ⟨t1, t3, t4, t5, ha, hg, f1, f3, b4, b5, p4_5, h6, h7⟩ := hF
        subst ha
        (try simp only [Act.put, List.setIfInBounds_toArray, List.set_cons_zero, List.set_cons_succ])
        go_simp
        refine hK.out _ _ (SO _ (hg.alloc _)) (fun _ => ?_)
        refine ⟨t1, t3, t4, _, by (simp only [Act.put, List.setIfInBounds_toArray, List.set_cons_zero, List.set_cons_succ]); try rfl, (hg.alloc _), ?_, ?_, ?_, ?_, ?_, ?_, ?_⟩
        · exact fun h => (f1 (Or.resolve_left h (by decide))).gr ((IsGr.refl _).alloc _)
        · exact fun h => (f3 (Or.resolve_left h (by decide))).gr ((IsGr.refl _).alloc _)
        · exact fun h => (b4 (Or.resolve_left h (by decide))).gr ((IsGr.refl _).alloc _)
        · exact fun _ => Bx.lay hg (by simp [bigCells])
        · exact fun h _ => (b4 (Or.resolve_left h (by decide))).ne
        · exact fun h => (h6 (Or.resolve_left h (by decide))).imp Or.inr (fun ⟨x1, c0, c1, x2, x3⟩ => ⟨Or.inr x1, c0, c1, x2, x3.gr ((IsGr.refl _).alloc _)⟩)
        · exact fun h => absurd (h7 (Or.resolve_left h (by decide))).1 nD
      refine StepI.cons (i := 6) (o := { dst := none, op := Op.store 31 (Operand.tmp 9) (Operand.tmp 20), type := 0, pos := "law.go:29", after := #[{ on := 4, ground := Ground.data }, { on := 1, ground := Ground.data }, { on := 3, ground := Ground.chain }, { on := 0, ground := Ground.phase }, { on := 1, ground := Ground.phase }, { on := 2, ground := Ground.textOnly Departure.lateStores }, { on := 3, ground := Ground.textOnly Departure.lateStoresUnsure }, { on := 4, ground := Ground.phase }, { on := 5, ground := Ground.phase }], guard := none }) (ns := [4, 1, 3, 1, 4, 5]) rfl (by kernel_rfl) (fun D a w nD hn hF hSw K hK => ?_) ?_
      · obtain ⟨t1, t3, t4, t5, ha, hg, f1, f3, b4, b5, p4_5, h6, h7⟩ := hF
        have d4 : D 4 := hn 4 (by simp)
        have d1 : D 1 := hn 1 (by simp)
        have d3 : D 3 := hn 3 (by simp)
        have d1 : D 1 := hn 1 (by simp)
        have d4 : D 4 := hn 4 (by simp)
        have d5 : D 5 := hn 5 (by simp)
        obtain ⟨z0, z1, hz0⟩ : ∃ z0 z1 : Value, t1 = .agg #[z0, z1] ∧ bigCells z0 z1 := big_cells (f1 d1)
        obtain ⟨hz0, hz1⟩ := hz0
        obtain ⟨bb, y0, y1, hb0, hb1, hb2, hb3⟩ := b4 d4
        obtain ⟨k1, k2, k3, k4, k5⟩ := block_cells hb2
        have hz2 := hz1
        obtain ⟨zs, za, zn, zc, rfl, rfl⟩ := hz1
        subst hz0
        subst hb0
        subst ha
        (try simp only [Act.put, List.setIfInBounds_toArray, List.set_cons_zero, List.set_cons_succ])
        go_simp
        refine hK.out _ _ (SO _ (put2_gr hg hb1)) (fun _ => ?_)
        refine ⟨(.agg #[.bool zs, .slice za zn zc]), t3, (.pointer (some ⟨bb, 0, none⟩)), t5, by (simp only [Act.put, List.setIfInBounds_toArray, List.set_cons_zero, List.set_cons_succ]); try rfl, (put2_gr hg hb1), ?_, ?_, ?_, ?_, ?_, ?_, ?_⟩
        · exact fun h => (f1 (Or.resolve_left h (by decide))).kb (put2_kb hb2 hb3)
        · exact fun h => (f3 (Or.resolve_left h (by decide))).kb (put2_kb hb2 hb3)
        · exact fun h => put2_bx hb2 hz2 (b4 (Or.resolve_left h (by decide)))
        · exact fun h => put2_bx hb2 hz2 (b5 (Or.resolve_left h (by decide)))
        · exact fun h h' => p4_5 (Or.resolve_left h (by decide)) (Or.resolve_left h' (by decide))
        · exact fun _ => ⟨Or.inr d4, Or.inr d1, _, _, rfl, put2_new hb2⟩
        · exact fun h => (fun ⟨x0, x1, c0, c1, x2, x3⟩ => ⟨Or.inr x0, Or.inr x1, c0, c1, x2, put2_hx hb2 x3 (Ne.symm (p4_5 d4 x0))⟩) (h7 (Or.resolve_left h (by decide)))
      refine StepI.cons (i := 7) (o := { dst := none, op := Op.store 31 (Operand.tmp 10) (Operand.tmp 22), type := 0, pos := "law.go:29", after := #[{ on := 5, ground := Ground.data }, { on := 3, ground := Ground.data }, { on := 6, ground := Ground.chain }, { on := 0, ground := Ground.phase }, { on := 1, ground := Ground.phase }, { on := 2, ground := Ground.phase }, { on := 3, ground := Ground.phase }, { on := 4, ground := Ground.phase }, { on := 5, ground := Ground.phase }, { on := 6, ground := Ground.phase }], guard := none }) (ns := [5, 3, 6, 1, 3, 4, 5, 6]) rfl (by kernel_rfl) (fun D a w nD hn hF hSw K hK => ?_) ?_
      · obtain ⟨t1, t3, t4, t5, ha, hg, f1, f3, b4, b5, p4_5, h6, h7⟩ := hF
        have d5 : D 5 := hn 5 (by simp)
        have d3 : D 3 := hn 3 (by simp)
        have d6 : D 6 := hn 6 (by simp)
        have d1 : D 1 := hn 1 (by simp)
        have d3 : D 3 := hn 3 (by simp)
        have d4 : D 4 := hn 4 (by simp)
        have d5 : D 5 := hn 5 (by simp)
        have d6 : D 6 := hn 6 (by simp)
        obtain ⟨z0, z1, hz0⟩ : ∃ z0 z1 : Value, t3 = .agg #[z0, z1] ∧ bigCells z0 z1 := big_cells (f3 d3)
        obtain ⟨hz0, hz1⟩ := hz0
        obtain ⟨bb, y0, y1, hb0, hb1, hb2, hb3⟩ := b5 d5
        obtain ⟨k1, k2, k3, k4, k5⟩ := block_cells hb2
        have hz2 := hz1
        obtain ⟨zs, za, zn, zc, rfl, rfl⟩ := hz1
        subst hz0
        subst hb0
        subst ha
        (try simp only [Act.put, List.setIfInBounds_toArray, List.set_cons_zero, List.set_cons_succ])
        go_simp
        refine hK.out _ _ (SO _ (put2_gr hg hb1)) (fun _ => ?_)
        refine ⟨t1, (.agg #[.bool zs, .slice za zn zc]), t4, (.pointer (some ⟨bb, 0, none⟩)), by (simp only [Act.put, List.setIfInBounds_toArray, List.set_cons_zero, List.set_cons_succ]); try rfl, (put2_gr hg hb1), ?_, ?_, ?_, ?_, ?_, ?_, ?_⟩
        · exact fun h => (f1 (Or.resolve_left h (by decide))).kb (put2_kb hb2 hb3)
        · exact fun h => (f3 (Or.resolve_left h (by decide))).kb (put2_kb hb2 hb3)
        · exact fun h => put2_bx hb2 hz2 (b4 (Or.resolve_left h (by decide)))
        · exact fun h => put2_bx hb2 hz2 (b5 (Or.resolve_left h (by decide)))
        · exact fun h h' => p4_5 (Or.resolve_left h (by decide)) (Or.resolve_left h' (by decide))
        · exact fun h => (fun ⟨x0, x1, c0, c1, x2, x3⟩ => ⟨Or.inr x0, Or.inr x1, c0, c1, x2, put2_hx hb2 x3 (p4_5 x0 d5)⟩) (h6 (Or.resolve_left h (by decide)))
        · exact fun _ => ⟨Or.inr d5, Or.inr d3, _, _, rfl, put2_new hb2⟩
      exact StepI.nil
    case rest =>
      obtain ⟨⟨gx, xs, xa, xn, xc, rfl, wx, bx, BX⟩, ⟨gy, ys, ya, yn, yc, rfl, wy, bq, BY⟩, hne, hgr⟩ := hcut
      obtain ⟨W2, hW9⟩ : ∃ W2, W2 = wc := ⟨_, rfl⟩
      subst hW9
      have hxy : ¬ gx = gy := by rintro rfl; exact hne rfl
      clear hne SO
      replace HG : Hid (IsGr w W2) := HG.out.trans hgr
      have hxg : ¬ gx = g7 := by omega
      have hyg : ¬ gy = g7 := by omega
      replace wx : w.heap.size ≤ gx := by omega
      replace wy : w.heap.size ≤ gy := by omega
      replace r0 := hgr.cell_at kg r0
      replace r1 := hgr.cell_at kg r1
      replace r2 := hgr.cell_at kg r2
      replace r3 := hgr.cell_at kg r3
      replace r4 := hgr.cell_at kg r4
      replace r5 := hgr.cell_at kg r5
      replace r6 := hgr.cell_at kg r6
      replace r7 := hgr.cell_at kg r7
      replace kg : g7 < W2.heap.size := Nat.lt_of_lt_of_le kg hgr.size
      clear hgr
      go_upto_region 3 with fail
      go_cut [11] (fun t11 wr => BigAt wr t11 (0 - 57896044618658097711785492504343953926634992332820282019728792003956564819968) ∧ IsGr W2 wr)
      case first =>
        clear O1 O2 O3 EQ CA r0 r1 r2 r3 r4 r5 r6 r7
        go_wp2_with fail
        refine (CP _).mono ?_
        rintro e w1 ⟨p, rfl, hp, os1, m1, rfl⟩
        (try simp only [Gr.of_drew] at hp); (try simp only [Gr.gr] at hp); (try simp only [Array.append_assoc] at hp)
        obtain ⟨ps, pa, pn, pc, rfl⟩ := hp.shape
        go_wp2_with fail
        refine (MT _ _ (hp.gr ?_)).mono ?_
        · exact (by with_reducible repeat (first | exact IsGr.refl _ | exact IsGr.gapp0 _ _ _ _ | exact IsGr.gapp1 _ _ _ _ _ | exact IsGr.gapp2 _ _ _ _ _ _ | exact IsGr.gapp3 _ _ _ _ _ _ _ | exact IsGr.gapp4 _ _ _ _ _ _ _ _ | exact IsGr.gapp5 _ _ _ _ _ _ _ _ _ | exact IsGr.gapp6 _ _ _ _ _ _ _ _ _ _ | exact IsGr.gapp7 _ _ _ _ _ _ _ _ _ _ _ | exact IsGr.gapp8 _ _ _ _ _ _ _ _ _ _ _ _ | refine IsGr.gr ?_ _ _ | refine IsGr.alloc ?_ _ | refine IsGr.drew ?_))
        rintro e w1 ⟨q, rfl, hq, os2, m2, rfl⟩
        (try simp only [Gr.of_drew] at hq); (try simp only [Gr.gr] at hq); (try simp only [Array.append_assoc] at hq)
        obtain ⟨zs, za, zn, zc, rfl⟩ := hq.shape
        go_wp2
        go_meet
        case rel =>
          refine ⟨⟨_, zs, za, zn, zc, rfl, ?_, ?_, ?_, hq.kb ?_⟩, (by with_reducible repeat (first | exact IsGr.refl _ | refine IsGr.gr ?_ _ _ | refine IsGr.alloc ?_ _ | refine IsGr.drew ?_ | refine IsGr.drewN ?_ _))⟩
          · first | omega | (simp [Gr.size]; done) | (simp [Gr.size]; omega) | (simp; done) | (simp; omega)
          · simp [go_sem]
          · simp [go_sem]
          · with_reducible repeat (first | exact Kb.refl _ | refine Kb.box4 ?_ (by first | (simp; done) | (simp [Gr.size]; done)) _ _ _ _ _ _ _ _ _ _ _ _ _ _ _ _ _ | refine Kb.lay ?_ _ | refine Kb.gr ?_ (by first | (simp; done) | (simp [Gr.size]; done)) _ _ _ | refine Kb.gr_app ?_ (by first | (simp; done) | (simp [Gr.size]; done)) _ _ _ _ | exact Kb.of_gr (IsGr.gapp2 _ _ _ _ _ _) | exact Kb.of_gr (IsGr.gapp3 _ _ _ _ _ _ _) | refine Kb.grow ?_ _ _ | refine Kb.drew_l ?_ | refine Kb.drew_r ?_)
      case rest =>
        obtain ⟨⟨gl, ls, la, ln, lc, rfl, kl, l1, l2, BL⟩, hgr⟩ := hcut
        obtain ⟨W3, hW9⟩ : ∃ W3, W3 = wc := ⟨_, rfl⟩
        subst hW9
        replace r0 := hgr.cell_at kg r0
        replace r1 := hgr.cell_at kg r1
        replace r2 := hgr.cell_at kg r2
        replace r3 := hgr.cell_at kg r3
        replace r4 := hgr.cell_at kg r4
        replace r5 := hgr.cell_at kg r5
        replace r6 := hgr.cell_at kg r6
        replace r7 := hgr.cell_at kg r7
        replace kg : g7 < W3.heap.size := Nat.lt_of_lt_of_le kg hgr.size
        obtain ⟨kx, x1, x2, fx1, fx2⟩ := block_cells (hgr.block bx)
        obtain ⟨ky, y1, y2, fy1, fy2⟩ := block_cells (hgr.block bq)
        replace BX := BX.gr hgr
        replace BY := BY.gr hgr
        replace HG : Hid (IsGr w W3) := HG.out.trans hgr
        clear hgr bx bq CP MT
        have SX := fun w1 (hg : IsGr W3 w1) => BigSign_any _ d w1 (BY.gr hg) sd
        have EX := fun w1 (hg : IsGr W3 w1) => BigCmp_any _ _ n (0 - 57896044618658097711785492504343953926634992332820282019728792003956564819968) w1 (BX.gr hg) (BL.gr hg) sn st
        have EY := fun w1 (hg : IsGr W3 w1) => BigCmp_any _ _ d (0 - 57896044618658097711785492504343953926634992332820282019728792003956564819968) w1 (BY.gr hg) (BL.gr hg) sd st
        have heR := fun w => eqR_t Is.zero Is.zero Is.zero Is.zero rfl rfl w
        rcases Int.lt_trichotomy d 0 with hz | hz | hz
        · rw [cmpI_lt hz] at SX
          by_cases h1 : n = -57896044618658097711785492504343953926634992332820282019728792003956564819968
          · rw [cmpI_eq (by omega)] at EX
            obtain ⟨rfl, rfl, rfl, rfl, rfl, rfl, rfl, rfl, rfl⟩ : ok = false ∧ s0 = 0 ∧ s1 = 0 ∧ s2 = 0 ∧ s3 = 0 ∧ t0 = 0 ∧ t1 = 0 ∧ t2 = 0 ∧ t3 = 0 := by
              rcases hN with ⟨h0, h3, h4, h5⟩ | ⟨h0, _, h3⟩
              · exfalso
                first | exact h3 hz | (have h6 := h5 hz; have h7 := h6.1.2; have h8 := h6.2.2; omega)
              · exact ⟨h0, h3⟩
            clear hN
            go_wp2_with fail
            refine (SX _ ?_).mono ?_
            · exact (by with_reducible repeat (first | exact IsGr.refl _ | refine IsGr.gr ?_ _ _ | refine IsGr.alloc ?_ _ | refine IsGr.drew ?_ | refine IsGr.drewN ?_ _))
            rintro e w1 ⟨rfl, os1, m1, rfl⟩
            go_wp2_with fail
            refine (SX _ ?_).mono ?_
            · exact (by with_reducible repeat (first | exact IsGr.refl _ | refine IsGr.gr ?_ _ _ | refine IsGr.alloc ?_ _ | refine IsGr.drew ?_ | refine IsGr.drewN ?_ _))
            rintro e w1 ⟨rfl, os2, m2, rfl⟩
            go_wp2_with fail
            refine (EX _ ?_).mono ?_
            · exact (by with_reducible repeat (first | exact IsGr.refl _ | refine IsGr.gr ?_ _ _ | refine IsGr.alloc ?_ _ | refine IsGr.drew ?_ | refine IsGr.drewN ?_ _))
            rintro e w1 ⟨rfl, os3, m3, rfl⟩
            go_wp2_with fail
            refine (CA _).mono ?_
            rintro e w1 ⟨rfl, os10, m10, rfl⟩
            go_wp2
            go_ret
            exact ⟨rfl, HG.out.trans (by with_reducible repeat (first | exact IsGr.refl _ | refine IsGr.gr ?_ _ _ | refine IsGr.alloc ?_ _ | refine IsGr.drew ?_ | refine IsGr.drewN ?_ _))⟩
          · rw [cmpI_gt (by have := bn.out; omega)] at EX
            by_cases h2 : d = -57896044618658097711785492504343953926634992332820282019728792003956564819968
            · rw [cmpI_eq (by omega)] at EY
              obtain ⟨rfl, rfl, rfl, rfl, rfl, rfl, rfl, rfl, rfl⟩ : ok = false ∧ s0 = 0 ∧ s1 = 0 ∧ s2 = 0 ∧ s3 = 0 ∧ t0 = 0 ∧ t1 = 0 ∧ t2 = 0 ∧ t3 = 0 := by
                rcases hN with ⟨h0, h3, h4, h5⟩ | ⟨h0, _, h3⟩
                · exfalso
                  first | exact h3 hz | (have h6 := h5 hz; have h7 := h6.1.2; have h8 := h6.2.2; omega)
                · exact ⟨h0, h3⟩
              clear hN
              go_wp2_with fail
              refine (SX _ ?_).mono ?_
              · exact (by with_reducible repeat (first | exact IsGr.refl _ | refine IsGr.gr ?_ _ _ | refine IsGr.alloc ?_ _ | refine IsGr.drew ?_ | refine IsGr.drewN ?_ _))
              rintro e w1 ⟨rfl, os1, m1, rfl⟩
              go_wp2_with fail
              refine (SX _ ?_).mono ?_
              · exact (by with_reducible repeat (first | exact IsGr.refl _ | refine IsGr.gr ?_ _ _ | refine IsGr.alloc ?_ _ | refine IsGr.drew ?_ | refine IsGr.drewN ?_ _))
              rintro e w1 ⟨rfl, os2, m2, rfl⟩
              go_wp2_with fail
              refine (EX _ ?_).mono ?_
              · exact (by with_reducible repeat (first | exact IsGr.refl _ | refine IsGr.gr ?_ _ _ | refine IsGr.alloc ?_ _ | refine IsGr.drew ?_ | refine IsGr.drewN ?_ _))
              rintro e w1 ⟨rfl, os3, m3, rfl⟩
              go_wp2_with fail
              refine (EY _ ?_).mono ?_
              · exact (by with_reducible repeat (first | exact IsGr.refl _ | refine IsGr.gr ?_ _ _ | refine IsGr.alloc ?_ _ | refine IsGr.drew ?_ | refine IsGr.drewN ?_ _))
              rintro e w1 ⟨rfl, os4, m4, rfl⟩
              go_wp2_with fail
              refine (CA _).mono ?_
              rintro e w1 ⟨rfl, os10, m10, rfl⟩
              go_wp2
              go_ret
              exact ⟨rfl, HG.out.trans (by with_reducible repeat (first | exact IsGr.refl _ | refine IsGr.gr ?_ _ _ | refine IsGr.alloc ?_ _ | refine IsGr.drew ?_ | refine IsGr.drewN ?_ _))⟩
            · rw [cmpI_gt (by have := bd.out; omega)] at EY
              obtain ⟨rfl, hs, ht⟩ : ok = true ∧ IsI s0 s1 s2 s3 (0 - n) ∧ IsI t0 t1 t2 t3 (0 - d) := by
                rcases hN with ⟨h0, _, _, h3⟩ | ⟨_, h3, _⟩
                · exact ⟨h0, h3 hz⟩
                · omega
              have MX := fun w1 (hg : IsGr W3 w1) => Minus_any _ n w1 (BX.gr hg) sn
              have MY := fun w1 (hg : IsGr W3 w1) => Minus_any _ d w1 (BY.gr hg) sd
              have hpos : 0 < 0 - d := by omega
              clear hN h1 h2 hz heR
              go_wp2_with fail
              refine (SX _ ?_).mono ?_
              · exact (by with_reducible repeat (first | exact IsGr.refl _ | refine IsGr.gr ?_ _ _ | refine IsGr.alloc ?_ _ | refine IsGr.drew ?_ | refine IsGr.drewN ?_ _))
              rintro e w1 ⟨rfl, os1, m1, rfl⟩
              go_wp2_with fail
              refine (SX _ ?_).mono ?_
              · exact (by with_reducible repeat (first | exact IsGr.refl _ | refine IsGr.gr ?_ _ _ | refine IsGr.alloc ?_ _ | refine IsGr.drew ?_ | refine IsGr.drewN ?_ _))
              rintro e w1 ⟨rfl, os2, m2, rfl⟩
              go_wp2_with fail
              refine (EX _ ?_).mono ?_
              · exact (by with_reducible repeat (first | exact IsGr.refl _ | refine IsGr.gr ?_ _ _ | refine IsGr.alloc ?_ _ | refine IsGr.drew ?_ | refine IsGr.drewN ?_ _))
              rintro e w1 ⟨rfl, os3, m3, rfl⟩
              go_wp2_with fail
              refine (EY _ ?_).mono ?_
              · exact (by with_reducible repeat (first | exact IsGr.refl _ | refine IsGr.gr ?_ _ _ | refine IsGr.alloc ?_ _ | refine IsGr.drew ?_ | refine IsGr.drewN ?_ _))
              rintro e w1 ⟨rfl, os4, m4, rfl⟩
              go_upto_region 8 with fail
              go_cut [12] (fun t12 wr => ∃ (us vs : Bool) (ua va : Option Addr) (un uc vn vc : Nat), t12 = .bool true ∧ (wr.cell? ⟨gx, 0, none⟩ = some (.bool us) ∧ wr.cell? ⟨gx, 1, none⟩ = some (.slice ua un uc)) ∧ (wr.cell? ⟨gy, 0, none⟩ = some (.bool vs) ∧ wr.cell? ⟨gy, 1, none⟩ = some (.slice va vn vc)) ∧ IsBig wr (.agg #[.bool us, .slice ua un uc]) (0 - n) ∧ IsBig wr (.agg #[.bool vs, .slice va vn vc]) (0 - d) ∧ (wr.cell? ⟨g7, 0, none⟩ = some (.int .u64 s0) ∧ wr.cell? ⟨g7, 1, none⟩ = some (.int .u64 s1) ∧ wr.cell? ⟨g7, 2, none⟩ = some (.int .u64 s2) ∧ wr.cell? ⟨g7, 3, none⟩ = some (.int .u64 s3) ∧ wr.cell? ⟨g7, 4, none⟩ = some (.int .u64 t0) ∧ wr.cell? ⟨g7, 5, none⟩ = some (.int .u64 t1) ∧ wr.cell? ⟨g7, 6, none⟩ = some (.int .u64 t2) ∧ wr.cell? ⟨g7, 7, none⟩ = some (.int .u64 t3)) ∧ g7 < wr.heap.size ∧ gx < wr.heap.size ∧ gy < wr.heap.size ∧ IsGr w wr)
              case first =>
                have KS : ∀ v0 v1 v2 v3 : Value, Kb W3 ((((W3.setCell ⟨gx, 0, none⟩ v0).setCell ⟨gx, 1, none⟩ v1).setCell ⟨gy, 0, none⟩ v2).setCell ⟨gy, 1, none⟩ v3) := fun v0 v1 v2 v3 =>
                  ((((Kb.refl _).set _ _ x1 (by simp)).set _ _ x2 (by simp)).set _ _ y1 (by simp)).set _ _ y2 (by simp)
                have GS : ∀ v0 v1 v2 v3 : Value, IsGr w ((((W3.setCell ⟨gx, 0, none⟩ v0).setCell ⟨gx, 1, none⟩ v1).setCell ⟨gy, 0, none⟩ v2).setCell ⟨gy, 1, none⟩ v3) := fun v0 v1 v2 v3 =>
                  IsGr.of_below (Below.setCell (Below.setCell (Below.setCell (Below.setCell HG.out.below (by simpa using wx) _) (by simpa using wx) _) (by simpa using wy) _) (by simpa using wy) _)
                clear O1 O2 O3 EQ CA SX EX EY hs ht BL kl l1 l2
                refine wp_region_held_drew (S := (fun _ => True)) (by kernel_rfl) (by (try dsimp only); first | done | trivial) (fun hHeld => ?_)
                refine wpAnyH_ready (rs := [0, 2]) (by kernel_rfl) (by simp) ?_
                refine AllReadyH.cons (o := { dst := some 57, op := Op.load 31 (Operand.tmp 9), type := 31, pos := "law.go:36", after := #[], guard := none }) rfl (fun K hK => ?_) ?_
                · go_simp
                  refine hK.out _ _ (by (try dsimp only); first | done | trivial) (fun hHeld2 => ?_)
                  clear hK K hHeld
                  have hHeld := hHeld2
                  clear hHeld2
                  (try simp only [Act.put, List.setIfInBounds_toArray, List.set_cons_zero, List.set_cons_succ])
                  refine wpAnyH_ready (rs := [1, 2]) (by kernel_rfl) (by simp) ?_
                  refine AllReadyH.cons (o := { dst := some 58, op := Op.call { callee := Callee.value (Operand.func 12), args := #[Operand.tmp 57], argTypes := #[31] }, type := 31, pos := "law.go:36", after := #[{ on := 0, ground := Ground.data }], guard := none }) rfl (fun K hK => ?_) ?_
                  · go_simp
                    refine (MX _ ?_).mono ?_
                    · exact (by with_reducible repeat (first | exact IsGr.refl _ | refine IsGr.gr ?_ _ _ | refine IsGr.alloc ?_ _ | refine IsGr.drew ?_ | refine IsGr.drewN ?_ _))
                    rintro e w1 ⟨u, rfl, hu, os5, m5, rfl⟩
                    (try simp only [Gr.of_drew] at hu); (try simp only [Gr.gr] at hu); (try simp only [Array.append_assoc] at hu)
                    obtain ⟨us, ua, un, uc, rfl⟩ := hu.shape
                    (try go_wp2_with fail)
                    refine hK.out _ _ (by (try dsimp only); first | done | trivial) (fun hHeld2 => ?_)
                    clear hK K hHeld
                    have hHeld := hHeld2
                    clear hHeld2
                    (try simp only [Act.put, List.setIfInBounds_toArray, List.set_cons_zero, List.set_cons_succ])
                    refine wpAnyH_ready (rs := [2]) (by kernel_rfl) (by simp) ?_
                    refine AllReadyH.cons (o := { dst := some 59, op := Op.load 31 (Operand.tmp 10), type := 31, pos := "law.go:36", after := #[], guard := none }) rfl (fun K hK => ?_) ?_
                    · go_simp
                      refine hK.out _ _ (by (try dsimp only); first | done | trivial) (fun hHeld2 => ?_)
                      clear hK K hHeld
                      have hHeld := hHeld2
                      clear hHeld2
                      (try simp only [Act.put, List.setIfInBounds_toArray, List.set_cons_zero, List.set_cons_succ])
                      refine wpAnyH_ready (rs := [3]) (by kernel_rfl) (by simp) ?_
                      refine AllReadyH.cons (o := { dst := some 60, op := Op.call { callee := Callee.value (Operand.func 12), args := #[Operand.tmp 59], argTypes := #[31] }, type := 31, pos := "law.go:36", after := #[{ on := 2, ground := Ground.data }, { on := 1, ground := Ground.chain }], guard := none }) rfl (fun K hK => ?_) ?_
                      · go_simp
                        refine (MY _ ?_).mono ?_
                        · exact (by with_reducible repeat (first | exact IsGr.refl _ | refine IsGr.gr ?_ _ _ | refine IsGr.alloc ?_ _ | refine IsGr.drew ?_ | refine IsGr.drewN ?_ _))
                        rintro e w1 ⟨v, rfl, hv, os6, m6, rfl⟩
                        (try simp only [Gr.of_drew] at hv); (try simp only [Gr.gr] at hv); (try simp only [Array.append_assoc] at hv)
                        obtain ⟨vs, va, vn, vc, rfl⟩ := hv.shape
                        (try go_wp2_with fail)
                        refine hK.out _ _ (by (try dsimp only); first | done | trivial) (fun hHeld2 => ?_)
                        clear hK K hHeld
                        have hHeld := hHeld2
                        clear hHeld2
                        (try simp only [Act.put, List.setIfInBounds_toArray, List.set_cons_zero, List.set_cons_succ])
                        refine wpAnyH_ready (rs := [4]) (by kernel_rfl) (by simp) ?_
                        refine AllReadyH.cons (o := { dst := none, op := Op.store 31 (Operand.tmp 9) (Operand.tmp 58), type := 0, pos := "law.go:36", after := #[{ on := 1, ground := Ground.data }, { on := 3, ground := Ground.chain }, { on := 0, ground := Ground.phase }, { on := 1, ground := Ground.phase }, { on := 2, ground := Ground.textOnly Departure.lateStores }, { on := 3, ground := Ground.textOnly Departure.lateStoresUnsure }], guard := none }) rfl (fun K hK => ?_) ?_
                        · go_simp
                          refine hK.out _ _ (by (try dsimp only); first | done | trivial) (fun hHeld2 => ?_)
                          clear hK K hHeld
                          have hHeld := hHeld2
                          clear hHeld2
                          (try simp only [Act.put, List.setIfInBounds_toArray, List.set_cons_zero, List.set_cons_succ])
                          refine wpAnyH_ready (rs := [5]) (by kernel_rfl) (by simp) ?_
                          refine AllReadyH.cons (o := { dst := none, op := Op.store 31 (Operand.tmp 10) (Operand.tmp 60), type := 0, pos := "law.go:36", after := #[{ on := 3, ground := Ground.data }, { on := 4, ground := Ground.chain }, { on := 0, ground := Ground.phase }, { on := 1, ground := Ground.phase }, { on := 2, ground := Ground.phase }, { on := 3, ground := Ground.phase }, { on := 4, ground := Ground.phase }], guard := none }) rfl (fun K hK => ?_) ?_
                          · go_simp
                            refine hK.out _ _ (by (try dsimp only); first | done | trivial) (fun hHeld2 => ?_)
                            clear hK K hHeld
                            have hHeld := hHeld2
                            clear hHeld2
                            (try simp only [Act.put, List.setIfInBounds_toArray, List.set_cons_zero, List.set_cons_succ])
                            refine wpAnyH_done (by kernel_rfl) ?_ _
                            have hu' : IsBig (Gr W3 (os1 ++ (os2 ++ (os3 ++ (os4 ++ (os5 ++ os6))))) m6) (.agg #[.bool us, .slice ua un uc]) (0 - n) := hu.gr (by with_reducible repeat (first | exact IsGr.refl _ | exact IsGr.gapp0 _ _ _ _ | exact IsGr.gapp1 _ _ _ _ _ | exact IsGr.gapp2 _ _ _ _ _ _ | exact IsGr.gapp3 _ _ _ _ _ _ _ | exact IsGr.gapp4 _ _ _ _ _ _ _ _ | exact IsGr.gapp5 _ _ _ _ _ _ _ _ _ | exact IsGr.gapp6 _ _ _ _ _ _ _ _ _ _ | exact IsGr.gapp7 _ _ _ _ _ _ _ _ _ _ _ | exact IsGr.gapp8 _ _ _ _ _ _ _ _ _ _ _ _ | refine IsGr.gr ?_ _ _ | refine IsGr.alloc ?_ _ | refine IsGr.drew ?_))
                            clear hu
                            go_wp2
                            go_meet
                            case rel =>
                              refine ⟨us, vs, ua, va, un, uc, vn, vc, rfl, ?_, ?_, hu'.kb ?_, hv.kb ?_, ?_, ?_, ?_, ?_, ?_⟩
                              · simp [go_sem, kx, x1, x2]
                              · simp [go_sem, ky, y1, y2]
                              · with_reducible repeat (first | exact KS _ _ _ _ | refine Kb.gr ?_ (by first | (simp; done) | (simp [Gr.size]; done)) _ _ _ | refine Kb.gr_app ?_ (by first | (simp; done) | (simp [Gr.size]; done)) _ _ _ _ | refine Kb.grow ?_ _ _ | refine Kb.drew_l ?_ | refine Kb.drew_r ?_)
                              · with_reducible repeat (first | exact KS _ _ _ _ | refine Kb.gr ?_ (by first | (simp; done) | (simp [Gr.size]; done)) _ _ _ | refine Kb.gr_app ?_ (by first | (simp; done) | (simp [Gr.size]; done)) _ _ _ _ | refine Kb.grow ?_ _ _ | refine Kb.drew_l ?_ | refine Kb.drew_r ?_)
                              · simp [go_sem, kg, r0, r1, r2, r3, r4, r5, r6, r7]
                              · first | omega | (simp [Gr.size]; done) | (simp [Gr.size]; omega) | (simp; done) | (simp; omega)
                              · first | omega | (simp [Gr.size]; done) | (simp [Gr.size]; omega) | (simp; done) | (simp; omega)
                              · first | omega | (simp [Gr.size]; done) | (simp [Gr.size]; omega) | (simp; done) | (simp; omega)
                              · with_reducible repeat (first | exact GS _ _ _ _ | refine IsGr.gr ?_ _ _ | refine IsGr.drew ?_)
                          exact AllReadyH.nil
                        exact AllReadyH.nil
                      exact AllReadyH.nil
                    exact AllReadyH.nil
                  refine AllReadyH.cons (o := { dst := some 59, op := Op.load 31 (Operand.tmp 10), type := 31, pos := "law.go:36", after := #[], guard := none }) rfl (fun K hK => ?_) ?_
                  · go_simp
                    refine hK.out _ _ (by (try dsimp only); first | done | trivial) (fun hHeld2 => ?_)
                    clear hK K hHeld
                    have hHeld := hHeld2
                    clear hHeld2
                    (try simp only [Act.put, List.setIfInBounds_toArray, List.set_cons_zero, List.set_cons_succ])
                    refine wpAnyH_ready (rs := [1]) (by kernel_rfl) (by simp) ?_
                    refine AllReadyH.cons (o := { dst := some 58, op := Op.call { callee := Callee.value (Operand.func 12), args := #[Operand.tmp 57], argTypes := #[31] }, type := 31, pos := "law.go:36", after := #[{ on := 0, ground := Ground.data }], guard := none }) rfl (fun K hK => ?_) ?_
                    · go_simp
                      refine (MX _ ?_).mono ?_
                      · exact (by with_reducible repeat (first | exact IsGr.refl _ | refine IsGr.gr ?_ _ _ | refine IsGr.alloc ?_ _ | refine IsGr.drew ?_ | refine IsGr.drewN ?_ _))
                      rintro e w1 ⟨u, rfl, hu, os5, m5, rfl⟩
                      (try simp only [Gr.of_drew] at hu); (try simp only [Gr.gr] at hu); (try simp only [Array.append_assoc] at hu)
                      obtain ⟨us, ua, un, uc, rfl⟩ := hu.shape
                      (try go_wp2_with fail)
                      refine hK.out _ _ (by (try dsimp only); first | done | trivial) (fun hHeld2 => ?_)
                      clear hK K hHeld
                      have hHeld := hHeld2
                      clear hHeld2
                      (try simp only [Act.put, List.setIfInBounds_toArray, List.set_cons_zero, List.set_cons_succ])
                      refine wpAnyH_ready (rs := [3]) (by kernel_rfl) (by simp) ?_
                      refine AllReadyH.cons (o := { dst := some 60, op := Op.call { callee := Callee.value (Operand.func 12), args := #[Operand.tmp 59], argTypes := #[31] }, type := 31, pos := "law.go:36", after := #[{ on := 2, ground := Ground.data }, { on := 1, ground := Ground.chain }], guard := none }) rfl (fun K hK => ?_) ?_
                      · go_simp
                        refine (MY _ ?_).mono ?_
                        · exact (by with_reducible repeat (first | exact IsGr.refl _ | refine IsGr.gr ?_ _ _ | refine IsGr.alloc ?_ _ | refine IsGr.drew ?_ | refine IsGr.drewN ?_ _))
                        rintro e w1 ⟨v, rfl, hv, os6, m6, rfl⟩
                        (try simp only [Gr.of_drew] at hv); (try simp only [Gr.gr] at hv); (try simp only [Array.append_assoc] at hv)
                        obtain ⟨vs, va, vn, vc, rfl⟩ := hv.shape
                        (try go_wp2_with fail)
                        refine hK.out _ _ (by (try dsimp only); first | done | trivial) (fun hHeld2 => ?_)
                        clear hK K hHeld
                        have hHeld := hHeld2
                        clear hHeld2
                        (try simp only [Act.put, List.setIfInBounds_toArray, List.set_cons_zero, List.set_cons_succ])
                        refine wpAnyH_ready (rs := [4]) (by kernel_rfl) (by simp) ?_
                        refine AllReadyH.cons (o := { dst := none, op := Op.store 31 (Operand.tmp 9) (Operand.tmp 58), type := 0, pos := "law.go:36", after := #[{ on := 1, ground := Ground.data }, { on := 3, ground := Ground.chain }, { on := 0, ground := Ground.phase }, { on := 1, ground := Ground.phase }, { on := 2, ground := Ground.textOnly Departure.lateStores }, { on := 3, ground := Ground.textOnly Departure.lateStoresUnsure }], guard := none }) rfl (fun K hK => ?_) ?_
                        · go_simp
                          refine hK.out _ _ (by (try dsimp only); first | done | trivial) (fun hHeld2 => ?_)
                          clear hK K hHeld
                          have hHeld := hHeld2
                          clear hHeld2
                          (try simp only [Act.put, List.setIfInBounds_toArray, List.set_cons_zero, List.set_cons_succ])
                          refine wpAnyH_ready (rs := [5]) (by kernel_rfl) (by simp) ?_
                          refine AllReadyH.cons (o := { dst := none, op := Op.store 31 (Operand.tmp 10) (Operand.tmp 60), type := 0, pos := "law.go:36", after := #[{ on := 3, ground := Ground.data }, { on := 4, ground := Ground.chain }, { on := 0, ground := Ground.phase }, { on := 1, ground := Ground.phase }, { on := 2, ground := Ground.phase }, { on := 3, ground := Ground.phase }, { on := 4, ground := Ground.phase }], guard := none }) rfl (fun K hK => ?_) ?_
                          · go_simp
                            refine hK.out _ _ (by (try dsimp only); first | done | trivial) (fun hHeld2 => ?_)
                            clear hK K hHeld
                            have hHeld := hHeld2
                            clear hHeld2
                            (try simp only [Act.put, List.setIfInBounds_toArray, List.set_cons_zero, List.set_cons_succ])
                            refine wpAnyH_done (by kernel_rfl) ?_ _
                            have hu' : IsBig (Gr W3 (os1 ++ (os2 ++ (os3 ++ (os4 ++ (os5 ++ os6))))) m6) (.agg #[.bool us, .slice ua un uc]) (0 - n) := hu.gr (by with_reducible repeat (first | exact IsGr.refl _ | exact IsGr.gapp0 _ _ _ _ | exact IsGr.gapp1 _ _ _ _ _ | exact IsGr.gapp2 _ _ _ _ _ _ | exact IsGr.gapp3 _ _ _ _ _ _ _ | exact IsGr.gapp4 _ _ _ _ _ _ _ _ | exact IsGr.gapp5 _ _ _ _ _ _ _ _ _ | exact IsGr.gapp6 _ _ _ _ _ _ _ _ _ _ | exact IsGr.gapp7 _ _ _ _ _ _ _ _ _ _ _ | exact IsGr.gapp8 _ _ _ _ _ _ _ _ _ _ _ _ | refine IsGr.gr ?_ _ _ | refine IsGr.alloc ?_ _ | refine IsGr.drew ?_))
                            clear hu
                            go_wp2
                            go_meet
                            case rel =>
                              refine ⟨us, vs, ua, va, un, uc, vn, vc, rfl, ?_, ?_, hu'.kb ?_, hv.kb ?_, ?_, ?_, ?_, ?_, ?_⟩
                              · simp [go_sem, kx, x1, x2]
                              · simp [go_sem, ky, y1, y2]
                              · with_reducible repeat (first | exact KS _ _ _ _ | refine Kb.gr ?_ (by first | (simp; done) | (simp [Gr.size]; done)) _ _ _ | refine Kb.gr_app ?_ (by first | (simp; done) | (simp [Gr.size]; done)) _ _ _ _ | refine Kb.grow ?_ _ _ | refine Kb.drew_l ?_ | refine Kb.drew_r ?_)
                              · with_reducible repeat (first | exact KS _ _ _ _ | refine Kb.gr ?_ (by first | (simp; done) | (simp [Gr.size]; done)) _ _ _ | refine Kb.gr_app ?_ (by first | (simp; done) | (simp [Gr.size]; done)) _ _ _ _ | refine Kb.grow ?_ _ _ | refine Kb.drew_l ?_ | refine Kb.drew_r ?_)
                              · simp [go_sem, kg, r0, r1, r2, r3, r4, r5, r6, r7]
                              · first | omega | (simp [Gr.size]; done) | (simp [Gr.size]; omega) | (simp; done) | (simp; omega)
                              · first | omega | (simp [Gr.size]; done) | (simp [Gr.size]; omega) | (simp; done) | (simp; omega)
                              · first | omega | (simp [Gr.size]; done) | (simp [Gr.size]; omega) | (simp; done) | (simp; omega)
                              · with_reducible repeat (first | exact GS _ _ _ _ | refine IsGr.gr ?_ _ _ | refine IsGr.drew ?_)
                          exact AllReadyH.nil
                        exact AllReadyH.nil
                      exact AllReadyH.nil
                    exact AllReadyH.nil
                  exact AllReadyH.nil
                refine AllReadyH.cons (o := { dst := some 59, op := Op.load 31 (Operand.tmp 10), type := 31, pos := "law.go:36", after := #[], guard := none }) rfl (fun K hK => ?_) ?_
                · go_simp
                  refine hK.out _ _ (by (try dsimp only); first | done | trivial) (fun hHeld2 => ?_)
                  clear hK K hHeld
                  have hHeld := hHeld2
                  clear hHeld2
                  (try simp only [Act.put, List.setIfInBounds_toArray, List.set_cons_zero, List.set_cons_succ])
                  refine wpAnyH_ready (rs := [0]) (by kernel_rfl) (by simp) ?_
                  refine AllReadyH.cons (o := { dst := some 57, op := Op.load 31 (Operand.tmp 9), type := 31, pos := "law.go:36", after := #[], guard := none }) rfl (fun K hK => ?_) ?_
                  · go_simp
                    refine hK.out _ _ (by (try dsimp only); first | done | trivial) (fun hHeld2 => ?_)
                    clear hK K hHeld
                    have hHeld := hHeld2
                    clear hHeld2
                    (try simp only [Act.put, List.setIfInBounds_toArray, List.set_cons_zero, List.set_cons_succ])
                    refine wpAnyH_ready (rs := [1]) (by kernel_rfl) (by simp) ?_
                    refine AllReadyH.cons (o := { dst := some 58, op := Op.call { callee := Callee.value (Operand.func 12), args := #[Operand.tmp 57], argTypes := #[31] }, type := 31, pos := "law.go:36", after := #[{ on := 0, ground := Ground.data }], guard := none }) rfl (fun K hK => ?_) ?_
                    · go_simp
                      refine (MX _ ?_).mono ?_
                      · exact (by with_reducible repeat (first | exact IsGr.refl _ | refine IsGr.gr ?_ _ _ | refine IsGr.alloc ?_ _ | refine IsGr.drew ?_ | refine IsGr.drewN ?_ _))
                      rintro e w1 ⟨u, rfl, hu, os5, m5, rfl⟩
                      (try simp only [Gr.of_drew] at hu); (try simp only [Gr.gr] at hu); (try simp only [Array.append_assoc] at hu)
                      obtain ⟨us, ua, un, uc, rfl⟩ := hu.shape
                      (try go_wp2_with fail)
                      refine hK.out _ _ (by (try dsimp only); first | done | trivial) (fun hHeld2 => ?_)
                      clear hK K hHeld
                      have hHeld := hHeld2
                      clear hHeld2
                      (try simp only [Act.put, List.setIfInBounds_toArray, List.set_cons_zero, List.set_cons_succ])
                      refine wpAnyH_ready (rs := [3]) (by kernel_rfl) (by simp) ?_
                      refine AllReadyH.cons (o := { dst := some 60, op := Op.call { callee := Callee.value (Operand.func 12), args := #[Operand.tmp 59], argTypes := #[31] }, type := 31, pos := "law.go:36", after := #[{ on := 2, ground := Ground.data }, { on := 1, ground := Ground.chain }], guard := none }) rfl (fun K hK => ?_) ?_
                      · go_simp
                        refine (MY _ ?_).mono ?_
                        · exact (by with_reducible repeat (first | exact IsGr.refl _ | refine IsGr.gr ?_ _ _ | refine IsGr.alloc ?_ _ | refine IsGr.drew ?_ | refine IsGr.drewN ?_ _))
                        rintro e w1 ⟨v, rfl, hv, os6, m6, rfl⟩
                        (try simp only [Gr.of_drew] at hv); (try simp only [Gr.gr] at hv); (try simp only [Array.append_assoc] at hv)
                        obtain ⟨vs, va, vn, vc, rfl⟩ := hv.shape
                        (try go_wp2_with fail)
                        refine hK.out _ _ (by (try dsimp only); first | done | trivial) (fun hHeld2 => ?_)
                        clear hK K hHeld
                        have hHeld := hHeld2
                        clear hHeld2
                        (try simp only [Act.put, List.setIfInBounds_toArray, List.set_cons_zero, List.set_cons_succ])
                        refine wpAnyH_ready (rs := [4]) (by kernel_rfl) (by simp) ?_
                        refine AllReadyH.cons (o := { dst := none, op := Op.store 31 (Operand.tmp 9) (Operand.tmp 58), type := 0, pos := "law.go:36", after := #[{ on := 1, ground := Ground.data }, { on := 3, ground := Ground.chain }, { on := 0, ground := Ground.phase }, { on := 1, ground := Ground.phase }, { on := 2, ground := Ground.textOnly Departure.lateStores }, { on := 3, ground := Ground.textOnly Departure.lateStoresUnsure }], guard := none }) rfl (fun K hK => ?_) ?_
                        · go_simp
                          refine hK.out _ _ (by (try dsimp only); first | done | trivial) (fun hHeld2 => ?_)
                          clear hK K hHeld
                          have hHeld := hHeld2
                          clear hHeld2
                          (try simp only [Act.put, List.setIfInBounds_toArray, List.set_cons_zero, List.set_cons_succ])
                          refine wpAnyH_ready (rs := [5]) (by kernel_rfl) (by simp) ?_
                          refine AllReadyH.cons (o := { dst := none, op := Op.store 31 (Operand.tmp 10) (Operand.tmp 60), type := 0, pos := "law.go:36", after := #[{ on := 3, ground := Ground.data }, { on := 4, ground := Ground.chain }, { on := 0, ground := Ground.phase }, { on := 1, ground := Ground.phase }, { on := 2, ground := Ground.phase }, { on := 3, ground := Ground.phase }, { on := 4, ground := Ground.phase }], guard := none }) rfl (fun K hK => ?_) ?_
                          · go_simp
                            refine hK.out _ _ (by (try dsimp only); first | done | trivial) (fun hHeld2 => ?_)
                            clear hK K hHeld
                            have hHeld := hHeld2
                            clear hHeld2
                            (try simp only [Act.put, List.setIfInBounds_toArray, List.set_cons_zero, List.set_cons_succ])
                            refine wpAnyH_done (by kernel_rfl) ?_ _
                            have hu' : IsBig (Gr W3 (os1 ++ (os2 ++ (os3 ++ (os4 ++ (os5 ++ os6))))) m6) (.agg #[.bool us, .slice ua un uc]) (0 - n) := hu.gr (by with_reducible repeat (first | exact IsGr.refl _ | exact IsGr.gapp0 _ _ _ _ | exact IsGr.gapp1 _ _ _ _ _ | exact IsGr.gapp2 _ _ _ _ _ _ | exact IsGr.gapp3 _ _ _ _ _ _ _ | exact IsGr.gapp4 _ _ _ _ _ _ _ _ | exact IsGr.gapp5 _ _ _ _ _ _ _ _ _ | exact IsGr.gapp6 _ _ _ _ _ _ _ _ _ _ | exact IsGr.gapp7 _ _ _ _ _ _ _ _ _ _ _ | exact IsGr.gapp8 _ _ _ _ _ _ _ _ _ _ _ _ | refine IsGr.gr ?_ _ _ | refine IsGr.alloc ?_ _ | refine IsGr.drew ?_))
                            clear hu
                            go_wp2
                            go_meet
                            case rel =>
                              refine ⟨us, vs, ua, va, un, uc, vn, vc, rfl, ?_, ?_, hu'.kb ?_, hv.kb ?_, ?_, ?_, ?_, ?_, ?_⟩
                              · simp [go_sem, kx, x1, x2]
                              · simp [go_sem, ky, y1, y2]
                              · with_reducible repeat (first | exact KS _ _ _ _ | refine Kb.gr ?_ (by first | (simp; done) | (simp [Gr.size]; done)) _ _ _ | refine Kb.gr_app ?_ (by first | (simp; done) | (simp [Gr.size]; done)) _ _ _ _ | refine Kb.grow ?_ _ _ | refine Kb.drew_l ?_ | refine Kb.drew_r ?_)
                              · with_reducible repeat (first | exact KS _ _ _ _ | refine Kb.gr ?_ (by first | (simp; done) | (simp [Gr.size]; done)) _ _ _ | refine Kb.gr_app ?_ (by first | (simp; done) | (simp [Gr.size]; done)) _ _ _ _ | refine Kb.grow ?_ _ _ | refine Kb.drew_l ?_ | refine Kb.drew_r ?_)
                              · simp [go_sem, kg, r0, r1, r2, r3, r4, r5, r6, r7]
                              · first | omega | (simp [Gr.size]; done) | (simp [Gr.size]; omega) | (simp; done) | (simp; omega)
                              · first | omega | (simp [Gr.size]; done) | (simp [Gr.size]; omega) | (simp; done) | (simp; omega)
                              · first | omega | (simp [Gr.size]; done) | (simp [Gr.size]; omega) | (simp; done) | (simp; omega)
                              · with_reducible repeat (first | exact GS _ _ _ _ | refine IsGr.gr ?_ _ _ | refine IsGr.drew ?_)
                          exact AllReadyH.nil
                        exact AllReadyH.nil
                      exact AllReadyH.nil
                    exact AllReadyH.nil
                  exact AllReadyH.nil
                exact AllReadyH.nil
              case rest =>
                obtain ⟨us, vs, ua, va, un, uc, vn, vc, rfl, ⟨u1, u2⟩, ⟨v1, v2⟩, BU, BV, ⟨c0, c1, c2, c3, c4, c5, c6, c7⟩, kg', kx', ky', hgr⟩ := hcut
                obtain ⟨W4, hW9⟩ : ∃ W4, W4 = wc := ⟨_, rfl⟩
                subst hW9
                clear r0 r1 r2 r3 r4 r5 r6 r7 x1 x2 y1 y2 kg kx ky HG MX MY
                have HG : Hid (IsGr w W4) := hgr
                clear hgr
                have RS := fun w => Read_any hs.1 hs.2.1 hs.2.2 w
                have RT := fun w => Read_any ht.1 ht.2.1 ht.2.2 w
                have E1 := fun w1 (hg : IsGr W4 w1) v (h : IsBig w1 v (0 - n)) => BigSame_any v _ (0 - n) w1 h (BU.gr hg) sn'
                have E2 := fun w1 (hg : IsGr W4 w1) v (h : IsBig w1 v (0 - d)) => BigSame_any v _ (0 - d) w1 h (BV.gr hg) sd'
                have CT := fun w => Right_any s0 s1 s2 s3 t0 t1 t2 t3 (0 - d) ht w
                rw [show decide (0 < 0 - d) = true by simp; omega] at CT
                clear hs ht hpos
                go_upto_region 9 with fail
                refine wp_region_held_drew (S := (fun w' => (w'.cell? ⟨g7, 0, none⟩ = some (.int .u64 s0) ∧ w'.cell? ⟨g7, 1, none⟩ = some (.int .u64 s1) ∧ w'.cell? ⟨g7, 2, none⟩ = some (.int .u64 s2) ∧ w'.cell? ⟨g7, 3, none⟩ = some (.int .u64 s3) ∧ w'.cell? ⟨g7, 4, none⟩ = some (.int .u64 t0) ∧ w'.cell? ⟨g7, 5, none⟩ = some (.int .u64 t1) ∧ w'.cell? ⟨g7, 6, none⟩ = some (.int .u64 t2) ∧ w'.cell? ⟨g7, 7, none⟩ = some (.int .u64 t3)) ∧ (w'.cell? ⟨gx, 0, none⟩ = some (.bool us) ∧ w'.cell? ⟨gx, 1, none⟩ = some (.slice ua un uc)) ∧ (w'.cell? ⟨gy, 0, none⟩ = some (.bool vs) ∧ w'.cell? ⟨gy, 1, none⟩ = some (.slice va vn vc)))) (by kernel_rfl) (by (try dsimp only); simp [go_sem, c0, c1, c2, c3, c4, c5, c6, c7, u1, u2, v1, v2]) (fun hHeld => ?_)
                refine wpAnyH_take (i := 0) (oi := { dst := some 61, op := Op.move (Operand.tmp 8), type := 4, pos := "law.go:38", after := #[], guard := none }) (v := ?_) rfl (by kernel_rfl) (by kernel_rfl) (by kernel_rfl) (fun _ _ _ h => h) (Or.inl ⟨by rfl, ?_⟩) (by assumption) ?_
                rotate_left
                · (intro w hSw; (try dsimp only at hSw); go_simp <;> with_reducible rfl)
                (try simp only [Act.put, List.setIfInBounds_toArray, List.set_cons_zero, List.set_cons_succ])
                refine wpAnyH_take (i := 1) (oi := { dst := some 62, op := Op.move (Operand.tmp 61), type := 4, pos := "law.go:38", after := #[{ on := 0, ground := Ground.data }], guard := none }) (v := ?_) rfl (by kernel_rfl) (by kernel_rfl) (by kernel_rfl) (fun _ _ _ h => h) (Or.inl ⟨by rfl, ?_⟩) (by assumption) ?_
                rotate_left
                · (intro w hSw; (try dsimp only at hSw); go_simp <;> with_reducible rfl)
                (try simp only [Act.put, List.setIfInBounds_toArray, List.set_cons_zero, List.set_cons_succ])
                refine wpAnyH_take (i := 2) (oi := { dst := some 63, op := Op.fieldAddr 26 (Operand.tmp 7) 0, type := 0, pos := "law.go:38", after := #[{ on := 1, ground := Ground.guard }], guard := some (1, true) }) (v := ?_) rfl (by kernel_rfl) (by kernel_rfl) (by kernel_rfl) (fun _ _ _ h => h) (Or.inl ⟨by rfl, ?_⟩) (by assumption) ?_
                rotate_left
                · (intro w hSw; (try dsimp only at hSw); go_simp <;> with_reducible rfl)
                (try simp only [Act.put, List.setIfInBounds_toArray, List.set_cons_zero, List.set_cons_succ])
                refine wpAnyH_take (i := 3) (oi := { dst := some 64, op := Op.load 24 (Operand.tmp 63), type := 24, pos := "law.go:38", after := #[{ on := 2, ground := Ground.data }, { on := 1, ground := Ground.guard }], guard := some (1, true) }) (v := ?_) rfl (by kernel_rfl) (by kernel_rfl) (by kernel_rfl) (fun _ _ _ h => h) (Or.inl ⟨by rfl, ?_⟩) (by assumption) ?_
                rotate_left
                · (intro w hSw; (try dsimp only at hSw); go_simp <;> with_reducible rfl)
                (try simp only [Act.put, List.setIfInBounds_toArray, List.set_cons_zero, List.set_cons_succ])
                refine wpAnyH_take (i := 5) (oi := { dst := some 66, op := Op.load 31 (Operand.tmp 9), type := 31, pos := "law.go:38", after := #[{ on := 1, ground := Ground.guard }], guard := some (1, true) }) (v := ?_) rfl (by kernel_rfl) (by kernel_rfl) (by kernel_rfl) (fun _ _ _ h => h) (Or.inl ⟨by rfl, ?_⟩) (by assumption) ?_
                rotate_left
                · (intro w hSw; (try dsimp only at hSw); go_simp <;> with_reducible rfl)
                (try simp only [Act.put, List.setIfInBounds_toArray, List.set_cons_zero, List.set_cons_succ])
                refine wpAnyH_ready (rs := [4]) (by kernel_rfl) (by simp) ?_
                refine AllReadyH.cons (o := { dst := some 65, op := Op.call { callee := Callee.value (Operand.func 11), args := #[Operand.tmp 64], argTypes := #[23] }, type := 31, pos := "law.go:38", after := #[{ on := 3, ground := Ground.data }, { on := 1, ground := Ground.chain }, { on := 1, ground := Ground.guard }], guard := some (1, true) }) rfl (fun K hK => ?_) ?_
                · go_simp
                  refine (RS _).mono ?_
                  rintro e w1 ⟨f, rfl, hf, os31, k31, rfl⟩
                  (try simp only [Gr.of_drew] at hf); (try simp only [Gr.gr] at hf); (try simp only [Array.append_assoc] at hf)
                  obtain ⟨fs, fa, fn, fc, rfl⟩ := hf.shape
                  (try go_wp2_with fail)
                  refine hK.out _ _ (by (try dsimp only); simp [go_sem, c0, c1, c2, c3, c4, c5, c6, c7, kg', u1, u2, kx', v1, v2, ky']) (fun hHeld2 => ?_)
                  clear hK K hHeld
                  have hHeld := hHeld2
                  clear hHeld2
                  (try simp only [Act.put, List.setIfInBounds_toArray, List.set_cons_zero, List.set_cons_succ])
                  refine wpAnyH_ready (rs := [6]) (by kernel_rfl) (by simp) ?_
                  refine AllReadyH.cons (o := { dst := some 67, op := Op.call { callee := Callee.value (Operand.func 15), args := #[Operand.tmp 65, Operand.tmp 66], argTypes := #[31, 31] }, type := 3, pos := "law.go:38", after := #[{ on := 4, ground := Ground.data }, { on := 5, ground := Ground.data }, { on := 4, ground := Ground.chain }, { on := 1, ground := Ground.guard }], guard := some (1, true) }) rfl (fun K hK => ?_) ?_
                  · go_simp
                    refine (E1 _ ?_ _ (hf.gr ?_)).mono ?_
                    · exact (by with_reducible repeat (first | exact IsGr.refl _ | refine IsGr.gr ?_ _ _ | refine IsGr.alloc ?_ _ | refine IsGr.drew ?_ | refine IsGr.drewN ?_ _))
                    · exact (by with_reducible repeat (first | exact IsGr.refl _ | exact IsGr.gapp0 _ _ _ _ | exact IsGr.gapp1 _ _ _ _ _ | exact IsGr.gapp2 _ _ _ _ _ _ | exact IsGr.gapp3 _ _ _ _ _ _ _ | exact IsGr.gapp4 _ _ _ _ _ _ _ _ | exact IsGr.gapp5 _ _ _ _ _ _ _ _ _ | exact IsGr.gapp6 _ _ _ _ _ _ _ _ _ _ | exact IsGr.gapp7 _ _ _ _ _ _ _ _ _ _ _ | exact IsGr.gapp8 _ _ _ _ _ _ _ _ _ _ _ _ | refine IsGr.gr ?_ _ _ | refine IsGr.alloc ?_ _ | refine IsGr.drew ?_))
                    rintro e w1 ⟨rfl, os32, k32, rfl⟩
                    (try go_wp2_with fail)
                    refine hK.out _ _ (by (try dsimp only); simp [go_sem, c0, c1, c2, c3, c4, c5, c6, c7, kg', u1, u2, kx', v1, v2, ky']) (fun hHeld2 => ?_)
                    clear hK K hHeld
                    have hHeld := hHeld2
                    clear hHeld2
                    (try simp only [Act.put, List.setIfInBounds_toArray, List.set_cons_zero, List.set_cons_succ])
                    refine wpAnyH_take (i := 7) (oi := { dst := some 68, op := Op.binOp BinOp.eql 3 (Operand.tmp 67) (Operand.const (Value.int IntKind.i64 0)) 3, type := 4, pos := "law.go:38", after := #[{ on := 6, ground := Ground.data }, { on := 1, ground := Ground.guard }], guard := some (1, true) }) (v := ?_) rfl (by kernel_rfl) (by kernel_rfl) (by kernel_rfl) (fun _ _ _ h => h) (Or.inl ⟨by rfl, ?_⟩) (by assumption) ?_
                    rotate_left
                    · (intro w hSw; (try dsimp only at hSw); go_simp <;> with_reducible rfl)
                    (try simp only [Act.put, List.setIfInBounds_toArray, List.set_cons_zero, List.set_cons_succ])
                    refine wpAnyH_take (i := 8) (oi := { dst := some 69, op := Op.pick (Operand.tmp 62) (Operand.tmp 68) (Operand.const (Value.bool false)), type := 4, pos := "law.go:38", after := #[{ on := 1, ground := Ground.data }, { on := 7, ground := Ground.data }], guard := none }) (v := ?_) rfl (by kernel_rfl) (by kernel_rfl) (by kernel_rfl) (fun _ _ _ h => h) (Or.inl ⟨by rfl, ?_⟩) (by assumption) ?_
                    rotate_left
                    · (intro w hSw; (try dsimp only at hSw); go_simp <;> with_reducible rfl)
                    (try simp only [Act.put, List.setIfInBounds_toArray, List.set_cons_zero, List.set_cons_succ])
                    refine wpAnyH_take (i := 9) (oi := { dst := some 70, op := Op.move (Operand.tmp 69), type := 4, pos := "law.go:38", after := #[{ on := 8, ground := Ground.data }, { on := 6, ground := Ground.chain }], guard := none }) (v := ?_) rfl (by kernel_rfl) (by kernel_rfl) (by kernel_rfl) (fun _ _ _ h => h) (Or.inl ⟨by rfl, ?_⟩) (by assumption) ?_
                    rotate_left
                    · (intro w hSw; (try dsimp only at hSw); go_simp <;> with_reducible rfl)
                    (try simp only [Act.put, List.setIfInBounds_toArray, List.set_cons_zero, List.set_cons_succ])
                    refine wpAnyH_take (i := 10) (oi := { dst := some 71, op := Op.fieldAddr 26 (Operand.tmp 7) 1, type := 0, pos := "law.go:38", after := #[{ on := 9, ground := Ground.guard }], guard := some (9, true) }) (v := ?_) rfl (by kernel_rfl) (by kernel_rfl) (by kernel_rfl) (fun _ _ _ h => h) (Or.inl ⟨by rfl, ?_⟩) (by assumption) ?_
                    rotate_left
                    · (intro w hSw; (try dsimp only at hSw); go_simp <;> with_reducible rfl)
                    (try simp only [Act.put, List.setIfInBounds_toArray, List.set_cons_zero, List.set_cons_succ])
                    refine wpAnyH_take (i := 11) (oi := { dst := some 72, op := Op.load 24 (Operand.tmp 71), type := 24, pos := "law.go:38", after := #[{ on := 10, ground := Ground.data }, { on := 9, ground := Ground.guard }], guard := some (9, true) }) (v := ?_) rfl (by kernel_rfl) (by kernel_rfl) (by kernel_rfl) (fun _ _ _ h => h) (Or.inl ⟨by rfl, ?_⟩) (by assumption) ?_
                    rotate_left
                    · (intro w hSw; (try dsimp only at hSw); go_simp <;> with_reducible rfl)
                    (try simp only [Act.put, List.setIfInBounds_toArray, List.set_cons_zero, List.set_cons_succ])
                    refine wpAnyH_take (i := 13) (oi := { dst := some 74, op := Op.load 31 (Operand.tmp 10), type := 31, pos := "law.go:38", after := #[{ on := 9, ground := Ground.guard }], guard := some (9, true) }) (v := ?_) rfl (by kernel_rfl) (by kernel_rfl) (by kernel_rfl) (fun _ _ _ h => h) (Or.inl ⟨by rfl, ?_⟩) (by assumption) ?_
                    rotate_left
                    · (intro w hSw; (try dsimp only at hSw); go_simp <;> with_reducible rfl)
                    (try simp only [Act.put, List.setIfInBounds_toArray, List.set_cons_zero, List.set_cons_succ])
                    refine wpAnyH_ready (rs := [12]) (by kernel_rfl) (by simp) ?_
                    refine AllReadyH.cons (o := { dst := some 73, op := Op.call { callee := Callee.value (Operand.func 11), args := #[Operand.tmp 72], argTypes := #[23] }, type := 31, pos := "law.go:38", after := #[{ on := 11, ground := Ground.data }, { on := 9, ground := Ground.chain }, { on := 9, ground := Ground.guard }], guard := some (9, true) }) rfl (fun K hK => ?_) ?_
                    · go_simp
                      refine (RT _).mono ?_
                      rintro e w1 ⟨o, rfl, ho, os33, k33, rfl⟩
                      (try simp only [Gr.of_drew] at ho); (try simp only [Gr.gr] at ho); (try simp only [Array.append_assoc] at ho)
                      obtain ⟨os, oa, on, oc, rfl⟩ := ho.shape
                      (try go_wp2_with fail)
                      refine hK.out _ _ (by (try dsimp only); simp [go_sem, c0, c1, c2, c3, c4, c5, c6, c7, kg', u1, u2, kx', v1, v2, ky']) (fun hHeld2 => ?_)
                      clear hK K hHeld
                      have hHeld := hHeld2
                      clear hHeld2
                      (try simp only [Act.put, List.setIfInBounds_toArray, List.set_cons_zero, List.set_cons_succ])
                      refine wpAnyH_ready (rs := [14]) (by kernel_rfl) (by simp) ?_
                      refine AllReadyH.cons (o := { dst := some 75, op := Op.call { callee := Callee.value (Operand.func 15), args := #[Operand.tmp 73, Operand.tmp 74], argTypes := #[31, 31] }, type := 3, pos := "law.go:38", after := #[{ on := 12, ground := Ground.data }, { on := 13, ground := Ground.data }, { on := 12, ground := Ground.chain }, { on := 9, ground := Ground.guard }], guard := some (9, true) }) rfl (fun K hK => ?_) ?_
                      · go_simp
                        refine (E2 _ ?_ _ (ho.gr ?_)).mono ?_
                        · exact (by with_reducible repeat (first | exact IsGr.refl _ | refine IsGr.gr ?_ _ _ | refine IsGr.alloc ?_ _ | refine IsGr.drew ?_ | refine IsGr.drewN ?_ _))
                        · exact (by with_reducible repeat (first | exact IsGr.refl _ | exact IsGr.gapp0 _ _ _ _ | exact IsGr.gapp1 _ _ _ _ _ | exact IsGr.gapp2 _ _ _ _ _ _ | exact IsGr.gapp3 _ _ _ _ _ _ _ | exact IsGr.gapp4 _ _ _ _ _ _ _ _ | exact IsGr.gapp5 _ _ _ _ _ _ _ _ _ | exact IsGr.gapp6 _ _ _ _ _ _ _ _ _ _ | exact IsGr.gapp7 _ _ _ _ _ _ _ _ _ _ _ | exact IsGr.gapp8 _ _ _ _ _ _ _ _ _ _ _ _ | refine IsGr.gr ?_ _ _ | refine IsGr.alloc ?_ _ | refine IsGr.drew ?_))
                        rintro e w1 ⟨rfl, os34, k34, rfl⟩
                        (try go_wp2_with fail)
                        refine hK.out _ _ (by (try dsimp only); simp [go_sem, c0, c1, c2, c3, c4, c5, c6, c7, kg', u1, u2, kx', v1, v2, ky']) (fun hHeld2 => ?_)
                        clear hK K hHeld
                        have hHeld := hHeld2
                        clear hHeld2
                        (try simp only [Act.put, List.setIfInBounds_toArray, List.set_cons_zero, List.set_cons_succ])
                        refine wpAnyH_take (i := 15) (oi := { dst := some 76, op := Op.binOp BinOp.eql 3 (Operand.tmp 75) (Operand.const (Value.int IntKind.i64 0)) 3, type := 4, pos := "law.go:38", after := #[{ on := 14, ground := Ground.data }, { on := 9, ground := Ground.guard }], guard := some (9, true) }) (v := ?_) rfl (by kernel_rfl) (by kernel_rfl) (by kernel_rfl) (fun _ _ _ h => h) (Or.inl ⟨by rfl, ?_⟩) (by assumption) ?_
                        rotate_left
                        · (intro w hSw; (try dsimp only at hSw); go_simp <;> with_reducible rfl)
                        (try simp only [Act.put, List.setIfInBounds_toArray, List.set_cons_zero, List.set_cons_succ])
                        refine wpAnyH_take (i := 16) (oi := { dst := some 77, op := Op.pick (Operand.tmp 70) (Operand.tmp 76) (Operand.const (Value.bool false)), type := 4, pos := "law.go:38", after := #[{ on := 9, ground := Ground.data }, { on := 15, ground := Ground.data }], guard := none }) (v := ?_) rfl (by kernel_rfl) (by kernel_rfl) (by kernel_rfl) (fun _ _ _ h => h) (Or.inl ⟨by rfl, ?_⟩) (by assumption) ?_
                        rotate_left
                        · (intro w hSw; (try dsimp only at hSw); go_simp <;> with_reducible rfl)
                        (try simp only [Act.put, List.setIfInBounds_toArray, List.set_cons_zero, List.set_cons_succ])
                        refine wpAnyH_take (i := 17) (oi := { dst := some 78, op := Op.move (Operand.tmp 77), type := 4, pos := "law.go:38", after := #[{ on := 16, ground := Ground.data }, { on := 14, ground := Ground.chain }], guard := none }) (v := ?_) rfl (by kernel_rfl) (by kernel_rfl) (by kernel_rfl) (fun _ _ _ h => h) (Or.inl ⟨by rfl, ?_⟩) (by assumption) ?_
                        rotate_left
                        · (intro w hSw; (try dsimp only at hSw); go_simp <;> with_reducible rfl)
                        (try simp only [Act.put, List.setIfInBounds_toArray, List.set_cons_zero, List.set_cons_succ])
                        refine wpAnyH_take (i := 18) (oi := { dst := some 79, op := Op.load 26 (Operand.tmp 7), type := 26, pos := "law.go:38", after := #[{ on := 17, ground := Ground.guard }], guard := some (17, true) }) (v := ?_) rfl (by kernel_rfl) (by kernel_rfl) (by kernel_rfl) (fun _ _ _ h => h) (Or.inl ⟨by rfl, ?_⟩) (by assumption) ?_
                        rotate_left
                        · (intro w hSw; (try dsimp only at hSw); go_simp <;> with_reducible rfl)
                        (try simp only [Act.put, List.setIfInBounds_toArray, List.set_cons_zero, List.set_cons_succ])
                        refine wpAnyH_ready (rs := [19]) (by kernel_rfl) (by simp) ?_
                        refine AllReadyH.cons (o := { dst := some 80, op := Op.call { callee := Callee.value (Operand.func 17), args := #[Operand.tmp 79], argTypes := #[26] }, type := 4, pos := "law.go:38", after := #[{ on := 18, ground := Ground.data }, { on := 17, ground := Ground.chain }, { on := 17, ground := Ground.guard }], guard := some (17, true) }) rfl (fun K hK => ?_) ?_
                        · go_simp
                          refine (CT _).mono ?_
                          rintro e w1 ⟨rfl, os35, k35, rfl⟩
                          (try go_wp2_with fail)
                          refine hK.out _ _ (by (try dsimp only); simp [go_sem, c0, c1, c2, c3, c4, c5, c6, c7, kg', u1, u2, kx', v1, v2, ky']) (fun hHeld2 => ?_)
                          clear hK K hHeld
                          have hHeld := hHeld2
                          clear hHeld2
                          (try simp only [Act.put, List.setIfInBounds_toArray, List.set_cons_zero, List.set_cons_succ])
                          refine wpAnyH_take (i := 20) (oi := { dst := some 81, op := Op.pick (Operand.tmp 78) (Operand.tmp 80) (Operand.const (Value.bool false)), type := 4, pos := "law.go:38", after := #[{ on := 17, ground := Ground.data }, { on := 19, ground := Ground.data }], guard := none }) (v := ?_) rfl (by kernel_rfl) (by kernel_rfl) (by kernel_rfl) (fun _ _ _ h => h) (Or.inl ⟨by rfl, ?_⟩) (by assumption) ?_
                          rotate_left
                          · (intro w hSw; (try dsimp only at hSw); go_simp <;> with_reducible rfl)
                          (try simp only [Act.put, List.setIfInBounds_toArray, List.set_cons_zero, List.set_cons_succ])
                          refine wpAnyH_take (i := 21) (oi := { dst := some 82, op := Op.move (Operand.tmp 81), type := 4, pos := "law.go:38", after := #[{ on := 20, ground := Ground.data }, { on := 19, ground := Ground.chain }], guard := none }) (v := ?_) rfl (by kernel_rfl) (by kernel_rfl) (by kernel_rfl) (fun _ _ _ h => h) (Or.inl ⟨by rfl, ?_⟩) (by assumption) ?_
                          rotate_left
                          · (intro w hSw; (try dsimp only at hSw); go_simp <;> with_reducible rfl)
                          (try simp only [Act.put, List.setIfInBounds_toArray, List.set_cons_zero, List.set_cons_succ])
                          refine wpAnyH_take (i := 22) (oi := { dst := some 83, op := Op.move (Operand.tmp 2), type := 3, pos := "law.go:38", after := #[{ on := 21, ground := Ground.guard }], guard := some (21, true) }) (v := ?_) rfl (by kernel_rfl) (by kernel_rfl) (by kernel_rfl) (fun _ _ _ h => h) (Or.inl ⟨by rfl, ?_⟩) (by assumption) ?_
                          rotate_left
                          · (intro w hSw; (try dsimp only at hSw); go_simp <;> with_reducible rfl)
                          (try simp only [Act.put, List.setIfInBounds_toArray, List.set_cons_zero, List.set_cons_succ])
                          refine wpAnyH_take (i := 24) (oi := { dst := some 85, op := Op.move (Operand.tmp 2), type := 3, pos := "law.go:38", after := #[{ on := 21, ground := Ground.guard }], guard := some (21, true) }) (v := ?_) rfl (by kernel_rfl) (by kernel_rfl) (by kernel_rfl) (fun _ _ _ h => h) (Or.inl ⟨by rfl, ?_⟩) (by assumption) ?_
                          rotate_left
                          · (intro w hSw; (try dsimp only at hSw); go_simp <;> with_reducible rfl)
                          (try simp only [Act.put, List.setIfInBounds_toArray, List.set_cons_zero, List.set_cons_succ])
                          refine wpAnyH_ready (rs := [23]) (by kernel_rfl) (by simp) ?_
                          refine AllReadyH.cons (o := { dst := some 84, op := Op.call { callee := Callee.value (Operand.func 18), args := #[Operand.tmp 83], argTypes := #[3] }, type := 26, pos := "law.go:38", after := #[{ on := 22, ground := Ground.data }, { on := 21, ground := Ground.chain }, { on := 21, ground := Ground.guard }], guard := some (21, true) }) rfl (fun K hK => ?_) ?_
                          · go_simp
                            refine (O1 _).mono ?_
                            rintro e w1 ⟨i0, i1, i2, i3, j0, j1, j2, j3, rfl, hi, hj, os36, k36, rfl⟩
                            (try have he := EQ _ _ _ _ _ _ _ _ _ _ _ _ _ _ _ _ hi hj hp hq)
                            (try go_wp2_with fail)
                            refine hK.out _ _ (by (try dsimp only); simp [go_sem, c0, c1, c2, c3, c4, c5, c6, c7, kg', u1, u2, kx', v1, v2, ky']) (fun hHeld2 => ?_)
                            clear hK K hHeld
                            have hHeld := hHeld2
                            clear hHeld2
                            (try simp only [Act.put, List.setIfInBounds_toArray, List.set_cons_zero, List.set_cons_succ])
                            refine wpAnyH_ready (rs := [25]) (by kernel_rfl) (by simp) ?_
                            refine AllReadyH.cons (o := { dst := some 86, op := Op.call { callee := Callee.value (Operand.func 19), args := #[Operand.tmp 85], argTypes := #[3] }, type := 24, pos := "law.go:38", after := #[{ on := 24, ground := Ground.data }, { on := 23, ground := Ground.chain }, { on := 21, ground := Ground.guard }], guard := some (21, true) }) rfl (fun K hK => ?_) ?_
                            · go_simp
                              refine (O2 _).mono ?_
                              rintro e w1 ⟨p0, p1, p2, p3, rfl, hp, os37, k37, rfl⟩
                              (try have he := EQ _ _ _ _ _ _ _ _ _ _ _ _ _ _ _ _ hi hj hp hq)
                              (try go_wp2_with fail)
                              refine hK.out _ _ (by (try dsimp only); simp [go_sem, c0, c1, c2, c3, c4, c5, c6, c7, kg', u1, u2, kx', v1, v2, ky']) (fun hHeld2 => ?_)
                              clear hK K hHeld
                              have hHeld := hHeld2
                              clear hHeld2
                              (try simp only [Act.put, List.setIfInBounds_toArray, List.set_cons_zero, List.set_cons_succ])
                              refine wpAnyH_ready (rs := [26]) (by kernel_rfl) (by simp) ?_
                              refine AllReadyH.cons (o := { dst := some 87, op := Op.call { callee := Callee.value (Operand.func 19), args := #[Operand.const (Value.int IntKind.i64 1)], argTypes := #[3] }, type := 24, pos := "law.go:38", after := #[{ on := 25, ground := Ground.chain }, { on := 21, ground := Ground.guard }], guard := some (21, true) }) rfl (fun K hK => ?_) ?_
                              · go_simp
                                refine (O3 _).mono ?_
                                rintro e w1 ⟨q0, q1, q2, q3, rfl, hq, os38, k38, rfl⟩
                                (try have he := EQ _ _ _ _ _ _ _ _ _ _ _ _ _ _ _ _ hi hj hp hq)
                                (try go_wp2_with fail)
                                refine hK.out _ _ (by (try dsimp only); simp [go_sem, c0, c1, c2, c3, c4, c5, c6, c7, kg', u1, u2, kx', v1, v2, ky']) (fun hHeld2 => ?_)
                                clear hK K hHeld
                                have hHeld := hHeld2
                                clear hHeld2
                                (try simp only [Act.put, List.setIfInBounds_toArray, List.set_cons_zero, List.set_cons_succ])
                                refine wpAnyH_take (i := 27) (oi := { dst := some 88, op := Op.build 26 #[(0, Operand.tmp 86), (1, Operand.tmp 87)], type := 26, pos := "law.go:38", after := #[{ on := 25, ground := Ground.data }, { on := 26, ground := Ground.data }, { on := 21, ground := Ground.guard }], guard := some (21, true) }) (v := ?_) rfl (by kernel_rfl) (by kernel_rfl) (by kernel_rfl) (fun _ _ _ h => h) (Or.inl ⟨by rfl, ?_⟩) (by assumption) ?_
                                rotate_left
                                · (intro w hSw; (try dsimp only at hSw); go_simp <;> with_reducible rfl)
                                (try simp only [Act.put, List.setIfInBounds_toArray, List.set_cons_zero, List.set_cons_succ])
                                refine wpAnyH_take (i := 28) (oi := { dst := some 89, op := Op.binOp BinOp.eql 26 (Operand.tmp 84) (Operand.tmp 88) 26, type := 4, pos := "law.go:38", after := #[{ on := 23, ground := Ground.data }, { on := 27, ground := Ground.data }, { on := 21, ground := Ground.guard }], guard := some (21, true) }) (v := ?_) rfl (by kernel_rfl) (by kernel_rfl) (by kernel_rfl) (fun _ _ _ h => h) (Or.inl ⟨by rfl, ?_⟩) (by assumption) ?_
                                rotate_left
                                · (intro w hSw; (try dsimp only at hSw); go_simp <;> with_reducible rfl)
                                (try simp only [Act.put, List.setIfInBounds_toArray, List.set_cons_zero, List.set_cons_succ])
                                refine wpAnyH_take (i := 29) (oi := { dst := some 90, op := Op.pick (Operand.tmp 82) (Operand.tmp 89) (Operand.const (Value.bool false)), type := 4, pos := "law.go:38", after := #[{ on := 21, ground := Ground.data }, { on := 28, ground := Ground.data }], guard := none }) (v := ?_) rfl (by kernel_rfl) (by kernel_rfl) (by kernel_rfl) (fun _ _ _ h => h) (Or.inl ⟨by rfl, ?_⟩) (by assumption) ?_
                                rotate_left
                                · (intro w hSw; (try dsimp only at hSw); go_simp <;> with_reducible rfl)
                                (try simp only [Act.put, List.setIfInBounds_toArray, List.set_cons_zero, List.set_cons_succ])
                                refine wpAnyH_take (i := 30) (oi := { dst := some 91, op := Op.move (Operand.tmp 90), type := 4, pos := "law.go:38", after := #[{ on := 29, ground := Ground.data }, { on := 26, ground := Ground.chain }], guard := none }) (v := ?_) rfl (by kernel_rfl) (by kernel_rfl) (by kernel_rfl) (fun _ _ _ h => h) (Or.inl ⟨by rfl, ?_⟩) (by assumption) ?_
                                rotate_left
                                · (intro w hSw; (try dsimp only at hSw); go_simp <;> with_reducible rfl)
                                (try simp only [Act.put, List.setIfInBounds_toArray, List.set_cons_zero, List.set_cons_succ])
                                refine wpAnyH_ready (rs := [31]) (by kernel_rfl) (by simp) ?_
                                refine AllReadyH.cons (o := { dst := some 92, op := Op.call { callee := Callee.value (Operand.func 16), args := #[], argTypes := #[] }, type := 4, pos := "law.go:38", after := #[{ on := 30, ground := Ground.chain }, { on := 30, ground := Ground.guard }], guard := some (30, true) }) rfl (fun K hK => ?_) ?_
                                · go_simp
                                  refine (CA _).mono ?_
                                  rintro e w1 ⟨rfl, os39, k39, rfl⟩
                                  (try go_wp2_with fail)
                                  refine hK.out _ _ (by (try dsimp only); simp [go_sem, c0, c1, c2, c3, c4, c5, c6, c7, kg', u1, u2, kx', v1, v2, ky']) (fun hHeld2 => ?_)
                                  clear hK K hHeld
                                  have hHeld := hHeld2
                                  clear hHeld2
                                  (try simp only [Act.put, List.setIfInBounds_toArray, List.set_cons_zero, List.set_cons_succ])
                                  refine wpAnyH_take (i := 32) (oi := { dst := some 93, op := Op.pick (Operand.tmp 91) (Operand.tmp 92) (Operand.const (Value.bool false)), type := 4, pos := "law.go:38", after := #[{ on := 30, ground := Ground.data }, { on := 31, ground := Ground.data }], guard := none }) (v := ?_) rfl (by kernel_rfl) (by kernel_rfl) (by kernel_rfl) (fun _ _ _ h => h) (Or.inl ⟨by rfl, ?_⟩) (by assumption) ?_
                                  rotate_left
                                  · (intro w hSw; (try dsimp only at hSw); go_simp <;> with_reducible rfl)
                                  (try simp only [Act.put, List.setIfInBounds_toArray, List.set_cons_zero, List.set_cons_succ])
                                  refine wpAnyH_take (i := 33) (oi := { dst := some 6, op := Op.assign (Operand.tmp 93), type := 4, pos := "law.go:38", after := #[{ on := 32, ground := Ground.data }, { on := 31, ground := Ground.chain }, { on := 0, ground := Ground.phase }, { on := 1, ground := Ground.phase }, { on := 2, ground := Ground.phase }, { on := 3, ground := Ground.phase }, { on := 4, ground := Ground.phase }, { on := 5, ground := Ground.phase }, { on := 6, ground := Ground.phase }, { on := 7, ground := Ground.phase }, { on := 8, ground := Ground.phase }, { on := 9, ground := Ground.phase }, { on := 10, ground := Ground.phase }, { on := 11, ground := Ground.phase }, { on := 12, ground := Ground.phase }, { on := 13, ground := Ground.phase }, { on := 14, ground := Ground.phase }, { on := 15, ground := Ground.phase }, { on := 16, ground := Ground.phase }, { on := 17, ground := Ground.phase }, { on := 18, ground := Ground.phase }, { on := 19, ground := Ground.phase }, { on := 20, ground := Ground.phase }, { on := 21, ground := Ground.phase }, { on := 22, ground := Ground.phase }, { on := 23, ground := Ground.phase }, { on := 24, ground := Ground.phase }, { on := 25, ground := Ground.phase }, { on := 26, ground := Ground.phase }, { on := 27, ground := Ground.phase }, { on := 28, ground := Ground.phase }, { on := 29, ground := Ground.phase }, { on := 30, ground := Ground.phase }, { on := 31, ground := Ground.phase }, { on := 32, ground := Ground.phase }], guard := none }) (v := ?_) rfl (by kernel_rfl) (by kernel_rfl) (by kernel_rfl) (fun _ _ _ h => h) (Or.inl ⟨by rfl, ?_⟩) (by assumption) ?_
                                  rotate_left
                                  · (intro w hSw; (try dsimp only at hSw); go_simp <;> with_reducible rfl)
                                  (try simp only [Act.put, List.setIfInBounds_toArray, List.set_cons_zero, List.set_cons_succ])
                                  refine wpAnyH_done (by kernel_rfl) ?_ _
                                  go_wp2
                                  go_ret
                                  exact ⟨rfl, HG.out.trans (by with_reducible repeat (first | exact IsGr.refl _ | refine IsGr.gr ?_ _ _ | refine IsGr.alloc ?_ _ | refine IsGr.drew ?_ | refine IsGr.drewN ?_ _))⟩
                                exact AllReadyH.nil
                              exact AllReadyH.nil
                            exact AllReadyH.nil
                          exact AllReadyH.nil
                        exact AllReadyH.nil
                      exact AllReadyH.nil
                    exact AllReadyH.nil
                  exact AllReadyH.nil
                exact AllReadyH.nil
        · rw [cmpI_eq hz] at SX
          obtain ⟨rfl, rfl, rfl, rfl, rfl, rfl, rfl, rfl, rfl⟩ : ok = false ∧ s0 = 0 ∧ s1 = 0 ∧ s2 = 0 ∧ s3 = 0 ∧ t0 = 0 ∧ t1 = 0 ∧ t2 = 0 ∧ t3 = 0 := by
            rcases hN with ⟨h0, h3, h4, h5⟩ | ⟨h0, _, h3⟩
            · exfalso
              first | exact h3 hz | (have h6 := h5 hz; have h7 := h6.1.2; have h8 := h6.2.2; omega)
            · exact ⟨h0, h3⟩
          clear hN
          go_wp2_with fail
          refine (SX _ ?_).mono ?_
          · exact (by with_reducible repeat (first | exact IsGr.refl _ | refine IsGr.gr ?_ _ _ | refine IsGr.alloc ?_ _ | refine IsGr.drew ?_ | refine IsGr.drewN ?_ _))
          rintro e w1 ⟨rfl, os1, m1, rfl⟩
          go_wp2_with fail
          refine (SX _ ?_).mono ?_
          · exact (by with_reducible repeat (first | exact IsGr.refl _ | refine IsGr.gr ?_ _ _ | refine IsGr.alloc ?_ _ | refine IsGr.drew ?_ | refine IsGr.drewN ?_ _))
          rintro e w1 ⟨rfl, os2, m2, rfl⟩
          go_wp2_with fail
          refine (CA _).mono ?_
          rintro e w1 ⟨rfl, os10, m10, rfl⟩
          go_wp2
          go_ret
          exact ⟨rfl, HG.out.trans (by with_reducible repeat (first | exact IsGr.refl _ | refine IsGr.gr ?_ _ _ | refine IsGr.alloc ?_ _ | refine IsGr.drew ?_ | refine IsGr.drewN ?_ _))⟩
        · rw [cmpI_gt hz] at SX
          obtain ⟨rfl, hs, ht⟩ : ok = true ∧ IsI s0 s1 s2 s3 n ∧ IsI t0 t1 t2 t3 d := by
            rcases hN with ⟨h0, _, h3, _⟩ | ⟨_, h3, _⟩
            · exact ⟨h0, h3 hz⟩
            · omega
          have hpos : 0 < d := hz
          clear hN hz heR
          go_wp2_with fail
          refine (SX _ ?_).mono ?_
          · exact (by with_reducible repeat (first | exact IsGr.refl _ | refine IsGr.gr ?_ _ _ | refine IsGr.alloc ?_ _ | refine IsGr.drew ?_ | refine IsGr.drewN ?_ _))
          rintro e w1 ⟨rfl, os1, m1, rfl⟩
          go_wp2_with fail
          refine (SX _ ?_).mono ?_
          · exact (by with_reducible repeat (first | exact IsGr.refl _ | refine IsGr.gr ?_ _ _ | refine IsGr.alloc ?_ _ | refine IsGr.drew ?_ | refine IsGr.drewN ?_ _))
          rintro e w1 ⟨rfl, os2, m2, rfl⟩
          have RS := fun w => Read_any hs.1 hs.2.1 hs.2.2 w
          have RT := fun w => Read_any ht.1 ht.2.1 ht.2.2 w
          have E1 := fun w1 (hg : IsGr W3 w1) v (h : IsBig w1 v (n)) => BigSame_any v _ (n) w1 h (BX.gr hg) sn
          have E2 := fun w1 (hg : IsGr W3 w1) v (h : IsBig w1 v (d)) => BigSame_any v _ (d) w1 h (BY.gr hg) sd
          have CT := fun w => Right_any s0 s1 s2 s3 t0 t1 t2 t3 (d) ht w
          rw [show decide (0 < d) = true by simp; omega] at CT
          clear hs ht hpos
          go_upto_region 9 with fail
          refine wp_region_held_drew (S := (fun w' => (w'.cell? ⟨g7, 0, none⟩ = some (.int .u64 s0) ∧ w'.cell? ⟨g7, 1, none⟩ = some (.int .u64 s1) ∧ w'.cell? ⟨g7, 2, none⟩ = some (.int .u64 s2) ∧ w'.cell? ⟨g7, 3, none⟩ = some (.int .u64 s3) ∧ w'.cell? ⟨g7, 4, none⟩ = some (.int .u64 t0) ∧ w'.cell? ⟨g7, 5, none⟩ = some (.int .u64 t1) ∧ w'.cell? ⟨g7, 6, none⟩ = some (.int .u64 t2) ∧ w'.cell? ⟨g7, 7, none⟩ = some (.int .u64 t3)) ∧ (w'.cell? ⟨gx, 0, none⟩ = some (.bool xs) ∧ w'.cell? ⟨gx, 1, none⟩ = some (.slice xa xn xc)) ∧ (w'.cell? ⟨gy, 0, none⟩ = some (.bool ys) ∧ w'.cell? ⟨gy, 1, none⟩ = some (.slice ya yn yc)))) (by kernel_rfl) (by (try dsimp only); simp [go_sem, r0, r1, r2, r3, r4, r5, r6, r7, kg, x1, x2, kx, y1, y2, ky]) (fun hHeld => ?_)
          refine wpAnyH_take (i := 0) (oi := { dst := some 61, op := Op.move (Operand.tmp 8), type := 4, pos := "law.go:38", after := #[], guard := none }) (v := ?_) rfl (by kernel_rfl) (by kernel_rfl) (by kernel_rfl) (fun _ _ _ h => h) (Or.inl ⟨by rfl, ?_⟩) (by assumption) ?_
          rotate_left
          · (intro w hSw; (try dsimp only at hSw); go_simp <;> with_reducible rfl)
          (try simp only [Act.put, List.setIfInBounds_toArray, List.set_cons_zero, List.set_cons_succ])
          refine wpAnyH_take (i := 1) (oi := { dst := some 62, op := Op.move (Operand.tmp 61), type := 4, pos := "law.go:38", after := #[{ on := 0, ground := Ground.data }], guard := none }) (v := ?_) rfl (by kernel_rfl) (by kernel_rfl) (by kernel_rfl) (fun _ _ _ h => h) (Or.inl ⟨by rfl, ?_⟩) (by assumption) ?_
          rotate_left
          · (intro w hSw; (try dsimp only at hSw); go_simp <;> with_reducible rfl)
          (try simp only [Act.put, List.setIfInBounds_toArray, List.set_cons_zero, List.set_cons_succ])
          refine wpAnyH_take (i := 2) (oi := { dst := some 63, op := Op.fieldAddr 26 (Operand.tmp 7) 0, type := 0, pos := "law.go:38", after := #[{ on := 1, ground := Ground.guard }], guard := some (1, true) }) (v := ?_) rfl (by kernel_rfl) (by kernel_rfl) (by kernel_rfl) (fun _ _ _ h => h) (Or.inl ⟨by rfl, ?_⟩) (by assumption) ?_
          rotate_left
          · (intro w hSw; (try dsimp only at hSw); go_simp <;> with_reducible rfl)
          (try simp only [Act.put, List.setIfInBounds_toArray, List.set_cons_zero, List.set_cons_succ])
          refine wpAnyH_take (i := 3) (oi := { dst := some 64, op := Op.load 24 (Operand.tmp 63), type := 24, pos := "law.go:38", after := #[{ on := 2, ground := Ground.data }, { on := 1, ground := Ground.guard }], guard := some (1, true) }) (v := ?_) rfl (by kernel_rfl) (by kernel_rfl) (by kernel_rfl) (fun _ _ _ h => h) (Or.inl ⟨by rfl, ?_⟩) (by assumption) ?_
          rotate_left
          · (intro w hSw; (try dsimp only at hSw); go_simp <;> with_reducible rfl)
          (try simp only [Act.put, List.setIfInBounds_toArray, List.set_cons_zero, List.set_cons_succ])
          refine wpAnyH_take (i := 5) (oi := { dst := some 66, op := Op.load 31 (Operand.tmp 9), type := 31, pos := "law.go:38", after := #[{ on := 1, ground := Ground.guard }], guard := some (1, true) }) (v := ?_) rfl (by kernel_rfl) (by kernel_rfl) (by kernel_rfl) (fun _ _ _ h => h) (Or.inl ⟨by rfl, ?_⟩) (by assumption) ?_
          rotate_left
          · (intro w hSw; (try dsimp only at hSw); go_simp <;> with_reducible rfl)
          (try simp only [Act.put, List.setIfInBounds_toArray, List.set_cons_zero, List.set_cons_succ])
          refine wpAnyH_ready (rs := [4]) (by kernel_rfl) (by simp) ?_
          refine AllReadyH.cons (o := { dst := some 65, op := Op.call { callee := Callee.value (Operand.func 11), args := #[Operand.tmp 64], argTypes := #[23] }, type := 31, pos := "law.go:38", after := #[{ on := 3, ground := Ground.data }, { on := 1, ground := Ground.chain }, { on := 1, ground := Ground.guard }], guard := some (1, true) }) rfl (fun K hK => ?_) ?_
          · go_simp
            refine (RS _).mono ?_
            rintro e w1 ⟨f, rfl, hf, os31, k31, rfl⟩
            (try simp only [Gr.of_drew] at hf); (try simp only [Gr.gr] at hf); (try simp only [Array.append_assoc] at hf)
            obtain ⟨fs, fa, fn, fc, rfl⟩ := hf.shape
            (try go_wp2_with fail)
            refine hK.out _ _ (by (try dsimp only); simp [go_sem, r0, r1, r2, r3, r4, r5, r6, r7, kg, x1, x2, kx, y1, y2, ky]) (fun hHeld2 => ?_)
            clear hK K hHeld
            have hHeld := hHeld2
            clear hHeld2
            (try simp only [Act.put, List.setIfInBounds_toArray, List.set_cons_zero, List.set_cons_succ])
            refine wpAnyH_ready (rs := [6]) (by kernel_rfl) (by simp) ?_
            refine AllReadyH.cons (o := { dst := some 67, op := Op.call { callee := Callee.value (Operand.func 15), args := #[Operand.tmp 65, Operand.tmp 66], argTypes := #[31, 31] }, type := 3, pos := "law.go:38", after := #[{ on := 4, ground := Ground.data }, { on := 5, ground := Ground.data }, { on := 4, ground := Ground.chain }, { on := 1, ground := Ground.guard }], guard := some (1, true) }) rfl (fun K hK => ?_) ?_
            · go_simp
              refine (E1 _ ?_ _ (hf.gr ?_)).mono ?_
              · exact (by with_reducible repeat (first | exact IsGr.refl _ | refine IsGr.gr ?_ _ _ | refine IsGr.alloc ?_ _ | refine IsGr.drew ?_ | refine IsGr.drewN ?_ _))
              · exact (by with_reducible repeat (first | exact IsGr.refl _ | exact IsGr.gapp0 _ _ _ _ | exact IsGr.gapp1 _ _ _ _ _ | exact IsGr.gapp2 _ _ _ _ _ _ | exact IsGr.gapp3 _ _ _ _ _ _ _ | exact IsGr.gapp4 _ _ _ _ _ _ _ _ | exact IsGr.gapp5 _ _ _ _ _ _ _ _ _ | exact IsGr.gapp6 _ _ _ _ _ _ _ _ _ _ | exact IsGr.gapp7 _ _ _ _ _ _ _ _ _ _ _ | exact IsGr.gapp8 _ _ _ _ _ _ _ _ _ _ _ _ | refine IsGr.gr ?_ _ _ | refine IsGr.alloc ?_ _ | refine IsGr.drew ?_))
              rintro e w1 ⟨rfl, os32, k32, rfl⟩
              (try go_wp2_with fail)
              refine hK.out _ _ (by (try dsimp only); simp [go_sem, r0, r1, r2, r3, r4, r5, r6, r7, kg, x1, x2, kx, y1, y2, ky]) (fun hHeld2 => ?_)
              clear hK K hHeld
              have hHeld := hHeld2
              clear hHeld2
              (try simp only [Act.put, List.setIfInBounds_toArray, List.set_cons_zero, List.set_cons_succ])
              refine wpAnyH_take (i := 7) (oi := { dst := some 68, op := Op.binOp BinOp.eql 3 (Operand.tmp 67) (Operand.const (Value.int IntKind.i64 0)) 3, type := 4, pos := "law.go:38", after := #[{ on := 6, ground := Ground.data }, { on := 1, ground := Ground.guard }], guard := some (1, true) }) (v := ?_) rfl (by kernel_rfl) (by kernel_rfl) (by kernel_rfl) (fun _ _ _ h => h) (Or.inl ⟨by rfl, ?_⟩) (by assumption) ?_
              rotate_left
              · (intro w hSw; (try dsimp only at hSw); go_simp <;> with_reducible rfl)
              (try simp only [Act.put, List.setIfInBounds_toArray, List.set_cons_zero, List.set_cons_succ])
              refine wpAnyH_take (i := 8) (oi := { dst := some 69, op := Op.pick (Operand.tmp 62) (Operand.tmp 68) (Operand.const (Value.bool false)), type := 4, pos := "law.go:38", after := #[{ on := 1, ground := Ground.data }, { on := 7, ground := Ground.data }], guard := none }) (v := ?_) rfl (by kernel_rfl) (by kernel_rfl) (by kernel_rfl) (fun _ _ _ h => h) (Or.inl ⟨by rfl, ?_⟩) (by assumption) ?_
              rotate_left
              · (intro w hSw; (try dsimp only at hSw); go_simp <;> with_reducible rfl)
              (try simp only [Act.put, List.setIfInBounds_toArray, List.set_cons_zero, List.set_cons_succ])
              refine wpAnyH_take (i := 9) (oi := { dst := some 70, op := Op.move (Operand.tmp 69), type := 4, pos := "law.go:38", after := #[{ on := 8, ground := Ground.data }, { on := 6, ground := Ground.chain }], guard := none }) (v := ?_) rfl (by kernel_rfl) (by kernel_rfl) (by kernel_rfl) (fun _ _ _ h => h) (Or.inl ⟨by rfl, ?_⟩) (by assumption) ?_
              rotate_left
              · (intro w hSw; (try dsimp only at hSw); go_simp <;> with_reducible rfl)
              (try simp only [Act.put, List.setIfInBounds_toArray, List.set_cons_zero, List.set_cons_succ])
              refine wpAnyH_take (i := 10) (oi := { dst := some 71, op := Op.fieldAddr 26 (Operand.tmp 7) 1, type := 0, pos := "law.go:38", after := #[{ on := 9, ground := Ground.guard }], guard := some (9, true) }) (v := ?_) rfl (by kernel_rfl) (by kernel_rfl) (by kernel_rfl) (fun _ _ _ h => h) (Or.inl ⟨by rfl, ?_⟩) (by assumption) ?_
              rotate_left
              · (intro w hSw; (try dsimp only at hSw); go_simp <;> with_reducible rfl)
              (try simp only [Act.put, List.setIfInBounds_toArray, List.set_cons_zero, List.set_cons_succ])
              refine wpAnyH_take (i := 11) (oi := { dst := some 72, op := Op.load 24 (Operand.tmp 71), type := 24, pos := "law.go:38", after := #[{ on := 10, ground := Ground.data }, { on := 9, ground := Ground.guard }], guard := some (9, true) }) (v := ?_) rfl (by kernel_rfl) (by kernel_rfl) (by kernel_rfl) (fun _ _ _ h => h) (Or.inl ⟨by rfl, ?_⟩) (by assumption) ?_
              rotate_left
              · (intro w hSw; (try dsimp only at hSw); go_simp <;> with_reducible rfl)
              (try simp only [Act.put, List.setIfInBounds_toArray, List.set_cons_zero, List.set_cons_succ])
              refine wpAnyH_take (i := 13) (oi := { dst := some 74, op := Op.load 31 (Operand.tmp 10), type := 31, pos := "law.go:38", after := #[{ on := 9, ground := Ground.guard }], guard := some (9, true) }) (v := ?_) rfl (by kernel_rfl) (by kernel_rfl) (by kernel_rfl) (fun _ _ _ h => h) (Or.inl ⟨by rfl, ?_⟩) (by assumption) ?_
              rotate_left
              · (intro w hSw; (try dsimp only at hSw); go_simp <;> with_reducible rfl)
              (try simp only [Act.put, List.setIfInBounds_toArray, List.set_cons_zero, List.set_cons_succ])
              refine wpAnyH_ready (rs := [12]) (by kernel_rfl) (by simp) ?_
              refine AllReadyH.cons (o := { dst := some 73, op := Op.call { callee := Callee.value (Operand.func 11), args := #[Operand.tmp 72], argTypes := #[23] }, type := 31, pos := "law.go:38", after := #[{ on := 11, ground := Ground.data }, { on := 9, ground := Ground.chain }, { on := 9, ground := Ground.guard }], guard := some (9, true) }) rfl (fun K hK => ?_) ?_
              · go_simp
                refine (RT _).mono ?_
                rintro e w1 ⟨o, rfl, ho, os33, k33, rfl⟩
                (try simp only [Gr.of_drew] at ho); (try simp only [Gr.gr] at ho); (try simp only [Array.append_assoc] at ho)
                obtain ⟨os, oa, on, oc, rfl⟩ := ho.shape
                (try go_wp2_with fail)
                refine hK.out _ _ (by (try dsimp only); simp [go_sem, r0, r1, r2, r3, r4, r5, r6, r7, kg, x1, x2, kx, y1, y2, ky]) (fun hHeld2 => ?_)
                clear hK K hHeld
                have hHeld := hHeld2
                clear hHeld2
                (try simp only [Act.put, List.setIfInBounds_toArray, List.set_cons_zero, List.set_cons_succ])
                refine wpAnyH_ready (rs := [14]) (by kernel_rfl) (by simp) ?_
                refine AllReadyH.cons (o := { dst := some 75, op := Op.call { callee := Callee.value (Operand.func 15), args := #[Operand.tmp 73, Operand.tmp 74], argTypes := #[31, 31] }, type := 3, pos := "law.go:38", after := #[{ on := 12, ground := Ground.data }, { on := 13, ground := Ground.data }, { on := 12, ground := Ground.chain }, { on := 9, ground := Ground.guard }], guard := some (9, true) }) rfl (fun K hK => ?_) ?_
                · go_simp
                  refine (E2 _ ?_ _ (ho.gr ?_)).mono ?_
                  · exact (by with_reducible repeat (first | exact IsGr.refl _ | refine IsGr.gr ?_ _ _ | refine IsGr.alloc ?_ _ | refine IsGr.drew ?_ | refine IsGr.drewN ?_ _))
                  · exact (by with_reducible repeat (first | exact IsGr.refl _ | exact IsGr.gapp0 _ _ _ _ | exact IsGr.gapp1 _ _ _ _ _ | exact IsGr.gapp2 _ _ _ _ _ _ | exact IsGr.gapp3 _ _ _ _ _ _ _ | exact IsGr.gapp4 _ _ _ _ _ _ _ _ | exact IsGr.gapp5 _ _ _ _ _ _ _ _ _ | exact IsGr.gapp6 _ _ _ _ _ _ _ _ _ _ | exact IsGr.gapp7 _ _ _ _ _ _ _ _ _ _ _ | exact IsGr.gapp8 _ _ _ _ _ _ _ _ _ _ _ _ | refine IsGr.gr ?_ _ _ | refine IsGr.alloc ?_ _ | refine IsGr.drew ?_))
                  rintro e w1 ⟨rfl, os34, k34, rfl⟩
                  (try go_wp2_with fail)
                  refine hK.out _ _ (by (try dsimp only); simp [go_sem, r0, r1, r2, r3, r4, r5, r6, r7, kg, x1, x2, kx, y1, y2, ky]) (fun hHeld2 => ?_)
                  clear hK K hHeld
                  have hHeld := hHeld2
                  clear hHeld2
                  (try simp only [Act.put, List.setIfInBounds_toArray, List.set_cons_zero, List.set_cons_succ])
                  refine wpAnyH_take (i := 15) (oi := { dst := some 76, op := Op.binOp BinOp.eql 3 (Operand.tmp 75) (Operand.const (Value.int IntKind.i64 0)) 3, type := 4, pos := "law.go:38", after := #[{ on := 14, ground := Ground.data }, { on := 9, ground := Ground.guard }], guard := some (9, true) }) (v := ?_) rfl (by kernel_rfl) (by kernel_rfl) (by kernel_rfl) (fun _ _ _ h => h) (Or.inl ⟨by rfl, ?_⟩) (by assumption) ?_
                  rotate_left
                  · (intro w hSw; (try dsimp only at hSw); go_simp <;> with_reducible rfl)
                  (try simp only [Act.put, List.setIfInBounds_toArray, List.set_cons_zero, List.set_cons_succ])
                  refine wpAnyH_take (i := 16) (oi := { dst := some 77, op := Op.pick (Operand.tmp 70) (Operand.tmp 76) (Operand.const (Value.bool false)), type := 4, pos := "law.go:38", after := #[{ on := 9, ground := Ground.data }, { on := 15, ground := Ground.data }], guard := none }) (v := ?_) rfl (by kernel_rfl) (by kernel_rfl) (by kernel_rfl) (fun _ _ _ h => h) (Or.inl ⟨by rfl, ?_⟩) (by assumption) ?_
                  rotate_left
                  · (intro w hSw; (try dsimp only at hSw); go_simp <;> with_reducible rfl)
                  (try simp only [Act.put, List.setIfInBounds_toArray, List.set_cons_zero, List.set_cons_succ])
                  refine wpAnyH_take (i := 17) (oi := { dst := some 78, op := Op.move (Operand.tmp 77), type := 4, pos := "law.go:38", after := #[{ on := 16, ground := Ground.data }, { on := 14, ground := Ground.chain }], guard := none }) (v := ?_) rfl (by kernel_rfl) (by kernel_rfl) (by kernel_rfl) (fun _ _ _ h => h) (Or.inl ⟨by rfl, ?_⟩) (by assumption) ?_
                  rotate_left
                  · (intro w hSw; (try dsimp only at hSw); go_simp <;> with_reducible rfl)
                  (try simp only [Act.put, List.setIfInBounds_toArray, List.set_cons_zero, List.set_cons_succ])
                  refine wpAnyH_take (i := 18) (oi := { dst := some 79, op := Op.load 26 (Operand.tmp 7), type := 26, pos := "law.go:38", after := #[{ on := 17, ground := Ground.guard }], guard := some (17, true) }) (v := ?_) rfl (by kernel_rfl) (by kernel_rfl) (by kernel_rfl) (fun _ _ _ h => h) (Or.inl ⟨by rfl, ?_⟩) (by assumption) ?_
                  rotate_left
                  · (intro w hSw; (try dsimp only at hSw); go_simp <;> with_reducible rfl)
                  (try simp only [Act.put, List.setIfInBounds_toArray, List.set_cons_zero, List.set_cons_succ])
                  refine wpAnyH_ready (rs := [19]) (by kernel_rfl) (by simp) ?_
                  refine AllReadyH.cons (o := { dst := some 80, op := Op.call { callee := Callee.value (Operand.func 17), args := #[Operand.tmp 79], argTypes := #[26] }, type := 4, pos := "law.go:38", after := #[{ on := 18, ground := Ground.data }, { on := 17, ground := Ground.chain }, { on := 17, ground := Ground.guard }], guard := some (17, true) }) rfl (fun K hK => ?_) ?_
                  · go_simp
                    refine (CT _).mono ?_
                    rintro e w1 ⟨rfl, os35, k35, rfl⟩
                    (try go_wp2_with fail)
                    refine hK.out _ _ (by (try dsimp only); simp [go_sem, r0, r1, r2, r3, r4, r5, r6, r7, kg, x1, x2, kx, y1, y2, ky]) (fun hHeld2 => ?_)
                    clear hK K hHeld
                    have hHeld := hHeld2
                    clear hHeld2
                    (try simp only [Act.put, List.setIfInBounds_toArray, List.set_cons_zero, List.set_cons_succ])
                    refine wpAnyH_take (i := 20) (oi := { dst := some 81, op := Op.pick (Operand.tmp 78) (Operand.tmp 80) (Operand.const (Value.bool false)), type := 4, pos := "law.go:38", after := #[{ on := 17, ground := Ground.data }, { on := 19, ground := Ground.data }], guard := none }) (v := ?_) rfl (by kernel_rfl) (by kernel_rfl) (by kernel_rfl) (fun _ _ _ h => h) (Or.inl ⟨by rfl, ?_⟩) (by assumption) ?_
                    rotate_left
                    · (intro w hSw; (try dsimp only at hSw); go_simp <;> with_reducible rfl)
                    (try simp only [Act.put, List.setIfInBounds_toArray, List.set_cons_zero, List.set_cons_succ])
                    refine wpAnyH_take (i := 21) (oi := { dst := some 82, op := Op.move (Operand.tmp 81), type := 4, pos := "law.go:38", after := #[{ on := 20, ground := Ground.data }, { on := 19, ground := Ground.chain }], guard := none }) (v := ?_) rfl (by kernel_rfl) (by kernel_rfl) (by kernel_rfl) (fun _ _ _ h => h) (Or.inl ⟨by rfl, ?_⟩) (by assumption) ?_
                    rotate_left
                    · (intro w hSw; (try dsimp only at hSw); go_simp <;> with_reducible rfl)
                    (try simp only [Act.put, List.setIfInBounds_toArray, List.set_cons_zero, List.set_cons_succ])
                    refine wpAnyH_take (i := 22) (oi := { dst := some 83, op := Op.move (Operand.tmp 2), type := 3, pos := "law.go:38", after := #[{ on := 21, ground := Ground.guard }], guard := some (21, true) }) (v := ?_) rfl (by kernel_rfl) (by kernel_rfl) (by kernel_rfl) (fun _ _ _ h => h) (Or.inl ⟨by rfl, ?_⟩) (by assumption) ?_
                    rotate_left
                    · (intro w hSw; (try dsimp only at hSw); go_simp <;> with_reducible rfl)
                    (try simp only [Act.put, List.setIfInBounds_toArray, List.set_cons_zero, List.set_cons_succ])
                    refine wpAnyH_take (i := 24) (oi := { dst := some 85, op := Op.move (Operand.tmp 2), type := 3, pos := "law.go:38", after := #[{ on := 21, ground := Ground.guard }], guard := some (21, true) }) (v := ?_) rfl (by kernel_rfl) (by kernel_rfl) (by kernel_rfl) (fun _ _ _ h => h) (Or.inl ⟨by rfl, ?_⟩) (by assumption) ?_
                    rotate_left
                    · (intro w hSw; (try dsimp only at hSw); go_simp <;> with_reducible rfl)
                    (try simp only [Act.put, List.setIfInBounds_toArray, List.set_cons_zero, List.set_cons_succ])
                    refine wpAnyH_ready (rs := [23]) (by kernel_rfl) (by simp) ?_
                    refine AllReadyH.cons (o := { dst := some 84, op := Op.call { callee := Callee.value (Operand.func 18), args := #[Operand.tmp 83], argTypes := #[3] }, type := 26, pos := "law.go:38", after := #[{ on := 22, ground := Ground.data }, { on := 21, ground := Ground.chain }, { on := 21, ground := Ground.guard }], guard := some (21, true) }) rfl (fun K hK => ?_) ?_
                    · go_simp
                      refine (O1 _).mono ?_
                      rintro e w1 ⟨i0, i1, i2, i3, j0, j1, j2, j3, rfl, hi, hj, os36, k36, rfl⟩
                      (try have he := EQ _ _ _ _ _ _ _ _ _ _ _ _ _ _ _ _ hi hj hp hq)
                      (try go_wp2_with fail)
                      refine hK.out _ _ (by (try dsimp only); simp [go_sem, r0, r1, r2, r3, r4, r5, r6, r7, kg, x1, x2, kx, y1, y2, ky]) (fun hHeld2 => ?_)
                      clear hK K hHeld
                      have hHeld := hHeld2
                      clear hHeld2
                      (try simp only [Act.put, List.setIfInBounds_toArray, List.set_cons_zero, List.set_cons_succ])
                      refine wpAnyH_ready (rs := [25]) (by kernel_rfl) (by simp) ?_
                      refine AllReadyH.cons (o := { dst := some 86, op := Op.call { callee := Callee.value (Operand.func 19), args := #[Operand.tmp 85], argTypes := #[3] }, type := 24, pos := "law.go:38", after := #[{ on := 24, ground := Ground.data }, { on := 23, ground := Ground.chain }, { on := 21, ground := Ground.guard }], guard := some (21, true) }) rfl (fun K hK => ?_) ?_
                      · go_simp
                        refine (O2 _).mono ?_
                        rintro e w1 ⟨p0, p1, p2, p3, rfl, hp, os37, k37, rfl⟩
                        (try have he := EQ _ _ _ _ _ _ _ _ _ _ _ _ _ _ _ _ hi hj hp hq)
                        (try go_wp2_with fail)
                        refine hK.out _ _ (by (try dsimp only); simp [go_sem, r0, r1, r2, r3, r4, r5, r6, r7, kg, x1, x2, kx, y1, y2, ky]) (fun hHeld2 => ?_)
                        clear hK K hHeld
                        have hHeld := hHeld2
                        clear hHeld2
                        (try simp only [Act.put, List.setIfInBounds_toArray, List.set_cons_zero, List.set_cons_succ])
                        refine wpAnyH_ready (rs := [26]) (by kernel_rfl) (by simp) ?_
                        refine AllReadyH.cons (o := { dst := some 87, op := Op.call { callee := Callee.value (Operand.func 19), args := #[Operand.const (Value.int IntKind.i64 1)], argTypes := #[3] }, type := 24, pos := "law.go:38", after := #[{ on := 25, ground := Ground.chain }, { on := 21, ground := Ground.guard }], guard := some (21, true) }) rfl (fun K hK => ?_) ?_
                        · go_simp
                          refine (O3 _).mono ?_
                          rintro e w1 ⟨q0, q1, q2, q3, rfl, hq, os38, k38, rfl⟩
                          (try have he := EQ _ _ _ _ _ _ _ _ _ _ _ _ _ _ _ _ hi hj hp hq)
                          (try go_wp2_with fail)
                          refine hK.out _ _ (by (try dsimp only); simp [go_sem, r0, r1, r2, r3, r4, r5, r6, r7, kg, x1, x2, kx, y1, y2, ky]) (fun hHeld2 => ?_)
                          clear hK K hHeld
                          have hHeld := hHeld2
                          clear hHeld2
                          (try simp only [Act.put, List.setIfInBounds_toArray, List.set_cons_zero, List.set_cons_succ])
                          refine wpAnyH_take (i := 27) (oi := { dst := some 88, op := Op.build 26 #[(0, Operand.tmp 86), (1, Operand.tmp 87)], type := 26, pos := "law.go:38", after := #[{ on := 25, ground := Ground.data }, { on := 26, ground := Ground.data }, { on := 21, ground := Ground.guard }], guard := some (21, true) }) (v := ?_) rfl (by kernel_rfl) (by kernel_rfl) (by kernel_rfl) (fun _ _ _ h => h) (Or.inl ⟨by rfl, ?_⟩) (by assumption) ?_
                          rotate_left
                          · (intro w hSw; (try dsimp only at hSw); go_simp <;> with_reducible rfl)
                          (try simp only [Act.put, List.setIfInBounds_toArray, List.set_cons_zero, List.set_cons_succ])
                          refine wpAnyH_take (i := 28) (oi := { dst := some 89, op := Op.binOp BinOp.eql 26 (Operand.tmp 84) (Operand.tmp 88) 26, type := 4, pos := "law.go:38", after := #[{ on := 23, ground := Ground.data }, { on := 27, ground := Ground.data }, { on := 21, ground := Ground.guard }], guard := some (21, true) }) (v := ?_) rfl (by kernel_rfl) (by kernel_rfl) (by kernel_rfl) (fun _ _ _ h => h) (Or.inl ⟨by rfl, ?_⟩) (by assumption) ?_
                          rotate_left
                          · (intro w hSw; (try dsimp only at hSw); go_simp <;> with_reducible rfl)
                          (try simp only [Act.put, List.setIfInBounds_toArray, List.set_cons_zero, List.set_cons_succ])
                          refine wpAnyH_take (i := 29) (oi := { dst := some 90, op := Op.pick (Operand.tmp 82) (Operand.tmp 89) (Operand.const (Value.bool false)), type := 4, pos := "law.go:38", after := #[{ on := 21, ground := Ground.data }, { on := 28, ground := Ground.data }], guard := none }) (v := ?_) rfl (by kernel_rfl) (by kernel_rfl) (by kernel_rfl) (fun _ _ _ h => h) (Or.inl ⟨by rfl, ?_⟩) (by assumption) ?_
                          rotate_left
                          · (intro w hSw; (try dsimp only at hSw); go_simp <;> with_reducible rfl)
                          (try simp only [Act.put, List.setIfInBounds_toArray, List.set_cons_zero, List.set_cons_succ])
                          refine wpAnyH_take (i := 30) (oi := { dst := some 91, op := Op.move (Operand.tmp 90), type := 4, pos := "law.go:38", after := #[{ on := 29, ground := Ground.data }, { on := 26, ground := Ground.chain }], guard := none }) (v := ?_) rfl (by kernel_rfl) (by kernel_rfl) (by kernel_rfl) (fun _ _ _ h => h) (Or.inl ⟨by rfl, ?_⟩) (by assumption) ?_
                          rotate_left
                          · (intro w hSw; (try dsimp only at hSw); go_simp <;> with_reducible rfl)
                          (try simp only [Act.put, List.setIfInBounds_toArray, List.set_cons_zero, List.set_cons_succ])
                          refine wpAnyH_ready (rs := [31]) (by kernel_rfl) (by simp) ?_
                          refine AllReadyH.cons (o := { dst := some 92, op := Op.call { callee := Callee.value (Operand.func 16), args := #[], argTypes := #[] }, type := 4, pos := "law.go:38", after := #[{ on := 30, ground := Ground.chain }, { on := 30, ground := Ground.guard }], guard := some (30, true) }) rfl (fun K hK => ?_) ?_
                          · go_simp
                            refine (CA _).mono ?_
                            rintro e w1 ⟨rfl, os39, k39, rfl⟩
                            (try go_wp2_with fail)
                            refine hK.out _ _ (by (try dsimp only); simp [go_sem, r0, r1, r2, r3, r4, r5, r6, r7, kg, x1, x2, kx, y1, y2, ky]) (fun hHeld2 => ?_)
                            clear hK K hHeld
                            have hHeld := hHeld2
                            clear hHeld2
                            (try simp only [Act.put, List.setIfInBounds_toArray, List.set_cons_zero, List.set_cons_succ])
                            refine wpAnyH_take (i := 32) (oi := { dst := some 93, op := Op.pick (Operand.tmp 91) (Operand.tmp 92) (Operand.const (Value.bool false)), type := 4, pos := "law.go:38", after := #[{ on := 30, ground := Ground.data }, { on := 31, ground := Ground.data }], guard := none }) (v := ?_) rfl (by kernel_rfl) (by kernel_rfl) (by kernel_rfl) (fun _ _ _ h => h) (Or.inl ⟨by rfl, ?_⟩) (by assumption) ?_
                            rotate_left
                            · (intro w hSw; (try dsimp only at hSw); go_simp <;> with_reducible rfl)
                            (try simp only [Act.put, List.setIfInBounds_toArray, List.set_cons_zero, List.set_cons_succ])
                            refine wpAnyH_take (i := 33) (oi := { dst := some 6, op := Op.assign (Operand.tmp 93), type := 4, pos := "law.go:38", after := #[{ on := 32, ground := Ground.data }, { on := 31, ground := Ground.chain }, { on := 0, ground := Ground.phase }, { on := 1, ground := Ground.phase }, { on := 2, ground := Ground.phase }, { on := 3, ground := Ground.phase }, { on := 4, ground := Ground.phase }, { on := 5, ground := Ground.phase }, { on := 6, ground := Ground.phase }, { on := 7, ground := Ground.phase }, { on := 8, ground := Ground.phase }, { on := 9, ground := Ground.phase }, { on := 10, ground := Ground.phase }, { on := 11, ground := Ground.phase }, { on := 12, ground := Ground.phase }, { on := 13, ground := Ground.phase }, { on := 14, ground := Ground.phase }, { on := 15, ground := Ground.phase }, { on := 16, ground := Ground.phase }, { on := 17, ground := Ground.phase }, { on := 18, ground := Ground.phase }, { on := 19, ground := Ground.phase }, { on := 20, ground := Ground.phase }, { on := 21, ground := Ground.phase }, { on := 22, ground := Ground.phase }, { on := 23, ground := Ground.phase }, { on := 24, ground := Ground.phase }, { on := 25, ground := Ground.phase }, { on := 26, ground := Ground.phase }, { on := 27, ground := Ground.phase }, { on := 28, ground := Ground.phase }, { on := 29, ground := Ground.phase }, { on := 30, ground := Ground.phase }, { on := 31, ground := Ground.phase }, { on := 32, ground := Ground.phase }], guard := none }) (v := ?_) rfl (by kernel_rfl) (by kernel_rfl) (by kernel_rfl) (fun _ _ _ h => h) (Or.inl ⟨by rfl, ?_⟩) (by assumption) ?_
                            rotate_left
                            · (intro w hSw; (try dsimp only at hSw); go_simp <;> with_reducible rfl)
                            (try simp only [Act.put, List.setIfInBounds_toArray, List.set_cons_zero, List.set_cons_succ])
                            refine wpAnyH_done (by kernel_rfl) ?_ _
                            go_wp2
                            go_ret
                            exact ⟨rfl, HG.out.trans (by with_reducible repeat (first | exact IsGr.refl _ | refine IsGr.gr ?_ _ _ | refine IsGr.alloc ?_ _ | refine IsGr.drew ?_ | refine IsGr.drewN ?_ _))⟩
                          exact AllReadyH.nil
                        exact AllReadyH.nil
                      exact AllReadyH.nil
                    exact AllReadyH.nil
                  exact AllReadyH.nil
                exact AllReadyH.nil
              exact AllReadyH.nil
            exact AllReadyH.nil
          exact AllReadyH.nil
end Go.Proofs.Ytecohcgcffhlnaa
