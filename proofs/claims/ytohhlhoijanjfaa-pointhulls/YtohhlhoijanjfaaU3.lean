/- Contracts of package point over the loaded program: turn. -/
import Derived.Test.YtohhlhoijanjfaaU2
import Derived.Deep.DeepCutAuto
namespace Go.Proofs.Ytohhlhoijanjfaa
open Go.RowKit Go.Shelf
attribute [local go_sem] Gr.size Gr.cell? Gr.frozen? Gr.setCell Gr.drew Gr.drewN Gr.of_drew Gr.of_drewN Gr.gr Gr.lt_of1 Gr.le_of1 Gr.lt_of2 Gr.le_of2 Gr.lt_of3 Gr.le_of3 Gr.lt_of4 Gr.le_of4 Gr.lt_of5 Gr.le_of5 Gr.lt_of6 Gr.le_of6 Gr.lt_of7 Gr.le_of7 Gr.lt_of8 Gr.le_of8 Gr.lt_of9 Gr.le_of9 Gr.lt_of10 Gr.le_of10 Gr.lt_of11 Gr.le_of11 Gr.lt_of12 Gr.le_of12 Gr.lt_of13 Gr.le_of13 Gr.lt_of14 Gr.le_of14 Gr.lt_of15 Gr.le_of15 Gr.lt_of16 Gr.le_of16 Gr.lt_of17 Gr.le_of17 Gr.lt_of18 Gr.le_of18 Gr.lt_of19 Gr.le_of19 Gr.lt_of20 Gr.le_of20 Gr.lt_of21 Gr.le_of21 Gr.lt_of22 Gr.le_of22 Gr.lt_of23 Gr.le_of23 Gr.lt_of24 Gr.le_of24

/-- The turn of three points. -/
def turnI (a1 a2 b1 b2 c1 c2 : Int) : Int := (b1 - a1) * (c2 - a2) - (b2 - a2) * (c1 - a1)
theorem mul_le_of {x y A B : Int} (hx : -A ≤ x ∧ x ≤ A) (hy : -B ≤ y ∧ y ≤ B) : -(A * B) ≤ x * y ∧ x * y ≤ A * B := by
  have h1 : 0 ≤ (A - x) * (B + y) := Int.mul_nonneg (by omega) (by omega)
  have h2 : 0 ≤ (A + x) * (B - y) := Int.mul_nonneg (by omega) (by omega)
  have h3 : 0 ≤ (A - x) * (B - y) := Int.mul_nonneg (by omega) (by omega)
  have h4 : 0 ≤ (A + x) * (B + y) := Int.mul_nonneg (by omega) (by omega)
  have e1 : (A - x) * (B + y) = A * B + A * y - x * B - x * y := by rw [Int.sub_mul, Int.mul_add, Int.mul_add]; omega
  have e2 : (A + x) * (B - y) = A * B - A * y + x * B - x * y := by rw [Int.add_mul, Int.mul_sub, Int.mul_sub]; omega
  have e3 : (A - x) * (B - y) = A * B - A * y - x * B + x * y := by rw [Int.sub_mul, Int.mul_sub, Int.mul_sub]; omega
  have e4 : (A + x) * (B + y) = A * B + A * y + x * B + x * y := by rw [Int.add_mul, Int.mul_add, Int.mul_add]; omega
  omega


set_option maxRecDepth 20000 in set_option maxHeartbeats 8000000 in
theorem turn_any (a1 a2 b1 b2 c1 c2 : Int) (ha : rightP a1 a2 = true) (hb : rightP b1 b2 = true) (hc : rightP c1 c2 = true) (w : World) :
    Calls Try.prog 82 #[.agg #[.int .i64 a1, .int .i64 a2], .agg #[.int .i64 b1, .int .i64 b2], .agg #[.int .i64 c1, .int .i64 c2]] w fun e w' => ∃ s0 s1 s2 s3 : Int, e = .returned (.agg #[.int .u64 s0, .int .u64 s1, .int .u64 s2, .int .u64 s3]) ∧ IsI s0 s1 s2 s3 (turnI a1 a2 b1 b2 c1 c2) ∧ IsGr w w' := by
  have ra := rightP_t ha; have rb := rightP_t hb; have rc := rightP_t hc
  obtain ⟨D1, e1, d1, v1⟩ : ∃ D, D = b1 - a1 ∧ (-4398046511104 ≤ D ∧ D ≤ 4398046511104) ∧ IntKind.i64.wrap (b1 - a1) = D := ⟨_, rfl, by omega, by rw [IntKind.wrap_i64]; omega⟩
  obtain ⟨D2, e2, d2, v2⟩ : ∃ D, D = c2 - a2 ∧ (-4398046511104 ≤ D ∧ D ≤ 4398046511104) ∧ IntKind.i64.wrap (c2 - a2) = D := ⟨_, rfl, by omega, by rw [IntKind.wrap_i64]; omega⟩
  obtain ⟨D3, e3, d3, v3⟩ : ∃ D, D = b2 - a2 ∧ (-4398046511104 ≤ D ∧ D ≤ 4398046511104) ∧ IntKind.i64.wrap (b2 - a2) = D := ⟨_, rfl, by omega, by rw [IntKind.wrap_i64]; omega⟩
  obtain ⟨D4, e4, d4, v4⟩ : ∃ D, D = c1 - a1 ∧ (-4398046511104 ≤ D ∧ D ≤ 4398046511104) ∧ IntKind.i64.wrap (c1 - a1) = D := ⟨_, rfl, by omega, by rw [IntKind.wrap_i64]; omega⟩
  have HT : Hid (D1 * D2 - D3 * D4 = turnI a1 a2 b1 b2 c1 c2) := by unfold Hid turnI; rw [e1, e2, e3, e4]
  have p1 := mul_le_of d1 d2
  have p2 := mul_le_of d3 d4
  have O1 := fun w => Of_any D1 (by omega) (by omega) w
  have O2 := fun w => Of_any D2 (by omega) (by omega) w
  have O3 := fun w => Of_any D3 (by omega) (by omega) w
  have O4 := fun w => Of_any D4 (by omega) (by omega) w
  have M1 := fun (x0 x1 x2 x3 y0 y1 y2 y3 : Int) (hx : IsI x0 x1 x2 x3 D1) (hy : IsI y0 y1 y2 y3 D2) w => product_any x0 x1 x2 x3 D1 y0 y1 y2 y3 D2 hx hy (by omega) w
  have M2 := fun (x0 x1 x2 x3 y0 y1 y2 y3 : Int) (hx : IsI x0 x1 x2 x3 D3) (hy : IsI y0 y1 y2 y3 D4) w => product_any x0 x1 x2 x3 D3 y0 y1 y2 y3 D4 hx hy (by omega) w
  have S1 := fun (x0 x1 x2 x3 y0 y1 y2 y3 : Int) (hx : IsI x0 x1 x2 x3 (D1 * D2)) (hy : IsI y0 y1 y2 y3 (D3 * D4)) w => difference_any x0 x1 x2 x3 (D1 * D2) y0 y1 y2 y3 (D3 * D4) hx hy (by omega) w
  clear p1 p2 e1 e2 e3 e4 d1 d2 d3 d4 ra rb rc ha hb hc
  go_enter Try.func82, Try.ntmps82
  go_upto_region 1 with fail
  go_cut [7] (fun t7 wr => ∃ (g : Nat) (p0 p1 p2 p3 : Int), t7 = .pointer (some ⟨g, 0, none⟩) ∧ w.heap.size + 1 + 1 + 1 < g ∧ g < wr.heap.size ∧ (wr.cell? ⟨g, 0, none⟩ = some (.int .u64 p0) ∧ wr.cell? ⟨g, 1, none⟩ = some (.int .u64 p1) ∧ wr.cell? ⟨g, 2, none⟩ = some (.int .u64 p2) ∧ wr.cell? ⟨g, 3, none⟩ = some (.int .u64 p3)) ∧ IsI p0 p1 p2 p3 (D1 * D2) ∧ (wr.cell? ⟨w.heap.size, 0, none⟩ = some (.int .i64 a1) ∧ wr.cell? ⟨w.heap.size, 1, none⟩ = some (.int .i64 a2)) ∧ (wr.cell? ⟨w.heap.size + 1, 0, none⟩ = some (.int .i64 b1) ∧ wr.cell? ⟨w.heap.size + 1, 1, none⟩ = some (.int .i64 b2)) ∧ (wr.cell? ⟨w.heap.size + 1 + 1, 0, none⟩ = some (.int .i64 c1) ∧ wr.cell? ⟨w.heap.size + 1 + 1, 1, none⟩ = some (.int .i64 c2)) ∧ (wr.cell? ⟨w.heap.size + 1 + 1 + 1, 0, none⟩ = some (.int .u64 0) ∧ wr.cell? ⟨w.heap.size + 1 + 1 + 1, 1, none⟩ = some (.int .u64 0) ∧ wr.cell? ⟨w.heap.size + 1 + 1 + 1, 2, none⟩ = some (.int .u64 0) ∧ wr.cell? ⟨w.heap.size + 1 + 1 + 1, 3, none⟩ = some (.int .u64 0)) ∧ (wr.frozen? ⟨w.heap.size + 1 + 1 + 1, 0, none⟩ = false ∧ wr.frozen? ⟨w.heap.size + 1 + 1 + 1, 1, none⟩ = false ∧ wr.frozen? ⟨w.heap.size + 1 + 1 + 1, 2, none⟩ = false ∧ wr.frozen? ⟨w.heap.size + 1 + 1 + 1, 3, none⟩ = false) ∧ Below w.heap.size w wr)
  case first =>
    go_region_held3 (fun w' => (w'.cell? ⟨w.heap.size, 0, none⟩ = some (.int .i64 a1) ∧ w'.cell? ⟨w.heap.size, 1, none⟩ = some (.int .i64 a2)) ∧ (w'.cell? ⟨w.heap.size + 1, 0, none⟩ = some (.int .i64 b1) ∧ w'.cell? ⟨w.heap.size + 1, 1, none⟩ = some (.int .i64 b2)) ∧ (w'.cell? ⟨w.heap.size + 1 + 1, 0, none⟩ = some (.int .i64 c1) ∧ w'.cell? ⟨w.heap.size + 1 + 1, 1, none⟩ = some (.int .i64 c2))) (simp [go_sem])
      ((first | (go_at_call_of 38 (Value.int IntKind.i64 D1); refine (O1 _).mono ?_; rintro e w1 ⟨x0, x1, x2, x3, rfl, hx, os1, m1, rfl⟩) | (go_at_call_of 38 (Value.int IntKind.i64 D2); refine (O2 _).mono ?_; rintro e w1 ⟨y0, y1, y2, y3, rfl, hy, os2, m2, rfl⟩) | (go_at_call 84; refine (M1 _ _ _ _ _ _ _ _ hx hy _).mono ?_; rintro e w1 ⟨p0, p1, p2, p3, rfl, hp, os3, m3, rfl⟩)))
    all_goals
      go_wp2
      go_meet
      case rel =>
        refine ⟨_, p0, p1, p2, p3, rfl, ?_, ?_, ?_, hp, ?_, ?_, ?_, ?_, ?_, IsGr.below (w := w) (by with_reducible repeat (first | exact IsGr.refl _ | refine IsGr.gr ?_ _ _ | refine IsGr.alloc ?_ _ | refine IsGr.drew ?_ | refine IsGr.drewN ?_ _))⟩
        · first | omega | (simp [Gr.size]; done) | (simp [Gr.size]; omega)
        · first | omega | (simp [Gr.size]; done) | (simp [Gr.size]; omega)
        all_goals simp [go_sem]
  case rest =>
    obtain ⟨g, p0, p1, p2, p3, rfl, kg0, kg, ⟨q0, q1, q2, q3⟩, hp, ⟨a1', a2'⟩, ⟨b1', b2'⟩, ⟨c1', c2'⟩, ⟨z0, z1, z2, z3⟩, ⟨f0, f1, f2, f3⟩, hbe⟩ := hcut
    obtain ⟨W1, hW1⟩ : ∃ W1, W1 = wc := ⟨_, rfl⟩
    subst hW1
    have HBe : Hid (Below w.heap.size w W1) := hbe
    have kr : w.heap.size + 1 + 1 + 1 < W1.heap.size := by omega
    have kc : w.heap.size + 1 + 1 < W1.heap.size := by omega
    have kb : w.heap.size + 1 < W1.heap.size := by omega
    have ka : w.heap.size < W1.heap.size := by omega
    have KG : Hid (w.heap.size + 1 + 1 + 1 < g) := kg0
    clear kg0 hbe O1 O2 M1 v1 v2
    go_upto_region 2 with fail
    go_cut [8] (fun t8 wr => ∃ (g : Nat) (p0 p1 p2 p3 : Int), t8 = .pointer (some ⟨g, 0, none⟩) ∧ g < wr.heap.size ∧ (wr.cell? ⟨g, 0, none⟩ = some (.int .u64 p0) ∧ wr.cell? ⟨g, 1, none⟩ = some (.int .u64 p1) ∧ wr.cell? ⟨g, 2, none⟩ = some (.int .u64 p2) ∧ wr.cell? ⟨g, 3, none⟩ = some (.int .u64 p3)) ∧ IsI p0 p1 p2 p3 (D3 * D4) ∧ IsGr W1 wr)
    case first =>
      go_region_held3 (fun w' => (w'.cell? ⟨w.heap.size, 0, none⟩ = some (.int .i64 a1) ∧ w'.cell? ⟨w.heap.size, 1, none⟩ = some (.int .i64 a2)) ∧ (w'.cell? ⟨w.heap.size + 1, 0, none⟩ = some (.int .i64 b1) ∧ w'.cell? ⟨w.heap.size + 1, 1, none⟩ = some (.int .i64 b2)) ∧ (w'.cell? ⟨w.heap.size + 1 + 1, 0, none⟩ = some (.int .i64 c1) ∧ w'.cell? ⟨w.heap.size + 1 + 1, 1, none⟩ = some (.int .i64 c2))) (simp [go_sem, a1', a2', b1', b2', c1', c2', ka, kb, kc])
        ((first | (go_at_call_of 38 (Value.int IntKind.i64 D3); refine (O3 _).mono ?_; rintro e w1 ⟨x0, x1, x2, x3, rfl, hx, os1, m1, rfl⟩) | (go_at_call_of 38 (Value.int IntKind.i64 D4); refine (O4 _).mono ?_; rintro e w1 ⟨y0, y1, y2, y3, rfl, hy, os2, m2, rfl⟩) | (go_at_call 84; refine (M2 _ _ _ _ _ _ _ _ hx hy _).mono ?_; rintro e w1 ⟨r0, r1, r2, r3, rfl, hr, os3, m3, rfl⟩)))
      all_goals
        go_wp2
        go_meet
        case rel =>
          refine ⟨_, r0, r1, r2, r3, rfl, ?_, ?_, hr, (by with_reducible repeat (first | exact IsGr.refl _ | refine IsGr.gr ?_ _ _ | refine IsGr.alloc ?_ _ | refine IsGr.drew ?_ | refine IsGr.drewN ?_ _))⟩
          · first | omega | (simp [Gr.size]; done) | (simp [Gr.size]; omega)
          · simp [go_sem]
    case rest =>
      obtain ⟨h, r0, r1, r2, r3, rfl, kh, ⟨y0, y1, y2, y3⟩, hr, hgr⟩ := hcut
      obtain ⟨W2, hW2⟩ : ∃ W2, W2 = wc := ⟨_, rfl⟩
      subst hW2
      replace q0 := hgr.cell_at kg q0
      replace q1 := hgr.cell_at kg q1
      replace q2 := hgr.cell_at kg q2
      replace q3 := hgr.cell_at kg q3
      replace z0 := hgr.cell_at kr z0
      replace z1 := hgr.cell_at kr z1
      replace z2 := hgr.cell_at kr z2
      replace z3 := hgr.cell_at kr z3
      replace f0 := hgr.frozen_at kr f0
      replace f1 := hgr.frozen_at kr f1
      replace f2 := hgr.frozen_at kr f2
      replace f3 := hgr.frozen_at kr f3
      have hs2 := hgr.size
      replace kg : g < W2.heap.size := by omega
      replace kr : w.heap.size + 1 + 1 + 1 < W2.heap.size := by omega
      have HB2 : Hid (Below w.heap.size w W2) := HBe.out.trans (hgr.below.mono (by omega))
      clear hgr hs2 HBe a1' a2' b1' b2' c1' c2' ka kb kc O3 O4 M2 v3 v4
      go_wp2_with fail
      refine (S1 _ _ _ _ _ _ _ _ hp hr _).mono ?_
      rintro e w1 ⟨s0, s1, s2, s3, rfl, hs, os4, m4, rfl⟩
      rw [HT.out] at hs
      go_wp2
      have hbe := HB2.out
      refine bodyPost_ret (v := .agg #[.int .u64 s0, .int .u64 s1, .int .u64 s2, .int .u64 s3]) (by simp [results, Try.results82, go_sem, kr, z0, z1, z2, z3]) rfl ⟨s0, s1, s2, s3, rfl, hs, IsGr.of_below (by repeat (first | exact Below.refl _ _ | exact (by assumption) | refine Below.drew ?_ | refine Below.gro ?_ (by first | omega | (simp; done) | (simp; omega) | (simp [Gr.size]; omega)) _ _ | refine Below.alloc ?_ (by first | omega | (simp; done) | (simp; omega) | (simp [Gr.size]; omega)) _ | refine Below.setCell ?_ (by first | omega | (simp; done) | (simp; omega) | (simp [Gr.size]; omega)) _))⟩
end Go.Proofs.Ytohhlhoijanjfaa
