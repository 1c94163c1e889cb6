/- Contracts of package point over the loaded program: Compare, Cmp, square; of gromaref03: Ahead. -/
import Derived.Test.YtohhlhoijanjfaaU5
namespace Go.Proofs.Ytohhlhoijanjfaa
open Go.RowKit Go.Shelf
attribute [local go_sem] Gr.size Gr.cell? Gr.frozen? Gr.setCell Gr.drew Gr.drewN Gr.of_drew Gr.of_drewN Gr.gr Gr.lt_of1 Gr.le_of1 Gr.lt_of2 Gr.le_of2 Gr.lt_of3 Gr.le_of3 Gr.lt_of4 Gr.le_of4 Gr.lt_of5 Gr.le_of5 Gr.lt_of6 Gr.le_of6 Gr.lt_of7 Gr.le_of7 Gr.lt_of8 Gr.le_of8 Gr.lt_of9 Gr.le_of9 Gr.lt_of10 Gr.le_of10 Gr.lt_of11 Gr.le_of11 Gr.lt_of12 Gr.le_of12 Gr.lt_of13 Gr.le_of13 Gr.lt_of14 Gr.le_of14 Gr.lt_of15 Gr.le_of15 Gr.lt_of16 Gr.le_of16 Gr.lt_of17 Gr.le_of17 Gr.lt_of18 Gr.le_of18 Gr.lt_of19 Gr.le_of19 Gr.lt_of20 Gr.le_of20 Gr.lt_of21 Gr.le_of21 Gr.lt_of22 Gr.le_of22 Gr.lt_of23 Gr.le_of23 Gr.lt_of24 Gr.le_of24

set_option maxRecDepth 20000 in set_option maxHeartbeats 8000000 in
theorem Compare_any (a b : Int) (w : World) : Calls Try.prog 86 #[.int .i64 a, .int .i64 b] w fun e w' => e = .returned (.int .i64 (cmpI a b)) ∧ IsGr w w' := by
  rcases Int.lt_trichotomy a b with h | h | h
  · have HR : Hid (-1 = cmpI a b) := (cmpI_lt h).symm
    go_enter Try.func86, Try.ntmps86
    go_wp2
    go_ret
    exact ⟨ret_int' HR.out, (by with_reducible repeat (first | exact IsGr.refl _ | refine IsGr.gr ?_ _ _ | refine IsGr.alloc ?_ _ | refine IsGr.drew ?_ | refine IsGr.drewN ?_ _))⟩
  · have HR : Hid (0 = cmpI a b) := (cmpI_eq h).symm
    subst h
    go_enter Try.func86, Try.ntmps86
    go_wp2
    go_ret
    exact ⟨ret_int' HR.out, (by with_reducible repeat (first | exact IsGr.refl _ | refine IsGr.gr ?_ _ _ | refine IsGr.alloc ?_ _ | refine IsGr.drew ?_ | refine IsGr.drewN ?_ _))⟩
  · have HR : Hid (1 = cmpI a b) := (cmpI_gt h).symm
    have h2 : ¬ a < b := by omega
    go_enter Try.func86, Try.ntmps86
    go_wp2
    go_ret
    exact ⟨ret_int' HR.out, (by with_reducible repeat (first | exact IsGr.refl _ | refine IsGr.gr ?_ _ _ | refine IsGr.alloc ?_ _ | refine IsGr.drew ?_ | refine IsGr.drewN ?_ _))⟩

/-- Which of two points comes first. -/
def cmpP (a1 a2 b1 b2 : Int) : Int := if a1 = b1 then cmpI a2 b2 else cmpI a1 b1

set_option maxRecDepth 20000 in set_option maxHeartbeats 8000000 in
theorem PCmp_any (a1 a2 b1 b2 : Int) (w : World) : Calls Try.prog 47 #[.agg #[.int .i64 a1, .int .i64 a2], .agg #[.int .i64 b1, .int .i64 b2]] w fun e w' => e = .returned (.int .i64 (cmpP a1 a2 b1 b2)) ∧ IsGr w w' := by
  by_cases h : a1 = b1
  · have CC := fun w => Compare_any a2 b2 w
    have HR : Hid (cmpI a2 b2 = cmpP a1 a2 b1 b2) := by unfold Hid cmpP; rw [if_pos h]
    generalize cmpI a2 b2 = K at CC HR
    subst h
    go_enter Try.func47, Try.ntmps47
    go_wp2_with fail
    refine (CC _).mono ?_
    rintro e w1 ⟨rfl, os1, m1, rfl⟩
    go_wp2
    go_ret
    exact ⟨ret_int' HR.out, (by with_reducible repeat (first | exact IsGr.refl _ | refine IsGr.gr ?_ _ _ | refine IsGr.alloc ?_ _ | refine IsGr.drew ?_ | refine IsGr.drewN ?_ _))⟩
  · have CC := fun w => Compare_any a1 b1 w
    have HR : Hid (cmpI a1 b1 = cmpP a1 a2 b1 b2) := by unfold Hid cmpP; rw [if_neg h]
    generalize cmpI a1 b1 = K at CC HR
    go_enter Try.func47, Try.ntmps47
    go_wp2_with fail
    refine (CC _).mono ?_
    rintro e w1 ⟨rfl, os1, m1, rfl⟩
    go_wp2
    go_ret
    exact ⟨ret_int' HR.out, (by with_reducible repeat (first | exact IsGr.refl _ | refine IsGr.gr ?_ _ _ | refine IsGr.alloc ?_ _ | refine IsGr.drew ?_ | refine IsGr.drewN ?_ _))⟩

/-- Does one come ahead of another one? -/
def aheadP (a1 a2 b1 b2 : Int) : Bool := decide (a1 < b1 ∨ a1 = b1 ∧ a2 < b2)

set_option maxRecDepth 20000 in set_option maxHeartbeats 8000000 in
theorem Ahead_any (a1 a2 b1 b2 : Int) (w : World) : Calls Try.prog 18 #[.agg #[.int .i64 a1, .int .i64 a2], .agg #[.int .i64 b1, .int .i64 b2]] w fun e w' => e = .returned (.bool (aheadP a1 a2 b1 b2)) ∧ IsGr w w' := by
  by_cases h : a1 < b1
  · have HR : Hid (true = aheadP a1 a2 b1 b2) := by simp [Hid, aheadP, h]
    go_enter Try.func18, Try.ntmps18
    go_wp2
    go_ret
    exact ⟨ret_bool HR.out, (by with_reducible repeat (first | exact IsGr.refl _ | refine IsGr.gr ?_ _ _ | refine IsGr.alloc ?_ _ | refine IsGr.drew ?_ | refine IsGr.drewN ?_ _))⟩
  · by_cases h2 : a1 = b1
    · by_cases h3 : a2 < b2
      · have HR : Hid (true = aheadP a1 a2 b1 b2) := by simp [Hid, aheadP, h2, h3]
        subst h2
        go_enter Try.func18, Try.ntmps18
        go_wp2
        go_ret
        exact ⟨ret_bool HR.out, (by with_reducible repeat (first | exact IsGr.refl _ | refine IsGr.gr ?_ _ _ | refine IsGr.alloc ?_ _ | refine IsGr.drew ?_ | refine IsGr.drewN ?_ _))⟩
      · have HR : Hid (false = aheadP a1 a2 b1 b2) := by simp [Hid, aheadP, h2, h3]
        subst h2
        go_enter Try.func18, Try.ntmps18
        go_wp2
        go_ret
        exact ⟨ret_bool HR.out, (by with_reducible repeat (first | exact IsGr.refl _ | refine IsGr.gr ?_ _ _ | refine IsGr.alloc ?_ _ | refine IsGr.drew ?_ | refine IsGr.drewN ?_ _))⟩
    · have HR : Hid (false = aheadP a1 a2 b1 b2) := by simp [Hid, aheadP, h, h2]
      go_enter Try.func18, Try.ntmps18
      go_wp2
      go_ret
      exact ⟨ret_bool HR.out, (by with_reducible repeat (first | exact IsGr.refl _ | refine IsGr.gr ?_ _ _ | refine IsGr.alloc ?_ _ | refine IsGr.drew ?_ | refine IsGr.drewN ?_ _))⟩

/-- The square of how far two points are apart. -/
def squareI (a1 a2 b1 b2 : Int) : Int := (b1 - a1) * (b1 - a1) + (b2 - a2) * (b2 - a2)


set_option maxRecDepth 20000 in set_option maxHeartbeats 8000000 in
theorem square_any (a1 a2 b1 b2 : Int) (ha : rightP a1 a2 = true) (hb : rightP b1 b2 = true) (w : World) :
    Calls Try.prog 85 #[.agg #[.int .i64 a1, .int .i64 a2], .agg #[.int .i64 b1, .int .i64 b2]] w fun e w' => ∃ s0 s1 s2 s3 : Int, e = .returned (.agg #[.int .u64 s0, .int .u64 s1, .int .u64 s2, .int .u64 s3]) ∧ IsI s0 s1 s2 s3 (squareI a1 a2 b1 b2) ∧ IsGr w w' := by
  have ra := rightP_t ha; have rb := rightP_t hb
  obtain ⟨D1, e1, d1, v1⟩ : ∃ D, D = b1 - a1 ∧ (-4398046511104 ≤ D ∧ D ≤ 4398046511104) ∧ IntKind.i64.wrap (b1 - a1) = D := ⟨_, rfl, by omega, by rw [IntKind.wrap_i64]; omega⟩
  obtain ⟨D2, e2, d2, v2⟩ : ∃ D, D = b2 - a2 ∧ (-4398046511104 ≤ D ∧ D ≤ 4398046511104) ∧ IntKind.i64.wrap (b2 - a2) = D := ⟨_, rfl, by omega, by rw [IntKind.wrap_i64]; omega⟩
  have HT : Hid (D1 * D1 + D2 * D2 = squareI a1 a2 b1 b2) := by unfold Hid squareI; rw [e1, e2]
  have p1 := mul_le_of d1 d1
  have p2 := mul_le_of d2 d2
  have O1 := fun w => Of_any D1 (by omega) (by omega) w
  have O2 := fun w => Of_any D2 (by omega) (by omega) w
  have M1 := fun (x0 x1 x2 x3 : Int) (hx : IsI x0 x1 x2 x3 D1) w => product_any x0 x1 x2 x3 D1 x0 x1 x2 x3 D1 hx hx (by omega) w
  have M2 := fun (x0 x1 x2 x3 : Int) (hx : IsI x0 x1 x2 x3 D2) w => product_any x0 x1 x2 x3 D2 x0 x1 x2 x3 D2 hx hx (by omega) w
  have S1 := fun (x0 x1 x2 x3 y0 y1 y2 y3 : Int) (hx : IsI x0 x1 x2 x3 (D1 * D1)) (hy : IsI y0 y1 y2 y3 (D2 * D2)) w => sum_any x0 x1 x2 x3 (D1 * D1) y0 y1 y2 y3 (D2 * D2) hx hy (by omega) w
  clear p1 p2 e1 e2 d1 d2 ra rb ha hb
  go_enter Try.func85, Try.ntmps85
  go_upto_region 1 with fail
  go_cut [5, 6] (fun t5 t6 wr => ∃ (g h : Nat) (p0 p1 p2 p3 q0 q1 q2 q3 : Int), t5 = .pointer (some ⟨g, 0, none⟩) ∧ t6 = .pointer (some ⟨h, 0, none⟩) ∧ w.heap.size + 1 + 1 < g ∧ w.heap.size + 1 + 1 < h ∧ g < wr.heap.size ∧ h < wr.heap.size ∧ (wr.cell? ⟨g, 0, none⟩ = some (.int .u64 p0) ∧ wr.cell? ⟨g, 1, none⟩ = some (.int .u64 p1) ∧ wr.cell? ⟨g, 2, none⟩ = some (.int .u64 p2) ∧ wr.cell? ⟨g, 3, none⟩ = some (.int .u64 p3)) ∧ (wr.cell? ⟨h, 0, none⟩ = some (.int .u64 q0) ∧ wr.cell? ⟨h, 1, none⟩ = some (.int .u64 q1) ∧ wr.cell? ⟨h, 2, none⟩ = some (.int .u64 q2) ∧ wr.cell? ⟨h, 3, none⟩ = some (.int .u64 q3)) ∧ IsI p0 p1 p2 p3 D1 ∧ IsI q0 q1 q2 q3 D2 ∧ (wr.cell? ⟨w.heap.size + 1 + 1, 0, none⟩ = some (.int .u64 0) ∧ wr.cell? ⟨w.heap.size + 1 + 1, 1, none⟩ = some (.int .u64 0) ∧ wr.cell? ⟨w.heap.size + 1 + 1, 2, none⟩ = some (.int .u64 0) ∧ wr.cell? ⟨w.heap.size + 1 + 1, 3, none⟩ = some (.int .u64 0)) ∧ (wr.frozen? ⟨w.heap.size + 1 + 1, 0, none⟩ = false ∧ wr.frozen? ⟨w.heap.size + 1 + 1, 1, none⟩ = false ∧ wr.frozen? ⟨w.heap.size + 1 + 1, 2, none⟩ = false ∧ wr.frozen? ⟨w.heap.size + 1 + 1, 3, none⟩ = false) ∧ Below w.heap.size w wr)
  case first =>
    go_region_held3 (fun w' => (w'.cell? ⟨w.heap.size, 0, none⟩ = some (.int .i64 a1) ∧ w'.cell? ⟨w.heap.size, 1, none⟩ = some (.int .i64 a2)) ∧ (w'.cell? ⟨w.heap.size + 1, 0, none⟩ = some (.int .i64 b1) ∧ w'.cell? ⟨w.heap.size + 1, 1, none⟩ = some (.int .i64 b2))) (simp [go_sem])
      ((first | (go_at_call_of 38 (Value.int IntKind.i64 D1); refine (O1 _).mono ?_; rintro e w1 ⟨p0, p1, p2, p3, rfl, hp, os1, m1, rfl⟩) | (go_at_call_of 38 (Value.int IntKind.i64 D2); refine (O2 _).mono ?_; rintro e w1 ⟨q0, q1, q2, q3, rfl, hq, os2, m2, rfl⟩)))
    all_goals
      go_wp2
      go_meet
      case rel =>
        refine ⟨_, _, p0, p1, p2, p3, q0, q1, q2, q3, rfl, rfl, ?_, ?_, ?_, ?_, ?_, ?_, hp, hq, ?_, ?_, IsGr.below (w := w) (by with_reducible repeat (first | exact IsGr.refl _ | refine IsGr.gr ?_ _ _ | refine IsGr.alloc ?_ _ | refine IsGr.drew ?_ | refine IsGr.drewN ?_ _))⟩
        · first | omega | (simp [Gr.size]; done) | (simp [Gr.size]; omega)
        · first | omega | (simp [Gr.size]; done) | (simp [Gr.size]; omega)
        · first | omega | (simp [Gr.size]; done) | (simp [Gr.size]; omega)
        · first | omega | (simp [Gr.size]; done) | (simp [Gr.size]; omega)
        all_goals simp [go_sem]
  case rest =>
    obtain ⟨g, h, p0, p1, p2, p3, q0, q1, q2, q3, rfl, rfl, kg0, kh0, kg, kh, ⟨i0, i1, i2, i3⟩, ⟨j0, j1, j2, j3⟩, hp, hq, ⟨z0, z1, z2, z3⟩, ⟨f0, f1, f2, f3⟩, hbe⟩ := hcut
    obtain ⟨W1, hW1⟩ : ∃ W1, W1 = wc := ⟨_, rfl⟩
    subst hW1
    have HBe : Hid (Below w.heap.size w W1) := hbe
    have kr : w.heap.size + 1 + 1 < W1.heap.size := by omega
    have n1 : ¬ w.heap.size + 1 + 1 = g := by omega
    have n2 : ¬ w.heap.size + 1 + 1 = h := by omega
    clear kg0 kh0 hbe O1 O2 v1 v2
    go_upto_region 2 with fail
    go_region_held3 (fun w' => (w'.cell? ⟨g, 0, none⟩ = some (.int .u64 p0) ∧ w'.cell? ⟨g, 1, none⟩ = some (.int .u64 p1) ∧ w'.cell? ⟨g, 2, none⟩ = some (.int .u64 p2) ∧ w'.cell? ⟨g, 3, none⟩ = some (.int .u64 p3)) ∧ (w'.cell? ⟨h, 0, none⟩ = some (.int .u64 q0) ∧ w'.cell? ⟨h, 1, none⟩ = some (.int .u64 q1) ∧ w'.cell? ⟨h, 2, none⟩ = some (.int .u64 q2) ∧ w'.cell? ⟨h, 3, none⟩ = some (.int .u64 q3))) (simp [go_sem, i0, i1, i2, i3, j0, j1, j2, j3, kg, kh])
      ((first | (go_at_call_of 84 (Value.int IntKind.u64 p0); refine (M1 _ _ _ _ hp _).mono ?_; rintro e w1 ⟨x0, x1, x2, x3, rfl, hx, os1, m1, rfl⟩) | (go_at_call_of 84 (Value.int IntKind.u64 q0); refine (M2 _ _ _ _ hq _).mono ?_; rintro e w1 ⟨y0, y1, y2, y3, rfl, hy, os2, m2, rfl⟩) | (go_at_call 83; refine (S1 _ _ _ _ _ _ _ _ hx hy _).mono ?_; rintro e w1 ⟨s0, s1, s2, s3, rfl, hs, os3, m3, rfl⟩)))
    all_goals
      rw [HT.out] at hs
      go_wp2
      have hbe := HBe.out
      exact bodyPost_ret (v := .agg #[.int .u64 s0, .int .u64 s1, .int .u64 s2, .int .u64 s3]) (by simp [results, Try.results85, go_sem, kr, z0, z1, z2, z3]) rfl ⟨s0, s1, s2, s3, rfl, hs, IsGr.of_below (by repeat (first | exact Below.refl _ _ | exact (by assumption) | refine Below.drew ?_ | refine Below.gro ?_ (by first | omega | (simp; done) | (simp; omega) | (simp [Gr.size]; omega)) _ _ | refine Below.alloc ?_ (by first | omega | (simp; done) | (simp; omega) | (simp [Gr.size]; omega)) _ | refine Below.setCell ?_ (by first | omega | (simp; done) | (simp; omega) | (simp [Gr.size]; omega)) _))⟩
end Go.Proofs.Ytohhlhoijanjfaa
