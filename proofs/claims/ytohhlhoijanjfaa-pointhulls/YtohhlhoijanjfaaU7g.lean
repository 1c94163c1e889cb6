/- Contracts of package point over the loaded program: Circle. -/
import Derived.Test.YtohhlhoijanjfaaU6
import Derived.Test.YtohhlhoijanjfaaGA
namespace Go.Proofs.Ytohhlhoijanjfaa
open Go.RowKit Go.Shelf
attribute [local go_sem] Gr.size Gr.cell? Gr.frozen? Gr.setCell Gr.drew Gr.drewN Gr.of_drew Gr.of_drewN Gr.gr Gr.lt_of1 Gr.le_of1 Gr.lt_of2 Gr.le_of2 Gr.lt_of3 Gr.le_of3 Gr.lt_of4 Gr.le_of4 Gr.lt_of5 Gr.le_of5 Gr.lt_of6 Gr.le_of6 Gr.lt_of7 Gr.le_of7 Gr.lt_of8 Gr.le_of8 Gr.lt_of9 Gr.le_of9 Gr.lt_of10 Gr.le_of10 Gr.lt_of11 Gr.le_of11 Gr.lt_of12 Gr.le_of12 Gr.lt_of13 Gr.le_of13 Gr.lt_of14 Gr.le_of14 Gr.lt_of15 Gr.le_of15 Gr.lt_of16 Gr.le_of16 Gr.lt_of17 Gr.le_of17 Gr.lt_of18 Gr.le_of18 Gr.lt_of19 Gr.le_of19 Gr.lt_of20 Gr.le_of20 Gr.lt_of21 Gr.le_of21 Gr.lt_of22 Gr.le_of22 Gr.lt_of23 Gr.le_of23 Gr.lt_of24 Gr.le_of24

theorem idx3_0 (a1 a2 b1 b2 c1 c2 : Int) (w : World) : (Instr.index 111 (.agg #[.int .i64 a1, .int .i64 a2, .int .i64 b1, .int .i64 b2, .int .i64 c1, .int .i64 c2]) (.int .i64 0)).run Try.prog w = .ok (.agg #[.int .i64 a1, .int .i64 a2]) w := by
  simp [Instr.index, run_underlying Try.underlying111, asIntOf, go_sem]
theorem idx3_1 (a1 a2 b1 b2 c1 c2 : Int) (w : World) : (Instr.index 111 (.agg #[.int .i64 a1, .int .i64 a2, .int .i64 b1, .int .i64 b2, .int .i64 c1, .int .i64 c2]) (.int .i64 1)).run Try.prog w = .ok (.agg #[.int .i64 b1, .int .i64 b2]) w := by
  simp [Instr.index, run_underlying Try.underlying111, asIntOf, go_sem]
theorem idx3_2 (a1 a2 b1 b2 c1 c2 : Int) (w : World) : (Instr.index 111 (.agg #[.int .i64 a1, .int .i64 a2, .int .i64 b1, .int .i64 b2, .int .i64 c1, .int .i64 c2]) (.int .i64 2)).run Try.prog w = .ok (.agg #[.int .i64 c1, .int .i64 c2]) w := by
  simp [Instr.index, run_underlying Try.underlying111, asIntOf, go_sem]

/-- What is lifted of one corner, seen from p. -/
def liftP (p1 p2 a1 a2 b1 b2 c1 c2 : Int) : Int := squareI p1 p2 a1 a2 * turnI p1 p2 b1 b2 c1 c2
/-- The sum over the corners. -/
def circleI (a1 a2 b1 b2 c1 c2 p1 p2 : Int) : Int := liftP p1 p2 a1 a2 b1 b2 c1 c2 + liftP p1 p2 b1 b2 c1 c2 a1 a2 + liftP p1 p2 c1 c2 a1 a2 b1 b2
/-- Are four points right? -/
def right4 (a1 a2 b1 b2 c1 c2 p1 p2 : Int) : Bool := rightP a1 a2 && rightP b1 b2 && rightP c1 c2 && rightP p1 p2
/-- Where one lies to a circle. -/
def circleP (a1 a2 b1 b2 c1 c2 p1 p2 : Int) : Int := if right4 a1 a2 b1 b2 c1 c2 p1 p2 = true then cmpI (circleI a1 a2 b1 b2 c1 c2 p1 p2) 0 * wayP a1 a2 b1 b2 c1 c2 else 0
theorem allR_four (a1 a2 b1 b2 c1 c2 p1 p2 : Int) : allR [(a1, a2), (b1, b2), (c1, c2), (p1, p2)] = right4 a1 a2 b1 b2 c1 c2 p1 p2 := by simp [allR, right4, Bool.and_assoc]
theorem right4_t {a1 a2 b1 b2 c1 c2 p1 p2 : Int} (h : right4 a1 a2 b1 b2 c1 c2 p1 p2 = true) : rightP a1 a2 = true ∧ rightP b1 b2 = true ∧ rightP c1 c2 = true ∧ rightP p1 p2 = true := by
  simp only [right4, Bool.and_eq_true] at h; exact ⟨h.1.1.1, h.1.1.2, h.1.2, h.2⟩
theorem turn_bound {a1 a2 b1 b2 c1 c2 : Int} (ha : rightP a1 a2 = true) (hb : rightP b1 b2 = true) (hc : rightP c1 c2 = true) : -38685626227668133590597632 ≤ turnI a1 a2 b1 b2 c1 c2 ∧ turnI a1 a2 b1 b2 c1 c2 ≤ 38685626227668133590597632 := by
  have ra := rightP_t ha; have rb := rightP_t hb; have rc := rightP_t hc
  have p1 := mul_le_of (x := b1 - a1) (y := c2 - a2) (A := 4398046511104) (B := 4398046511104) (by omega) (by omega)
  have p2 := mul_le_of (x := b2 - a2) (y := c1 - a1) (A := 4398046511104) (B := 4398046511104) (by omega) (by omega)
  unfold turnI
  omega
theorem square_bound {a1 a2 b1 b2 : Int} (ha : rightP a1 a2 = true) (hb : rightP b1 b2 = true) : -38685626227668133590597632 ≤ squareI a1 a2 b1 b2 ∧ squareI a1 a2 b1 b2 ≤ 38685626227668133590597632 := by
  have ra := rightP_t ha; have rb := rightP_t hb
  have p1 := mul_le_of (x := b1 - a1) (y := b1 - a1) (A := 4398046511104) (B := 4398046511104) (by omega) (by omega)
  have p2 := mul_le_of (x := b2 - a2) (y := b2 - a2) (A := 4398046511104) (B := 4398046511104) (by omega) (by omega)
  unfold squareI
  omega
theorem lift_bound {p1 p2 a1 a2 b1 b2 c1 c2 : Int} (hp : rightP p1 p2 = true) (ha : rightP a1 a2 = true) (hb : rightP b1 b2 = true) (hc : rightP c1 c2 = true) :
    -1496577676626844588240573268701473812127674924007424 ≤ liftP p1 p2 a1 a2 b1 b2 c1 c2 ∧ liftP p1 p2 a1 a2 b1 b2 c1 c2 ≤ 1496577676626844588240573268701473812127674924007424 := by
  have h := mul_le_of (square_bound hp ha) (turn_bound hp hb hc)
  unfold liftP
  omega

theorem cmpI_range (x y : Int) : cmpI x y = -1 ∨ cmpI x y = 0 ∨ cmpI x y = 1 := by
  unfold cmpI; repeat' split
  all_goals simp
theorem wayP_range (a1 a2 b1 b2 c1 c2 : Int) : wayP a1 a2 b1 b2 c1 c2 = -1 ∨ wayP a1 a2 b1 b2 c1 c2 = 0 ∨ wayP a1 a2 b1 b2 c1 c2 = 1 := by
  unfold wayP; split
  · exact cmpI_range _ _
  · simp

/-- What is summed up behind k corners. -/
def circleK (k : Nat) (a1 a2 b1 b2 c1 c2 p1 p2 : Int) : Int :=
  (if 0 < k then liftP p1 p2 a1 a2 b1 b2 c1 c2 else 0) + (if 1 < k then liftP p1 p2 b1 b2 c1 c2 a1 a2 else 0) + (if 2 < k then liftP p1 p2 c1 c2 a1 a2 b1 b2 else 0)
end Go.Proofs.Ytohhlhoijanjfaa
