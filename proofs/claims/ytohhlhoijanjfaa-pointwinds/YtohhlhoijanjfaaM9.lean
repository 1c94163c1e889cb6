/- Plain facts on ways that go around a point: by the quarters, and by the ray to the right. -/
namespace Go.Proofs.Ytohhlhoijanjfaa

theorem sg_mul (x y : Int) : (0 < x → 0 < y → 0 < x * y) ∧ (x < 0 → y < 0 → 0 < x * y) ∧ (0 < x → y < 0 → x * y < 0) ∧ (x < 0 → 0 < y → x * y < 0) ∧ (x = 0 → x * y = 0) ∧ (y = 0 → x * y = 0) := by
  refine ⟨Int.mul_pos, Int.mul_pos_of_neg_of_neg, Int.mul_neg_of_pos_of_neg, Int.mul_neg_of_neg_of_pos, fun h => by rw [h]; simp, fun h => by rw [h]; simp⟩
/-- The quarter of (A, B) around the origin. -/
def q0 (A B : Int) : Int := if 0 < A ∧ 0 ≤ B then 0 else if A ≤ 0 ∧ 0 < B then 1 else if A < 0 ∧ B ≤ 0 then 2 else 3
/-- The same, but a place on the ray to the right counts as the end of the last quarter. -/
def q1 (A B : Int) : Int := if 0 < A ∧ B = 0 then 4 else q0 A B
/-- How a segment passes the ray to the right. -/
def ps (B D T : Int) : Int := if B ≤ 0 ∧ 0 < D ∧ 0 < T then 1 else if D ≤ 0 ∧ 0 < B ∧ T < 0 then -1 else 0
/-- How many quarters a segment goes around. -/
def st (d T : Int) : Int := if d = 3 then -1 else if d = -3 then 1 else if d = 2 ∨ d = -2 then 2 * T else d
def lexlt (A B : Int) : Prop := A < 0 ∨ A = 0 ∧ B < 0
def lexgt (A B : Int) : Prop := 0 < A ∨ A = 0 ∧ 0 < B
theorem q0_cases (A B : Int) : (0 < A ∧ 0 ≤ B ∧ q0 A B = 0) ∨ (A ≤ 0 ∧ 0 < B ∧ q0 A B = 1) ∨ (A < 0 ∧ B ≤ 0 ∧ q0 A B = 2) ∨ (0 ≤ A ∧ B ≤ 0 ∧ (B < 0 ∨ A = 0) ∧ q0 A B = 3) := by
  unfold q0
  repeat' split
  all_goals omega
theorem q1_cases (A B : Int) : (0 < A ∧ B = 0 ∧ q1 A B = 4) ∨ (¬ (0 < A ∧ B = 0) ∧ q1 A B = q0 A B) := by
  unfold q1
  split
  · rename_i h; exact Or.inl ⟨h.1, h.2, rfl⟩
  · rename_i h; exact Or.inr ⟨h, rfl⟩
theorem ps_cases (B D T : Int) : (B ≤ 0 ∧ 0 < D ∧ 0 < T ∧ ps B D T = 1) ∨ (D ≤ 0 ∧ 0 < B ∧ T < 0 ∧ ps B D T = -1) ∨ (¬ (B ≤ 0 ∧ 0 < D ∧ 0 < T) ∧ ¬ (D ≤ 0 ∧ 0 < B ∧ T < 0) ∧ ps B D T = 0) := by
  unfold ps
  repeat' split
  all_goals omega
theorem st_cases (d T : Int) : (d = 3 ∧ st d T = -1) ∨ (d = -3 ∧ st d T = 1) ∨ ((d = 2 ∨ d = -2) ∧ st d T = 2 * T) ∨ (d ≠ 3 ∧ d ≠ -3 ∧ d ≠ 2 ∧ d ≠ -2 ∧ st d T = d) := by
  unfold st
  repeat' split
  all_goals omega
set_option maxHeartbeats 4000000 in
theorem step_pass (A B C D T : Int) (hT : (T = 1 ∧ 0 < A * D - B * C) ∨ (T = 0 ∧ A * D - B * C = 0) ∨ (T = -1 ∧ A * D - B * C < 0))
    (hn : T = 0 → (lexlt A B ∧ lexlt C D) ∨ (lexgt A B ∧ lexgt C D)) : st (q0 C D - q0 A B) T = 4 * ps B D T + (q1 C D - q1 A B) := by
  have h1 := sg_mul A D
  have h2 := sg_mul B C
  generalize A * D = X at *
  generalize B * C = Y at *
  unfold lexlt lexgt at hn
  have c1 := q0_cases A B
  have c2 := q0_cases C D
  have c3 := q1_cases A B
  have c4 := q1_cases C D
  have c5 := ps_cases B D T
  have c6 := st_cases (q0 C D - q0 A B) T
  generalize st (q0 C D - q0 A B) T = S at *
  generalize q1 A B = q1a at *
  generalize q1 C D = q1c at *
  generalize q0 A B = q0a at *
  generalize q0 C D = q0c at *
  generalize ps B D T = P at *
  rcases hT with ⟨rfl, hT⟩ | ⟨rfl, hT⟩ | ⟨rfl, hT⟩ <;> (try simp only [true_implies] at hn) <;> rcases c1 with c1 | c1 | c1 | c1 <;> rcases c2 with c2 | c2 | c2 | c2 <;> rcases c3 with c3 | c3 <;> rcases c4 with c4 | c4 <;> rcases c5 with c5 | c5 | c5 <;> rcases c6 with c6 | c6 | c6 | c6 <;> omega
end Go.Proofs.Ytohhlhoijanjfaa
