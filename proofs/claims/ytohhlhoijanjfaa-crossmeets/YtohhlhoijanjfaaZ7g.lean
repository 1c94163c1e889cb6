/- How two segments meet, as gromaref04.Meet tells it: plain facts on points and spots; Meet in either order. -/
import Derived.Test.YtohhlhoijanjfaaGF
import Derived.Test.YtohhlhoijanjfaaY2g
import Derived.Test.YtohhlhoijanjfaaGU
namespace Go.Proofs.Ytohhlhoijanjfaa
open Go.RowKit Go.Shelf

/-- Does a point not stand behind another one? -/
def leP (a1 a2 b1 b2 : Int) : Prop := a1 < b1 ∨ a1 = b1 ∧ a2 ≤ b2
theorem leP.trans {a1 a2 b1 b2 c1 c2 : Int} (h : leP a1 a2 b1 b2) (h' : leP b1 b2 c1 c2) : leP a1 a2 c1 c2 := by
  unfold leP at *; omega
theorem leP.anti {a1 a2 b1 b2 : Int} (h : leP a1 a2 b1 b2) (h' : leP b1 b2 a1 a2) : a1 = b1 ∧ a2 = b2 := by
  unfold leP at *; omega
theorem leP.refl (a1 a2 : Int) : leP a1 a2 a1 a2 := by unfold leP; omega
theorem Ends2.le {a1 a2 b1 b2 l1 l2 h1 h2 : Int} (H : Ends2 a1 a2 b1 b2 l1 l2 h1 h2) : leP l1 l2 h1 h2 := by
  unfold leP
  rcases H with ⟨x, rfl, rfl, rfl, rfl⟩ | ⟨x, rfl, rfl, rfl, rfl⟩
  · rcases cmpP_cases h1 h2 l1 l2 with ⟨e, h⟩ | ⟨e, h⟩ | ⟨e, h⟩ <;> omega
  · rcases cmpP_cases l1 l2 h1 h2 with ⟨e, h⟩ | ⟨e, h⟩ | ⟨e, h⟩ <;> omega
theorem Later.le {l1 l2 m1 m2 p1 p2 : Int} (H : Later l1 l2 m1 m2 p1 p2) : leP l1 l2 p1 p2 ∧ leP m1 m2 p1 p2 ∧ ((p1 = l1 ∧ p2 = l2) ∨ (p1 = m1 ∧ p2 = m2)) := by
  unfold leP
  rcases H with ⟨x, rfl, rfl⟩ | ⟨x, rfl, rfl⟩
  · rcases cmpP_cases l1 l2 p1 p2 with ⟨e, h⟩ | ⟨e, h⟩ | ⟨e, h⟩ <;> omega
  · rcases cmpP_cases p1 p2 m1 m2 with ⟨e, h⟩ | ⟨e, h⟩ | ⟨e, h⟩ <;> omega
theorem Sooner.le {l1 l2 m1 m2 p1 p2 : Int} (H : Sooner l1 l2 m1 m2 p1 p2) : leP p1 p2 l1 l2 ∧ leP p1 p2 m1 m2 ∧ ((p1 = l1 ∧ p2 = l2) ∨ (p1 = m1 ∧ p2 = m2)) := by
  unfold leP
  rcases H with ⟨x, rfl, rfl⟩ | ⟨x, rfl, rfl⟩
  · rcases cmpP_cases l1 l2 p1 p2 with ⟨e, h⟩ | ⟨e, h⟩ | ⟨e, h⟩ <;> omega
  · rcases cmpP_cases p1 p2 m1 m2 with ⟨e, h⟩ | ⟨e, h⟩ | ⟨e, h⟩ <;> omega
theorem wayP_zero {a1 a2 b1 b2 c1 c2 : Int} (h : right3 a1 a2 b1 b2 c1 c2 = true) : wayP a1 a2 b1 b2 c1 c2 = 0 ↔ turnI a1 a2 b1 b2 c1 c2 = 0 := by
  unfold wayP
  rw [if_pos h]
  rcases cmpI_cases (turnI a1 a2 b1 b2 c1 c2) 0 with ⟨e, g⟩ | ⟨e, g⟩ | ⟨e, g⟩ <;> omega
theorem betw_iff {a1 a2 b1 b2 p1 p2 : Int} : betw a1 a2 b1 b2 p1 p2 = true ↔ (leP a1 a2 p1 p2 ∧ leP p1 p2 b1 b2) ∨ (leP b1 b2 p1 p2 ∧ leP p1 p2 a1 a2) := by
  unfold betw leP
  rcases cmpP_cases a1 a2 p1 p2 with ⟨e, h⟩ | ⟨e, h⟩ | ⟨e, h⟩ <;> rcases cmpP_cases p1 p2 b1 b2 with ⟨e', h'⟩ | ⟨e', h'⟩ | ⟨e', h'⟩ <;> rw [e, e'] <;> simp <;> omega
theorem on_iff {a1 a2 b1 b2 l1 l2 h1 h2 p1 p2 : Int} (H : Ends2 a1 a2 b1 b2 l1 l2 h1 h2) (r : segR a1 a2 b1 b2 = true) : onP a1 a2 b1 b2 p1 p2 = true ↔ rightP p1 p2 = true ∧ turnI l1 l2 h1 h2 p1 p2 = 0 ∧ leP l1 l2 p1 p2 ∧ leP p1 p2 h1 h2 := by
  have hle := H.le
  obtain ⟨ra, rb⟩ : rightP a1 a2 = true ∧ rightP b1 b2 = true := by simpa [segR] using r
  have e1 : (turnI a1 a2 b1 b2 p1 p2 = 0) ↔ turnI l1 l2 h1 h2 p1 p2 = 0 := by
    rcases H with ⟨_, rfl, rfl, rfl, rfl⟩ | ⟨_, rfl, rfl, rfl, rfl⟩
    · have : turnI l1 l2 h1 h2 p1 p2 = - turnI h1 h2 l1 l2 p1 p2 := by unfold turnI; grind
      omega
    · exact Iff.rfl
  have e2 : ((leP a1 a2 p1 p2 ∧ leP p1 p2 b1 b2) ∨ (leP b1 b2 p1 p2 ∧ leP p1 p2 a1 a2)) ↔ leP l1 l2 p1 p2 ∧ leP p1 p2 h1 h2 := by
    rcases H with ⟨_, rfl, rfl, rfl, rfl⟩ | ⟨_, rfl, rfl, rfl, rfl⟩ <;> unfold leP at * <;> omega
  cases hr : rightP p1 p2 with
  | false => simp [onP, right3, hr]
  | true =>
    have h3 : right3 a1 a2 b1 b2 p1 p2 = true := by simp [right3, ra, rb, hr]
    have hw := wayP_zero h3
    unfold onP
    rw [h3, Bool.true_and, Bool.and_eq_true, decide_eq_true_eq, hw, betw_iff, e1, e2]
    simp
theorem mul_zero_or {x y : Int} (h : x * y = 0) (hx : x ≠ 0) : y = 0 := by
  rcases Int.mul_eq_zero.1 h with h | h
  · exact absurd h hx
  · exact h
/-- What is parallel to one vector is parallel. -/
theorem par {u1 u2 w1 w2 v1 v2 : Int} (hu : ¬ (u1 = 0 ∧ u2 = 0)) (h1 : u1 * w2 - u2 * w1 = 0) (h2 : u1 * v2 - u2 * v1 = 0) : w1 * v2 - w2 * v1 = 0 := by
  have e1 : u1 * (w1 * v2 - w2 * v1) = 0 := by grind
  have e2 : u2 * (w1 * v2 - w2 * v1) = 0 := by grind
  by_cases h : u1 = 0
  · exact mul_zero_or e2 (fun x => hu ⟨h, x⟩)
  · exact mul_zero_or e1 h
theorem sq_pos {x : Int} (h : x ≠ 0) : 0 < x * x := by
  rcases Int.lt_or_gt_of_ne h with g | g
  · have := Int.mul_pos_of_neg_of_neg g g; exact this
  · exact Int.mul_pos g g
theorem sq_nonneg (x : Int) : 0 ≤ x * x := by
  by_cases h : x = 0
  · subst h; simp
  · exact Int.le_of_lt (sq_pos h)
/-- On one coordinate: t u = s v, and what is seen of both sides. -/
theorem parted_at {u v D X Y : Int} (hu : 0 < u) (hX : u * X = -v * D) (hY : u * Y = (u - v) * D) : ((0 ≤ v ∧ v ≤ u) → X * Y ≤ 0) ∧ (D ≠ 0 → X * Y ≤ 0 → 0 ≤ v ∧ v ≤ u) := by
  have e : (u * u) * (X * Y) = -((v * (u - v)) * (D * D)) := by grind
  have huu := Int.mul_pos hu hu
  constructor
  · rintro ⟨h1, h2⟩
    have k1 : 0 ≤ v * (u - v) := Int.mul_nonneg h1 (by omega)
    have k2 : 0 ≤ (v * (u - v)) * (D * D) := Int.mul_nonneg k1 (sq_nonneg D)
    rcases (by omega : 0 < X * Y ∨ X * Y ≤ 0) with h | h
    · have := Int.mul_pos huu h
      omega
    · exact h
  · intro hD h
    have k3 : 0 ≤ (u * u) * -(X * Y) := Int.mul_nonneg (by omega) (by omega)
    have k4 : 0 ≤ (v * (u - v)) * (D * D) := by
      have : (u * u) * -(X * Y) = -((u * u) * (X * Y)) := by grind
      omega
    have hdd := sq_pos hD
    have k5 : 0 ≤ v * (u - v) := by
      rcases (by omega : v * (u - v) < 0 ∨ 0 ≤ v * (u - v)) with h | h
      · have := Int.mul_neg_of_neg_of_pos h hdd
        omega
      · exact h
    rcases (by omega : v < 0 ∨ 0 ≤ v) with h | h
    · have := Int.mul_neg_of_neg_of_pos h (show 0 < u - v by omega)
      omega
    · refine ⟨h, ?_⟩
      rcases (by omega : u < v ∨ v ≤ u) with g | g
      · have := Int.mul_neg_of_pos_of_neg (show 0 < v by omega) (show u - v < 0 by omega)
        omega
      · exact g
/-- Of a point e on the line through l and h, which are not the same, l ahead: it stands between them just if another way parts them there. -/
theorem parted_on {l1 l2 h1 h2 e1 e2 w1 w2 : Int} (hl : leP l1 l2 h1 h2) (hne : ¬ (l1 = h1 ∧ l2 = h2)) (he : turnI l1 l2 h1 h2 e1 e2 = 0) :
    ((leP l1 l2 e1 e2 ∧ leP e1 e2 h1 h2) → (w1 * (l2 - e2) - w2 * (l1 - e1)) * (w1 * (h2 - e2) - w2 * (h1 - e1)) ≤ 0) ∧
    (w1 * (h2 - l2) - w2 * (h1 - l1) ≠ 0 → (w1 * (l2 - e2) - w2 * (l1 - e1)) * (w1 * (h2 - e2) - w2 * (h1 - e1)) ≤ 0 → leP l1 l2 e1 e2 ∧ leP e1 e2 h1 h2) := by
  unfold turnI at he
  by_cases hu : h1 = l1
  · have hu2 : 0 < h2 - l2 := by unfold leP at hl; omega
    have hv : e1 = l1 := by
      have : (h2 - l2) * (e1 - l1) = 0 := by grind
      have := mul_zero_or this (by omega)
      omega
    obtain ⟨k1, k2⟩ := parted_at (u := h2 - l2) (v := e2 - l2) (D := w1 * (h2 - l2) - w2 * (h1 - l1)) (X := w1 * (l2 - e2) - w2 * (l1 - e1)) (Y := w1 * (h2 - e2) - w2 * (h1 - e1)) hu2 (by grind) (by grind)
    constructor
    · rintro ⟨x1, x2⟩
      unfold leP at x1 x2
      exact k1 (by omega)
    · intro hD hX
      have := k2 hD hX
      unfold leP
      omega
  · have hu2 : 0 < h1 - l1 := by unfold leP at hl; omega
    obtain ⟨k1, k2⟩ := parted_at (u := h1 - l1) (v := e1 - l1) (D := w1 * (h2 - l2) - w2 * (h1 - l1)) (X := w1 * (l2 - e2) - w2 * (l1 - e1)) (Y := w1 * (h2 - e2) - w2 * (h1 - e1)) hu2 (by grind) (by grind)
    constructor
    · rintro ⟨x1, x2⟩
      unfold leP at x1 x2
      exact k1 (by omega)
    · intro hD hX
      have := k2 hD hX
      have q1 : e1 = l1 → e2 = l2 := fun h => by
        have : (h1 - l1) * (e2 - l2) = 0 := by rw [h] at he; grind
        have := mul_zero_or this (by omega)
        omega
      have q2 : e1 = h1 → e2 = h2 := fun h => by
        have : (h1 - l1) * (e2 - h2) = 0 := by rw [h] at he; grind
        have := mul_zero_or this (by omega)
        omega
      unfold leP
      constructor
      · by_cases h : e1 = l1
        · have := q1 h; omega
        · omega
      · by_cases h : e1 = h1
        · have := q2 h; omega
        · omega
section
variable {a1 a2 b1 b2 c1 c2 d1 d2 l1 l2 h1 h2 m1 m2 k1 k2 p1 p2 q1 q2 e1 e2 : Int}
theorem both_iff (H : Ends2 a1 a2 b1 b2 l1 l2 h1 h2) (H' : Ends2 c1 c2 d1 d2 m1 m2 k1 k2) (r1 : segR a1 a2 b1 b2 = true) (r2 : segR c1 c2 d1 d2 = true) :
    bothP a1 a2 b1 b2 c1 c2 d1 d2 e1 e2 = true ↔ rightP e1 e2 = true ∧ (turnI l1 l2 h1 h2 e1 e2 = 0 ∧ leP l1 l2 e1 e2 ∧ leP e1 e2 h1 h2) ∧ (turnI m1 m2 k1 k2 e1 e2 = 0 ∧ leP m1 m2 e1 e2 ∧ leP e1 e2 k1 k2) := by
  unfold bothP
  rw [Bool.and_eq_true, on_iff H r1, on_iff H' r2]
  constructor
  · rintro ⟨⟨x, y⟩, _, z⟩; exact ⟨x, y, z⟩
  · rintro ⟨x, y, z⟩; exact ⟨⟨x, y⟩, x, z⟩
theorem Ends2.ne (H : Ends2 a1 a2 b1 b2 l1 l2 h1 h2) (hne : ¬ (a1 = b1 ∧ a2 = b2)) : ¬ (l1 = h1 ∧ l2 = h2) := by
  rcases H with ⟨_, rfl, rfl, rfl, rfl⟩ | ⟨_, rfl, rfl, rfl, rfl⟩
  · exact fun x => hne ⟨x.1.symm, x.2.symm⟩
  · exact hne
/-- Of lines beside each other that share a point: what is on one is on the other. -/
theorem line_shift (hl : ¬ (l1 = h1 ∧ l2 = h2)) (hs : slopeS l1 l2 h1 h2 m1 m2 k1 k2 = 0) (t1 : turnI l1 l2 h1 h2 e1 e2 = 0) (t2 : turnI m1 m2 k1 k2 e1 e2 = 0) (t3 : turnI l1 l2 h1 h2 p1 p2 = 0) : turnI m1 m2 k1 k2 p1 p2 = 0 := by
  unfold slopeS at hs
  unfold turnI at *
  have := par (u1 := h1 - l1) (u2 := h2 - l2) (w1 := k1 - m1) (w2 := k2 - m2) (v1 := p1 - e1) (v2 := p2 - e2) (by omega) (by grind) (by grind)
  grind
theorem along_low (H : Ends2 a1 a2 b1 b2 l1 l2 h1 h2) (H' : Ends2 c1 c2 d1 d2 m1 m2 k1 k2) (r1 : segR a1 a2 b1 b2 = true) (r2 : segR c1 c2 d1 d2 = true) (HL : Later l1 l2 m1 m2 p1 p2)
    (n1 : ¬ (a1 = b1 ∧ a2 = b2)) (n2 : ¬ (c1 = d1 ∧ c2 = d2)) (hs : slopeS l1 l2 h1 h2 m1 m2 k1 k2 = 0) (he : bothP a1 a2 b1 b2 c1 c2 d1 d2 e1 e2 = true) : bothP a1 a2 b1 b2 c1 c2 d1 d2 p1 p2 = true := by
  rw [both_iff H H' r1 r2] at *
  obtain ⟨_, ⟨t1, x1, x2⟩, t2, y1, y2⟩ := he
  obtain ⟨z1, z2, z3⟩ := HL.le
  have n1' := H.ne n1
  have n2' := H'.ne n2
  have hs' : slopeS m1 m2 k1 k2 l1 l2 h1 h2 = 0 := by unfold slopeS at *; grind
  have pe : leP p1 p2 e1 e2 := by
    rcases z3 with ⟨rfl, rfl⟩ | ⟨rfl, rfl⟩
    · exact x1
    · exact y1
  refine ⟨?_, ⟨?_, z1, pe.trans x2⟩, ?_, z2, pe.trans y2⟩
  · rcases z3 with ⟨rfl, rfl⟩ | ⟨rfl, rfl⟩
    · exact (H.right r1).1
    · exact (H'.right r2).1
  · rcases z3 with ⟨rfl, rfl⟩ | ⟨rfl, rfl⟩
    · unfold turnI; grind
    · exact line_shift n2' hs' t2 t1 (by unfold turnI; grind)
  · rcases z3 with ⟨rfl, rfl⟩ | ⟨rfl, rfl⟩
    · exact line_shift n1' hs t1 t2 (by unfold turnI; grind)
    · unfold turnI; grind
theorem along_high (H : Ends2 a1 a2 b1 b2 l1 l2 h1 h2) (H' : Ends2 c1 c2 d1 d2 m1 m2 k1 k2) (r1 : segR a1 a2 b1 b2 = true) (r2 : segR c1 c2 d1 d2 = true) (HS : Sooner h1 h2 k1 k2 q1 q2)
    (n1 : ¬ (a1 = b1 ∧ a2 = b2)) (n2 : ¬ (c1 = d1 ∧ c2 = d2)) (hs : slopeS l1 l2 h1 h2 m1 m2 k1 k2 = 0) (he : bothP a1 a2 b1 b2 c1 c2 d1 d2 e1 e2 = true) : bothP a1 a2 b1 b2 c1 c2 d1 d2 q1 q2 = true := by
  rw [both_iff H H' r1 r2] at *
  obtain ⟨_, ⟨t1, x1, x2⟩, t2, y1, y2⟩ := he
  obtain ⟨z1, z2, z3⟩ := HS.le
  have n1' := H.ne n1
  have n2' := H'.ne n2
  have hs' : slopeS m1 m2 k1 k2 l1 l2 h1 h2 = 0 := by unfold slopeS at *; grind
  have eq : leP e1 e2 q1 q2 := by
    rcases z3 with ⟨rfl, rfl⟩ | ⟨rfl, rfl⟩
    · exact x2
    · exact y2
  refine ⟨?_, ⟨?_, x1.trans eq, z1⟩, ?_, y1.trans eq, z2⟩
  · rcases z3 with ⟨rfl, rfl⟩ | ⟨rfl, rfl⟩
    · exact (H.right r1).2
    · exact (H'.right r2).2
  · rcases z3 with ⟨rfl, rfl⟩ | ⟨rfl, rfl⟩
    · unfold turnI; grind
    · exact line_shift n2' hs' t2 t1 (by unfold turnI; grind)
  · rcases z3 with ⟨rfl, rfl⟩ | ⟨rfl, rfl⟩
    · exact line_shift n1' hs t1 t2 (by unfold turnI; grind)
    · unfold turnI; grind
theorem along_one (H : Ends2 a1 a2 b1 b2 l1 l2 h1 h2) (H' : Ends2 c1 c2 d1 d2 m1 m2 k1 k2) (r1 : segR a1 a2 b1 b2 = true) (r2 : segR c1 c2 d1 d2 = true) (HL : Later l1 l2 m1 m2 p1 p2) (HS : Sooner h1 h2 k1 k2 q1 q2)
    (he : bothP a1 a2 b1 b2 c1 c2 d1 d2 e1 e2 = true) (hpq : p1 = q1 ∧ p2 = q2) : e1 = p1 ∧ e2 = p2 := by
  rw [both_iff H H' r1 r2] at he
  obtain ⟨_, ⟨t1, x1, x2⟩, t2, y1, y2⟩ := he
  obtain ⟨z1, z2, z3⟩ := HL.le
  obtain ⟨s1, s2, s3⟩ := HS.le
  obtain ⟨rfl, rfl⟩ := hpq
  have pe : leP p1 p2 e1 e2 := by
    rcases z3 with ⟨rfl, rfl⟩ | ⟨rfl, rfl⟩
    · exact x1
    · exact y1
  have eq : leP e1 e2 p1 p2 := by
    rcases s3 with ⟨rfl, rfl⟩ | ⟨rfl, rfl⟩
    · exact x2
    · exact y2
  exact eq.anti pe
theorem not_facing (H : Ends2 a1 a2 b1 b2 l1 l2 h1 h2) (H' : Ends2 c1 c2 d1 d2 m1 m2 k1 k2) (r1 : segR a1 a2 b1 b2 = true) (r2 : segR c1 c2 d1 d2 = true) (hs : slopeS l1 l2 h1 h2 m1 m2 k1 k2 = 0) : facingP a1 a2 b1 b2 c1 c2 d1 d2 = false := by
  obtain ⟨ra, rb⟩ : rightP a1 a2 = true ∧ rightP b1 b2 = true := by simpa [segR] using r1
  obtain ⟨rc, rd⟩ : rightP c1 c2 = true ∧ rightP d1 d2 = true := by simpa [segR] using r2
  have e : turnI a1 a2 b1 b2 c1 c2 = turnI a1 a2 b1 b2 d1 d2 := by
    unfold slopeS at hs
    unfold turnI
    rcases H with ⟨_, rfl, rfl, rfl, rfl⟩ | ⟨_, rfl, rfl, rfl, rfl⟩ <;> rcases H' with ⟨_, rfl, rfl, rfl, rfl⟩ | ⟨_, rfl, rfl, rfl, rfl⟩ <;> grind
  have e' : wayP a1 a2 b1 b2 c1 c2 = wayP a1 a2 b1 b2 d1 d2 := by
    unfold wayP
    simp only [right3, ra, rb, rc, rd, e]
  have := sq_nonneg (wayP a1 a2 b1 b2 d1 d2)
  have hp : partP a1 a2 b1 b2 c1 c2 d1 d2 = false := by
    unfold partP
    rw [e', decide_eq_false_iff_not]
    omega
  unfold facingP
  rw [hp]
  rfl
theorem not_facing_single (h : a1 = b1 ∧ a2 = b2) : facingP a1 a2 b1 b2 c1 c2 d1 d2 = false ∧ facingP c1 c2 d1 d2 a1 a2 b1 b2 = false := by
  obtain ⟨rfl, rfl⟩ := h
  have e : ∀ x y, wayP a1 a2 a1 a2 x y = 0 := fun x y => by
    unfold wayP
    split
    · exact cmpI_eq (by unfold turnI; grind)
    · rfl
  have hp : partP a1 a2 a1 a2 c1 c2 d1 d2 = false := by
    unfold partP
    rw [e, e]; rfl
  unfold facingP
  rw [hp]
  simp
theorem cross_one (H : Ends2 a1 a2 b1 b2 l1 l2 h1 h2) (H' : Ends2 c1 c2 d1 d2 m1 m2 k1 k2) (r1 : segR a1 a2 b1 b2 = true) (r2 : segR c1 c2 d1 d2 = true) (hs : slopeS l1 l2 h1 h2 m1 m2 k1 k2 ≠ 0)
    (he : bothP a1 a2 b1 b2 c1 c2 d1 d2 e1 e2 = true) (hp : bothP a1 a2 b1 b2 c1 c2 d1 d2 p1 p2 = true) : e1 = p1 ∧ e2 = p2 := by
  rw [both_iff H H' r1 r2] at he hp
  obtain ⟨_, ⟨t1, _, _⟩, t2, _, _⟩ := he
  obtain ⟨_, ⟨t3, _, _⟩, t4, _, _⟩ := hp
  rcases Classical.em (e1 = p1 ∧ e2 = p2) with h | h
  · exact h
  · refine absurd ?_ hs
    unfold turnI at *
    have := par (u1 := p1 - e1) (u2 := p2 - e2) (w1 := h1 - l1) (w2 := h2 - l2) (v1 := k1 - m1) (v2 := k2 - m2) (by omega) (by grind) (by grind)
    unfold slopeS
    grind
theorem sign_mul_le (x y : Int) : cmpI x 0 * cmpI y 0 ≤ 0 ↔ x * y ≤ 0 := by
  rcases cmpI_cases x 0 with ⟨e, g⟩ | ⟨e, g⟩ | ⟨e, g⟩ <;> rcases cmpI_cases y 0 with ⟨e', g'⟩ | ⟨e', g'⟩ | ⟨e', g'⟩ <;> rw [e, e']
  · have := Int.mul_pos_of_neg_of_neg g g'; omega
  · subst g'; simp
  · have := Int.mul_neg_of_neg_of_pos g g'; omega
  · subst g; simp
  · subst g; simp
  · subst g; simp
  · have := Int.mul_neg_of_pos_of_neg g g'; omega
  · subst g'; simp
  · have := Int.mul_pos g g'; omega
theorem parts_iff (H : Ends2 a1 a2 b1 b2 l1 l2 h1 h2) (H' : Ends2 c1 c2 d1 d2 m1 m2 k1 k2) (r1 : segR a1 a2 b1 b2 = true) (r2 : segR c1 c2 d1 d2 = true) :
    partsP a1 a2 b1 b2 c1 c2 d1 d2 = true ↔ turnI l1 l2 h1 h2 m1 m2 * turnI l1 l2 h1 h2 k1 k2 ≤ 0 := by
  obtain ⟨ra, rb⟩ : rightP a1 a2 = true ∧ rightP b1 b2 = true := by simpa [segR] using r1
  obtain ⟨rc, rd⟩ : rightP c1 c2 = true ∧ rightP d1 d2 = true := by simpa [segR] using r2
  unfold partsP wayP
  simp only [right3, ra, rb, rc, rd, Bool.and_self, if_true]
  rw [decide_eq_true_eq, sign_mul_le]
  have : turnI a1 a2 b1 b2 c1 c2 * turnI a1 a2 b1 b2 d1 d2 = turnI l1 l2 h1 h2 m1 m2 * turnI l1 l2 h1 h2 k1 k2 := by
    unfold turnI
    rcases H with ⟨_, rfl, rfl, rfl, rfl⟩ | ⟨_, rfl, rfl, rfl, rfl⟩ <;> rcases H' with ⟨_, rfl, rfl, rfl, rfl⟩ | ⟨_, rfl, rfl, rfl, rfl⟩ <;> grind
  rw [this]
/-- What is on both parts both. -/
theorem both_parts (H : Ends2 a1 a2 b1 b2 l1 l2 h1 h2) (H' : Ends2 c1 c2 d1 d2 m1 m2 k1 k2) (r1 : segR a1 a2 b1 b2 = true) (r2 : segR c1 c2 d1 d2 = true) (n1 : ¬ (a1 = b1 ∧ a2 = b2)) (n2 : ¬ (c1 = d1 ∧ c2 = d2))
    (he : bothP a1 a2 b1 b2 c1 c2 d1 d2 e1 e2 = true) : (partsP a1 a2 b1 b2 c1 c2 d1 d2 && partsP c1 c2 d1 d2 a1 a2 b1 b2) = true := by
  rw [both_iff H H' r1 r2] at he
  obtain ⟨_, ⟨t1, x1, x2⟩, t2, y1, y2⟩ := he
  rw [Bool.and_eq_true, parts_iff H H' r1 r2, parts_iff H' H r2 r1]
  have g1 := (parted_on (w1 := h1 - l1) (w2 := h2 - l2) H'.le (H'.ne n2) t2).1 ⟨y1, y2⟩
  have g2 := (parted_on (w1 := k1 - m1) (w2 := k2 - m2) H.le (H.ne n1) t1).1 ⟨x1, x2⟩
  unfold turnI at *
  constructor
  · have e1' : (h1 - l1) * (m2 - l2) - (h2 - l2) * (m1 - l1) = (h1 - l1) * (m2 - e2) - (h2 - l2) * (m1 - e1) := by grind
    have e2' : (h1 - l1) * (k2 - l2) - (h2 - l2) * (k1 - l1) = (h1 - l1) * (k2 - e2) - (h2 - l2) * (k1 - e1) := by grind
    rw [e1', e2']; exact g1
  · have e1' : (k1 - m1) * (l2 - m2) - (k2 - m2) * (l1 - m1) = (k1 - m1) * (l2 - e2) - (k2 - m2) * (l1 - e1) := by grind
    have e2' : (k1 - m1) * (h2 - m2) - (k2 - m2) * (h1 - m1) = (k1 - m1) * (h2 - e2) - (k2 - m2) * (h1 - e1) := by grind
    rw [e1', e2']; exact g2
/-- If both part each other and don't face, an end is on both. -/
theorem end_on (H : Ends2 a1 a2 b1 b2 l1 l2 h1 h2) (H' : Ends2 c1 c2 d1 d2 m1 m2 k1 k2) (r1 : segR a1 a2 b1 b2 = true) (r2 : segR c1 c2 d1 d2 = true) (n1 : ¬ (a1 = b1 ∧ a2 = b2)) (hs : slopeS l1 l2 h1 h2 m1 m2 k1 k2 ≠ 0)
    (hp : partsP c1 c2 d1 d2 a1 a2 b1 b2 = true) (hw : turnI l1 l2 h1 h2 m1 m2 = 0 ∨ turnI l1 l2 h1 h2 k1 k2 = 0) :
    bothP a1 a2 b1 b2 c1 c2 d1 d2 m1 m2 = true ∨ bothP a1 a2 b1 b2 c1 c2 d1 d2 k1 k2 = true := by
  rw [parts_iff H' H r2 r1] at hp
  have hs' : (k1 - m1) * (h2 - l2) - (k2 - m2) * (h1 - l1) ≠ 0 := hs
  rcases hw with t | t
  · left
    rw [both_iff H H' r1 r2]
    have g := (parted_on (w1 := k1 - m1) (w2 := k2 - m2) H.le (H.ne n1) t).2 hs' (by unfold turnI at hp; exact hp)
    exact ⟨(H'.right r2).1, ⟨t, g⟩, by unfold turnI; grind, leP.refl _ _, H'.le⟩
  · right
    rw [both_iff H H' r1 r2]
    have g := (parted_on (w1 := k1 - m1) (w2 := k2 - m2) H.le (H.ne n1) t).2 hs' (by
      unfold turnI at hp
      have e1' : (k1 - m1) * (l2 - k2) - (k2 - m2) * (l1 - k1) = (k1 - m1) * (l2 - m2) - (k2 - m2) * (l1 - m1) := by grind
      have e2' : (k1 - m1) * (h2 - k2) - (k2 - m2) * (h1 - k1) = (k1 - m1) * (h2 - m2) - (k2 - m2) * (h1 - m1) := by grind
      rw [e1', e2']; exact hp)
    exact ⟨(H'.right r2).2, ⟨t, g⟩, by unfold turnI; grind, H'.le, leP.refl _ _⟩
theorem bothP_comm : bothP c1 c2 d1 d2 a1 a2 b1 b2 e1 e2 = bothP a1 a2 b1 b2 c1 c2 d1 d2 e1 e2 := by
  unfold bothP; rw [Bool.and_comm]
theorem way_mul_zero (r1 : segR a1 a2 b1 b2 = true) (r2 : segR c1 c2 d1 d2 = true) (h1' : partsP a1 a2 b1 b2 c1 c2 d1 d2 = true) (h2' : partP a1 a2 b1 b2 c1 c2 d1 d2 = false) : turnI a1 a2 b1 b2 c1 c2 = 0 ∨ turnI a1 a2 b1 b2 d1 d2 = 0 := by
  obtain ⟨ra, rb⟩ : rightP a1 a2 = true ∧ rightP b1 b2 = true := by simpa [segR] using r1
  obtain ⟨rc, rd⟩ : rightP c1 c2 = true ∧ rightP d1 d2 = true := by simpa [segR] using r2
  unfold partsP at h1'
  unfold partP at h2'
  rw [decide_eq_true_eq] at h1'
  rw [decide_eq_false_iff_not] at h2'
  have h0 : wayP a1 a2 b1 b2 c1 c2 * wayP a1 a2 b1 b2 d1 d2 = 0 := by omega
  rcases Int.mul_eq_zero.1 h0 with h | h
  · exact Or.inl ((wayP_zero (by simp [right3, ra, rb, rc])).1 h)
  · exact Or.inr ((wayP_zero (by simp [right3, ra, rb, rd])).1 h)
theorem Ends2.turn0 (H : Ends2 a1 a2 b1 b2 l1 l2 h1 h2) (h : turnI a1 a2 b1 b2 e1 e2 = 0) : turnI l1 l2 h1 h2 e1 e2 = 0 := by
  unfold turnI at *
  rcases H with ⟨_, rfl, rfl, rfl, rfl⟩ | ⟨_, rfl, rfl, rfl, rfl⟩ <;> grind
theorem Ends2.or (H : Ends2 c1 c2 d1 d2 m1 m2 k1 k2) {p : Int → Int → Bool} : (p m1 m2 = true ∨ p k1 k2 = true) ↔ (p c1 c2 = true ∨ p d1 d2 = true) := by
  rcases H with ⟨_, rfl, rfl, rfl, rfl⟩ | ⟨_, rfl, rfl, rfl, rfl⟩
  · exact Or.comm
  · exact Iff.rfl
theorem some_end (H : Ends2 a1 a2 b1 b2 l1 l2 h1 h2) (H' : Ends2 c1 c2 d1 d2 m1 m2 k1 k2) (r1 : segR a1 a2 b1 b2 = true) (r2 : segR c1 c2 d1 d2 = true) (n1 : ¬ (a1 = b1 ∧ a2 = b2)) (n2 : ¬ (c1 = d1 ∧ c2 = d2)) (hs : slopeS l1 l2 h1 h2 m1 m2 k1 k2 ≠ 0)
    (hp : (partsP a1 a2 b1 b2 c1 c2 d1 d2 && partsP c1 c2 d1 d2 a1 a2 b1 b2) = true) (hf : facingP a1 a2 b1 b2 c1 c2 d1 d2 = false) :
    ((bothP a1 a2 b1 b2 c1 c2 d1 d2 a1 a2 = true ∨ bothP a1 a2 b1 b2 c1 c2 d1 d2 b1 b2 = true) ∨ (bothP a1 a2 b1 b2 c1 c2 d1 d2 c1 c2 = true ∨ bothP a1 a2 b1 b2 c1 c2 d1 d2 d1 d2 = true)) := by
  rw [Bool.and_eq_true] at hp
  obtain ⟨hp1, hp2⟩ := hp
  unfold facingP at hf
  rw [Bool.and_eq_false_iff] at hf
  rcases hf with hf | hf
  · right
    rw [← H'.or (p := fun x y => bothP a1 a2 b1 b2 c1 c2 d1 d2 x y)]
    have hz := way_mul_zero r1 r2 hp1 hf
    refine end_on H H' r1 r2 n1 hs hp2 ?_
    have := H'.or (p := fun x y => decide (turnI l1 l2 h1 h2 x y = 0))
    simp only [decide_eq_true_eq] at this
    rw [this]
    exact hz.imp H.turn0 H.turn0
  · left
    rw [← H.or (p := fun x y => bothP a1 a2 b1 b2 c1 c2 d1 d2 x y)]
    have hz := way_mul_zero r2 r1 hp2 hf
    have hs' : slopeS m1 m2 k1 k2 l1 l2 h1 h2 ≠ 0 := by unfold slopeS at *; grind
    have := end_on H' H r2 r1 n2 hs' hp1 (by
      have := H.or (p := fun x y => decide (turnI m1 m2 k1 k2 x y = 0))
      simp only [decide_eq_true_eq] at this
      rw [this]
      exact hz.imp H'.turn0 H'.turn0)
    exact this.imp (fun x => by rw [bothP_comm] at x; exact x) (fun x => by rw [bothP_comm] at x; exact x)
theorem facing_parts (h : facingP a1 a2 b1 b2 c1 c2 d1 d2 = true) : (partsP a1 a2 b1 b2 c1 c2 d1 d2 && partsP c1 c2 d1 d2 a1 a2 b1 b2) = true := by
  simp only [facingP, partP, partsP, Bool.and_eq_true, decide_eq_true_eq] at *
  omega
end
theorem runK_none {p : Int → Int → Bool} : ∀ {L : List (Int × Int)} {s : Option (Int × Int)}, runK p L s = none → ∃ x y : Int × Int, x ≠ y ∧ ((x ∈ L ∧ p x.1 x.2 = true) ∨ s = some x) ∧ (y ∈ L ∧ p y.1 y.2 = true)
  | [], s, h => by simp [runK] at h
  | e :: l, s, h => by
    unfold runK at h
    split at h
    · rename_i hp
      cases s with
      | none =>
        obtain ⟨x, y, hn, hx, hy⟩ := runK_none h
        refine ⟨x, y, hn, Or.inl ?_, List.mem_cons_of_mem _ hy.1, hy.2⟩
        rcases hx with ⟨h1, h2⟩ | hx
        · exact ⟨List.mem_cons_of_mem _ h1, h2⟩
        · injection hx with hx
          subst hx
          exact ⟨List.mem_cons_self, hp⟩
      | some z =>
        simp only at h
        split at h
        · obtain ⟨x, y, hn, hx, hy⟩ := runK_none h
          exact ⟨x, y, hn, hx.imp (fun h => ⟨List.mem_cons_of_mem _ h.1, h.2⟩) id, List.mem_cons_of_mem _ hy.1, hy.2⟩
        · rename_i hne
          exact ⟨z, e, hne, Or.inr rfl, List.mem_cons_self, hp⟩
    · obtain ⟨x, y, hn, hx, hy⟩ := runK_none h
      exact ⟨x, y, hn, hx.imp (fun h => ⟨List.mem_cons_of_mem _ h.1, h.2⟩) id, List.mem_cons_of_mem _ hy.1, hy.2⟩
theorem runK_some {p : Int → Int → Bool} : ∀ {L : List (Int × Int)} {s t : Option (Int × Int)}, runK p L s = some t → (∀ x, t = some x → (s = some x ∨ x ∈ L ∧ p x.1 x.2 = true)) ∧ (∀ e ∈ L, p e.1 e.2 = true → t = some e) ∧ (∀ x, s = some x → t = some x)
  | [], s, t, h => by
    simp only [runK, Option.some.injEq] at h
    subst h
    exact ⟨fun x h => Or.inl h, fun e h => by simp at h, fun x h => h⟩
  | e :: l, s, t, h => by
    unfold runK at h
    split at h
    · rename_i hp
      cases s with
      | none =>
        obtain ⟨h1, h2, h3⟩ := runK_some h
        refine ⟨fun x hx => Or.inr ?_, fun y hy py => ?_, fun x hx => by cases hx⟩
        · rcases h1 x hx with g | g
          · injection g with g
            subst g
            exact ⟨List.mem_cons_self, hp⟩
          · exact ⟨List.mem_cons_of_mem _ g.1, g.2⟩
        · rcases List.mem_cons.1 hy with rfl | hy
          · exact h3 y rfl
          · exact h2 y hy py
      | some z =>
        simp only at h
        split at h
        · rename_i hze
          obtain ⟨h1, h2, h3⟩ := runK_some h
          refine ⟨fun x hx => (h1 x hx).imp id (fun g => ⟨List.mem_cons_of_mem _ g.1, g.2⟩), fun y hy py => ?_, h3⟩
          rcases List.mem_cons.1 hy with rfl | hy
          · subst hze; exact h3 _ rfl
          · exact h2 y hy py
        · cases h
    · rename_i hp
      obtain ⟨h1, h2, h3⟩ := runK_some h
      refine ⟨fun x hx => (h1 x hx).imp id (fun g => ⟨List.mem_cons_of_mem _ g.1, g.2⟩), fun y hy py => ?_, h3⟩
      rcases List.mem_cons.1 hy with rfl | hy
      · exact absurd py hp
      · exact h2 y hy py
section
variable {a1 a2 b1 b2 c1 c2 d1 d2 l1 l2 h1 h2 m1 m2 k1 k2 p1 p2 q1 q2 e1 e2 : Int}
theorem ends_mem : (a1, a2) ∈ ends4 a1 a2 b1 b2 c1 c2 d1 d2 ∧ (b1, b2) ∈ ends4 a1 a2 b1 b2 c1 c2 d1 d2 ∧ (c1, c2) ∈ ends4 a1 a2 b1 b2 c1 c2 d1 d2 ∧ (d1, d2) ∈ ends4 a1 a2 b1 b2 c1 c2 d1 d2 := by
  simp [ends4]
theorem refK_two (h1' : (p1, p2) ∈ ends4 a1 a2 b1 b2 c1 c2 d1 d2) (h2' : (q1, q2) ∈ ends4 a1 a2 b1 b2 c1 c2 d1 d2) (hp : bothP a1 a2 b1 b2 c1 c2 d1 d2 p1 p2 = true) (hq : bothP a1 a2 b1 b2 c1 c2 d1 d2 q1 q2 = true) (hn : ¬ (p1 = q1 ∧ p2 = q2)) : refK a1 a2 b1 b2 c1 c2 d1 d2 = 2 := by
  unfold refK
  cases h : runK (bothP a1 a2 b1 b2 c1 c2 d1 d2) (ends4 a1 a2 b1 b2 c1 c2 d1 d2) none with
  | none => rfl
  | some t =>
    obtain ⟨_, g2, _⟩ := runK_some h
    have x1 := g2 _ h1' hp
    have x2 := g2 _ h2' hq
    rw [x1] at x2
    simp only [Option.some.injEq, Prod.mk.injEq] at x2
    exact absurd x2 hn
theorem refK_one (hu : ∀ x1 x2 y1 y2, bothP a1 a2 b1 b2 c1 c2 d1 d2 x1 x2 = true → bothP a1 a2 b1 b2 c1 c2 d1 d2 y1 y2 = true → x1 = y1 ∧ x2 = y2)
    (he : (∃ x1 x2, (x1, x2) ∈ ends4 a1 a2 b1 b2 c1 c2 d1 d2 ∧ bothP a1 a2 b1 b2 c1 c2 d1 d2 x1 x2 = true) ∨ facingP a1 a2 b1 b2 c1 c2 d1 d2 = true) : refK a1 a2 b1 b2 c1 c2 d1 d2 = 1 := by
  unfold refK
  cases h : runK (bothP a1 a2 b1 b2 c1 c2 d1 d2) (ends4 a1 a2 b1 b2 c1 c2 d1 d2) none with
  | none =>
    obtain ⟨⟨x1, x2⟩, ⟨y1, y2⟩, hn, hx, hy⟩ := runK_none h
    rcases hx with hx | hx
    · obtain ⟨rfl, rfl⟩ := hu _ _ _ _ hx.2 hy.2
      exact absurd rfl hn
    · cases hx
  | some t =>
    cases t with
    | some x => rfl
    | none =>
      obtain ⟨_, g2, _⟩ := runK_some h
      rcases he with ⟨x1, x2, hm, hp⟩ | hf
      · have := g2 _ hm hp
        cases this
      · simp [foundK, hf]
theorem refK_zero (hu : ∀ x1 x2, bothP a1 a2 b1 b2 c1 c2 d1 d2 x1 x2 = false) (hf : facingP a1 a2 b1 b2 c1 c2 d1 d2 = false) : refK a1 a2 b1 b2 c1 c2 d1 d2 = 0 := by
  unfold refK
  cases h : runK (bothP a1 a2 b1 b2 c1 c2 d1 d2) (ends4 a1 a2 b1 b2 c1 c2 d1 d2) none with
  | none =>
    obtain ⟨⟨x1, x2⟩, ⟨y1, y2⟩, hn, hx, hy⟩ := runK_none h
    have hy' := hy.2
    rw [hu] at hy'
    cases hy'
  | some t =>
    cases t with
    | some x =>
      obtain ⟨g1, _, _⟩ := runK_some h
      rcases g1 x rfl with g | g
      · cases g
      · have g' := g.2
        rw [hu] at g'
        cases g'
    | none => simp [foundK, hf]
theorem on_single (hr : segR a1 a2 b1 b2 = true) (h : a1 = b1 ∧ a2 = b2) : onP a1 a2 b1 b2 e1 e2 = true ↔ e1 = a1 ∧ e2 = a2 := by
  obtain ⟨rfl, rfl⟩ := h
  have H : Ends2 a1 a2 a1 a2 a1 a2 a1 a2 := by
    right
    refine ⟨?_, rfl, rfl, rfl, rfl⟩
    rcases cmpP_cases a1 a2 a1 a2 with ⟨e, h⟩ | ⟨e, h⟩ | ⟨e, h⟩ <;> omega
  rw [on_iff H hr]
  constructor
  · rintro ⟨_, _, x, y⟩
    exact y.anti x
  · rintro ⟨rfl, rfl⟩
    exact ⟨(H.right hr).1, by unfold turnI; grind, leP.refl _ _, leP.refl _ _⟩
theorem Ends2.mem1 (H : Ends2 a1 a2 b1 b2 l1 l2 h1 h2) : (l1, l2) ∈ ends4 a1 a2 b1 b2 c1 c2 d1 d2 ∧ (h1, h2) ∈ ends4 a1 a2 b1 b2 c1 c2 d1 d2 := by
  rcases H with ⟨_, rfl, rfl, rfl, rfl⟩ | ⟨_, rfl, rfl, rfl, rfl⟩ <;> simp [ends4]
theorem Ends2.mem2 (H : Ends2 c1 c2 d1 d2 m1 m2 k1 k2) : (m1, m2) ∈ ends4 a1 a2 b1 b2 c1 c2 d1 d2 ∧ (k1, k2) ∈ ends4 a1 a2 b1 b2 c1 c2 d1 d2 := by
  rcases H with ⟨_, rfl, rfl, rfl, rfl⟩ | ⟨_, rfl, rfl, rfl, rfl⟩ <;> simp [ends4]
theorem meet_refK {W R K : Int} {V : Value} (H : Ends2 a1 a2 b1 b2 l1 l2 h1 h2) (H' : Ends2 c1 c2 d1 d2 m1 m2 k1 k2) (HL : Later l1 l2 m1 m2 p1 p2) (HS : Sooner h1 h2 k1 k2 q1 q2)
    (r1 : segR a1 a2 b1 b2 = true) (r2 : segR c1 c2 d1 d2 = true) (h : MeetT a1 a2 b1 b2 c1 c2 d1 d2 l1 l2 h1 h2 m1 m2 k1 k2 p1 p2 q1 q2 W R K V) : K = refK a1 a2 b1 b2 c1 c2 d1 d2 := by
  obtain ⟨ra, rb⟩ : rightP a1 a2 = true ∧ rightP b1 b2 = true := by simpa [segR] using r1
  obtain ⟨rc, rd⟩ : rightP c1 c2 = true ∧ rightP d1 d2 = true := by simpa [segR] using r2
  have pl : (p1, p2) ∈ ends4 a1 a2 b1 b2 c1 c2 d1 d2 := by
    rcases HL.le.2.2 with ⟨rfl, rfl⟩ | ⟨rfl, rfl⟩
    · exact H.mem1.1
    · exact H'.mem2.1
  have ql : (q1, q2) ∈ ends4 a1 a2 b1 b2 c1 c2 d1 d2 := by
    rcases HS.le.2.2 with ⟨rfl, rfl⟩ | ⟨rfl, rfl⟩
    · exact H.mem1.2
    · exact H'.mem2.2
  rcases h with ⟨e, h⟩ | ⟨e, e', h⟩ | ⟨e, e', g, h⟩ | ⟨e, e', g, hp, hK, _⟩ | ⟨e, e', g, hp, hK, _⟩
  · have hb : ∀ x1 x2, bothP a1 a2 b1 b2 c1 c2 d1 d2 x1 x2 = true → (x1 = a1 ∧ x2 = a2) := fun x1 x2 hx => by
      unfold bothP at hx
      rw [Bool.and_eq_true] at hx
      exact (on_single r1 e).1 hx.1
    rcases h with ⟨ho, hK, _⟩ | ⟨ho, hK, _⟩
    · refine hK.trans (Eq.symm (refK_zero (fun x1 x2 => ?_) (not_facing_single e).1))
      cases hx : bothP a1 a2 b1 b2 c1 c2 d1 d2 x1 x2 with
      | false => rfl
      | true =>
        obtain ⟨rfl, rfl⟩ := hb _ _ hx
        unfold bothP at hx
        rw [ho, Bool.and_false] at hx
        exact hx.symm
    · refine hK.trans (Eq.symm (refK_one (fun x1 x2 y1 y2 hx hy => ?_) (Or.inl ⟨a1, a2, ends_mem.1, ?_⟩)))
      · have := hb _ _ hx
        have := hb _ _ hy
        omega
      · unfold bothP
        rw [ho, (on_single r1 e).2 ⟨rfl, rfl⟩]
        rfl
  · have hb : ∀ x1 x2, bothP a1 a2 b1 b2 c1 c2 d1 d2 x1 x2 = true → (x1 = c1 ∧ x2 = c2) := fun x1 x2 hx => by
      unfold bothP at hx
      rw [Bool.and_eq_true] at hx
      exact (on_single r2 e').1 hx.2
    rcases h with ⟨ho, hK, _⟩ | ⟨ho, hK, _⟩
    · refine hK.trans (Eq.symm (refK_zero (fun x1 x2 => ?_) (not_facing_single e').2))
      cases hx : bothP a1 a2 b1 b2 c1 c2 d1 d2 x1 x2 with
      | false => rfl
      | true =>
        obtain ⟨rfl, rfl⟩ := hb _ _ hx
        unfold bothP at hx
        rw [ho, Bool.false_and] at hx
        exact hx.symm
    · refine hK.trans (Eq.symm (refK_one (fun x1 x2 y1 y2 hx hy => ?_) (Or.inl ⟨c1, c2, ends_mem.2.2.1, ?_⟩)))
      · have := hb _ _ hx
        have := hb _ _ hy
        omega
      · unfold bothP
        rw [ho, (on_single r2 e').2 ⟨rfl, rfl⟩]
        rfl
  · rcases h with ⟨ho, hK, _⟩ | ⟨ho, hpq, hK, _⟩ | ⟨ho, hpq, hK, _⟩
    · refine hK.trans (Eq.symm (refK_zero (fun x1 x2 => ?_) (not_facing H H' r1 r2 g)))
      cases hx : bothP a1 a2 b1 b2 c1 c2 d1 d2 x1 x2 with
      | false => rfl
      | true =>
        have := along_low H H' r1 r2 HL e e' g hx
        unfold bothP at this
        rw [ho] at this
        exact this.symm
    · refine hK.trans (Eq.symm (refK_one (fun x1 x2 y1 y2 hx hy => ?_) (Or.inl ⟨p1, p2, pl, ho⟩)))
      have := along_one H H' r1 r2 HL HS hx hpq
      have := along_one H H' r1 r2 HL HS hy hpq
      omega
    · refine hK.trans (Eq.symm (refK_two pl ql ho (along_high H H' r1 r2 HS e e' g ho) hpq))
  · refine hK.trans (Eq.symm (refK_one (fun x1 x2 y1 y2 hx hy => cross_one H H' r1 r2 g hx hy) ?_))
    cases hf : facingP a1 a2 b1 b2 c1 c2 d1 d2 with
    | true => exact Or.inr rfl
    | false =>
      left
      rcases some_end H H' r1 r2 e e' g hp hf with (h | h) | (h | h)
      · exact ⟨_, _, ends_mem.1, h⟩
      · exact ⟨_, _, ends_mem.2.1, h⟩
      · exact ⟨_, _, ends_mem.2.2.1, h⟩
      · exact ⟨_, _, ends_mem.2.2.2, h⟩
  · refine hK.trans (Eq.symm (refK_zero (fun x1 x2 => ?_) ?_))
    · cases hx : bothP a1 a2 b1 b2 c1 c2 d1 d2 x1 x2 with
      | false => rfl
      | true =>
        have := both_parts H H' r1 r2 e e' hx
        rw [hp] at this
        exact this.symm
    · cases hf : facingP a1 a2 b1 b2 c1 c2 d1 d2 with
      | false => rfl
      | true =>
        have := facing_parts hf
        rw [hp] at this
        exact this.symm
end
section
variable {a1 a2 b1 b2 c1 c2 d1 d2 l1 l2 h1 h2 m1 m2 k1 k2 p1 p2 q1 q2 e1 e2 x y z : Int}
theorem spotD_le {x y z u v t : Int} (h : x * t < u * z ∨ x * t = u * z ∧ y * t ≤ v * z) : spotD x y z u v t ≤ 0 := by
  unfold spotD
  rcases h with h | ⟨h, h'⟩
  · rw [cmpI_lt h, if_neg (by decide)]; decide
  · rw [cmpI_eq h, if_pos rfl]
    rcases cmpI_cases (y * t) (v * z) with ⟨e, g⟩ | ⟨e, g⟩ | ⟨e, g⟩ <;> omega
theorem Ends2.holds (H : Ends2 a1 a2 b1 b2 l1 l2 h1 h2) (hs : sideS l1 l2 h1 h2 x y z = 0) (g1 : spotD l1 l2 1 x y z ≤ 0) (g2 : spotD x y z h1 h2 1 ≤ 0) : holdsR a1 a2 b1 b2 x y z = true := by
  unfold holdsR aheadP
  rcases H with ⟨c, rfl, rfl, rfl, rfl⟩ | ⟨c, rfl, rfl, rfl, rfl⟩
  · have e : sideS h1 h2 l1 l2 x y z = 0 := by unfold sideS at *; grind
    have d : l1 < h1 ∨ l1 = h1 ∧ l2 < h2 := by rcases cmpP_cases h1 h2 l1 l2 with ⟨e, h⟩ | ⟨e, h⟩ | ⟨e, h⟩ <;> omega
    simp [e, d, g1, g2]
  · have d : ¬ (h1 < l1 ∨ h1 = l1 ∧ h2 < l2) := by rcases cmpP_cases l1 l2 h1 h2 with ⟨e, h⟩ | ⟨e, h⟩ | ⟨e, h⟩ <;> omega
    simp [hs, d, g1, g2]
theorem on_holds (H : Ends2 a1 a2 b1 b2 l1 l2 h1 h2) (r : segR a1 a2 b1 b2 = true) (h : onP a1 a2 b1 b2 e1 e2 = true) : holdsR a1 a2 b1 b2 e1 e2 1 = true ∧ spotR e1 e2 1 = true := by
  rw [on_iff H r] at h
  obtain ⟨hr, t, x1, x2⟩ := h
  refine ⟨H.holds (by unfold sideS turnI at *; grind) (spotD_le (by unfold leP at *; omega)) (spotD_le (by unfold leP at *; omega)), ?_⟩
  have := rightP_t hr
  simp [spotR, withinI]
  omega
/-- From l on, R / W of the way to h: between them. -/
theorem part_holds {W R X Y : Int} (H : Ends2 a1 a2 b1 b2 l1 l2 h1 h2) (hX : X = l1 * W + (h1 - l1) * R) (hY : Y = l2 * W + (h2 - l2) * R) (h0 : 0 ≤ R) (hR : R ≤ W) : holdsR a1 a2 b1 b2 X Y W = true := by
  have hl := H.le
  have i1 : X - l1 * W = (h1 - l1) * R := by grind
  have i2 : Y - l2 * W = (h2 - l2) * R := by grind
  have i3 : h1 * W - X = (h1 - l1) * (W - R) := by grind
  have i4 : h2 * W - Y = (h2 - l2) * (W - R) := by grind
  have key : ∀ t : Int, 0 ≤ t → 0 < (h1 - l1) * t ∨ (h1 - l1) * t = 0 ∧ 0 ≤ (h2 - l2) * t := fun t ht => by
    rcases (by omega : t = 0 ∨ 0 < t) with rfl | ht'
    · simp
    · rcases (by unfold leP at hl; omega : 0 < h1 - l1 ∨ (h1 - l1 = 0 ∧ 0 ≤ h2 - l2)) with h | ⟨h, h'⟩
      · exact Or.inl (Int.mul_pos h ht')
      · rw [h]; exact Or.inr ⟨by simp, Int.mul_nonneg h' ht⟩
  refine H.holds (by unfold sideS; rw [i1, i2]; grind) (spotD_le ?_) (spotD_le ?_)
  · have := key R h0
    omega
  · have := key (W - R) (by omega)
    omega
theorem mul_rw {R W : Int} (hW : 0 < W) (h : R * (R - W) ≤ 0) : 0 ≤ R ∧ R ≤ W := by
  rcases (by omega : R < 0 ∨ 0 ≤ R) with g | g
  · have := Int.mul_pos_of_neg_of_neg g (show R - W < 0 by omega); omega
  · refine ⟨g, ?_⟩
    rcases (by omega : W < R ∨ R ≤ W) with g' | g'
    · have := Int.mul_pos (show 0 < R by omega) (show 0 < R - W by omega); omega
    · exact g'
theorem Signed.swap {W R W' R' : Int} (hs : slopeS l1 l2 h1 h2 m1 m2 k1 k2 ≠ 0) (HW : Signed (wholeI l1 l2 h1 h2 m1 m2 k1 k2) (restI l1 l2 m1 m2 k1 k2) W R) (HW' : Signed (wholeI m1 m2 k1 k2 l1 l2 h1 h2) (restI m1 m2 l1 l2 h1 h2) W' R') :
    0 < W ∧ W' = W ∧ l1 * W + (h1 - l1) * R = m1 * W' + (k1 - m1) * R' ∧ l2 * W + (h2 - l2) * R = m2 * W' + (k2 - m2) * R' := by
  have e1 : wholeI l1 l2 h1 h2 m1 m2 k1 k2 = - slopeS l1 l2 h1 h2 m1 m2 k1 k2 := by unfold wholeI slopeS; grind
  have e2 : wholeI m1 m2 k1 k2 l1 l2 h1 h2 = slopeS l1 l2 h1 h2 m1 m2 k1 k2 := by unfold wholeI slopeS; grind
  rw [e1] at HW
  rw [e2] at HW'
  unfold restI at HW HW'
  rcases HW with ⟨x, rfl, rfl⟩ | ⟨x, rfl, rfl⟩ <;> rcases HW' with ⟨y, rfl, rfl⟩ | ⟨y, rfl, rfl⟩
  · omega
  · refine ⟨by omega, by omega, ?_, ?_⟩ <;> unfold slopeS <;> grind
  · refine ⟨by omega, by omega, ?_, ?_⟩ <;> unfold slopeS <;> grind
  · omega
theorem Signed.part {W R : Int} (H : Ends2 a1 a2 b1 b2 l1 l2 h1 h2) (H' : Ends2 c1 c2 d1 d2 m1 m2 k1 k2) (r1 : segR a1 a2 b1 b2 = true) (r2 : segR c1 c2 d1 d2 = true) (hW : 0 < W) (HW : Signed (wholeI l1 l2 h1 h2 m1 m2 k1 k2) (restI l1 l2 m1 m2 k1 k2) W R)
    (hp : partsP c1 c2 d1 d2 a1 a2 b1 b2 = true) : 0 ≤ R ∧ R ≤ W := by
  rw [parts_iff H' H r2 r1] at hp
  refine mul_rw hW ?_
  have : R * (R - W) = turnI m1 m2 k1 k2 l1 l2 * turnI m1 m2 k1 k2 h1 h2 := by
    unfold turnI
    unfold wholeI restI at HW
    rcases HW with ⟨x, rfl, rfl⟩ | ⟨x, rfl, rfl⟩ <;> grind
  rw [this]
  exact hp
theorem cross_spot {W R : Int} (rl : rightP l1 l2 = true) (rh : rightP h1 h2 = true) (rm : rightP m1 m2 = true) (rk : rightP k1 k2 = true) (hW : 0 < W) (h0 : 0 ≤ R) (hR : R ≤ W)
    (HS : Signed (wholeI l1 l2 h1 h2 m1 m2 k1 k2) (restI l1 l2 m1 m2 k1 k2) W R) : spotR (l1 * W + (h1 - l1) * R) (l2 * W + (h2 - l2) * R) W = true := by
  obtain ⟨b1', b2'⟩ := diff_right rl rh
  obtain ⟨b3', b4'⟩ := diff_right rm rk
  have t1 := mul_le_of b1' b4'
  have t2 := mul_le_of b2' b3'
  unfold wholeI at HS
  have bW : W ≤ 38685626227668133590597632 := by rcases HS with ⟨_, e, _⟩ | ⟨_, e, _⟩ <;> omega
  have al := rightP_t rl
  have ah := rightP_t rh
  have key : ∀ x y : Int, -2199023255552 ≤ x ∧ x ≤ 2199023255552 → -2199023255552 ≤ y ∧ y ≤ 2199023255552 → -(2199023255552 * W) ≤ x * W + (y - x) * R ∧ x * W + (y - x) * R ≤ 2199023255552 * W := fun x y hx hy => by
    have s1 : 0 ≤ (2199023255552 - x) * (W - R) := Int.mul_nonneg (by omega) (by omega)
    have s2 : 0 ≤ (2199023255552 + x) * (W - R) := Int.mul_nonneg (by omega) (by omega)
    have s3 : 0 ≤ (2199023255552 - y) * R := Int.mul_nonneg (by omega) (by omega)
    have s4 : 0 ≤ (2199023255552 + y) * R := Int.mul_nonneg (by omega) (by omega)
    have u1 : (2199023255552 - x) * (W - R) + (2199023255552 - y) * R = 2199023255552 * W - (x * W + (y - x) * R) := by grind
    have u2 : (2199023255552 + x) * (W - R) + (2199023255552 + y) * R = 2199023255552 * W + (x * W + (y - x) * R) := by grind
    omega
  have k1' := key l1 h1 (by omega) (by omega)
  have k2' := key l2 h2 (by omega) (by omega)
  simp only [spotR, withinI, Bool.and_eq_true, decide_eq_true_eq]
  exact ⟨⟨by omega, k1'⟩, k2'⟩
theorem Later.sw (H : Later l1 l2 m1 m2 p1 p2) : Later m1 m2 l1 l2 p1 p2 := by
  unfold Later at *
  rw [cmpP_sw]
  rcases cmpP_cases l1 l2 m1 m2 with ⟨e, h⟩ | ⟨e, h⟩ | ⟨e, h⟩ <;> rw [e] at H ⊢ <;> omega
theorem Sooner.sw (H : Sooner l1 l2 m1 m2 p1 p2) : Sooner m1 m2 l1 l2 p1 p2 := by
  unfold Sooner at *
  rw [cmpP_sw]
  rcases cmpP_cases l1 l2 m1 m2 with ⟨e, h⟩ | ⟨e, h⟩ | ⟨e, h⟩ <;> rw [e] at H ⊢ <;> omega
theorem on_singles (r1 : segR a1 a2 a1 a2 = true) (r2 : segR c1 c2 c1 c2 = true) : onP c1 c2 c1 c2 a1 a2 = onP a1 a2 a1 a2 c1 c2 := by
  rw [Bool.eq_iff_iff, on_single r2 ⟨rfl, rfl⟩, on_single r1 ⟨rfl, rfl⟩]
  omega
/-- Told in the other order they meet in the same. -/
theorem MeetT.turned {W R W' R' K : Int} {V : Value} (r1 : segR a1 a2 b1 b2 = true) (r2 : segR c1 c2 d1 d2 = true) (HW : Signed (wholeI l1 l2 h1 h2 m1 m2 k1 k2) (restI l1 l2 m1 m2 k1 k2) W R) (HW' : Signed (wholeI m1 m2 k1 k2 l1 l2 h1 h2) (restI m1 m2 l1 l2 h1 h2) W' R')
    (h : MeetT a1 a2 b1 b2 c1 c2 d1 d2 l1 l2 h1 h2 m1 m2 k1 k2 p1 p2 q1 q2 W R K V) : MeetT c1 c2 d1 d2 a1 a2 b1 b2 m1 m2 k1 k2 l1 l2 h1 h2 p1 p2 q1 q2 W' R' K V := by
  have hs' : slopeS m1 m2 k1 k2 l1 l2 h1 h2 = - slopeS l1 l2 h1 h2 m1 m2 k1 k2 := by unfold slopeS; grind
  rcases h with ⟨e, h⟩ | ⟨e, e', h⟩ | ⟨e, e', g, h⟩ | ⟨e, e', g, hp, hK, hV⟩ | ⟨e, e', g, hp, hK, hV⟩
  · by_cases e' : c1 = d1 ∧ c2 = d2
    · refine Or.inl ⟨e', ?_⟩
      obtain ⟨rfl, rfl⟩ := e
      obtain ⟨rfl, rfl⟩ := e'
      rw [← on_singles r1 r2]
      rcases h with h | ⟨ho, hK, hV⟩
      · exact Or.inl h
      · obtain ⟨rfl, rfl⟩ := (on_single r2 ⟨rfl, rfl⟩).1 ho
        exact Or.inr ⟨ho, hK, hV⟩
    · exact Or.inr (Or.inl ⟨e', e, h⟩)
  · exact Or.inl ⟨e', h⟩
  · refine Or.inr (Or.inr (Or.inl ⟨e', e, by omega, ?_⟩))
    unfold AlongT at *
    rw [Bool.and_comm]
    exact h
  · obtain ⟨_, rfl, x1, x2⟩ := Signed.swap g HW HW'
    refine Or.inr (Or.inr (Or.inr (Or.inl ⟨e', e, by omega, by rw [Bool.and_comm]; exact hp, hK, ?_⟩)))
    rw [← x1, ← x2]
    exact hV
  · exact Or.inr (Or.inr (Or.inr (Or.inr ⟨e', e, by omega, by rw [Bool.and_comm]; exact hp, hK, hV⟩)))
end
/-- Two segments, told in either order: how they meet, and in what. -/
theorem meet_two (a1 a2 b1 b2 c1 c2 d1 d2 : Int) : ∃ K x y z : Int, (Fit x ∧ Fit y ∧ Fit z) ∧ (K = if (segR a1 a2 b1 b2 && segR c1 c2 d1 d2) = true then refK a1 a2 b1 b2 c1 c2 d1 d2 else 0) ∧ (K = 0 ∨ K = 1 ∨ K = 2) ∧
    (K ≠ 1 → x = 0 ∧ y = 0 ∧ z = 0) ∧ (K = 1 → spotR x y z = true ∧ holdsR a1 a2 b1 b2 x y z = true ∧ holdsR c1 c2 d1 d2 x y z = true) ∧
    (∀ w, Calls Try.prog 19 #[.agg #[.int .i64 a1, .int .i64 a2, .int .i64 b1, .int .i64 b2], .agg #[.int .i64 c1, .int .i64 c2, .int .i64 d1, .int .i64 d2]] w fun e w' => e = .returned (.tuple #[.int .i64 K, .agg #[.int .u64 (wd0 x), .int .u64 (wd1 x), .int .u64 (wd2 x), .int .u64 (wd3 x), .int .u64 (wd0 y), .int .u64 (wd1 y), .int .u64 (wd2 y), .int .u64 (wd3 y), .int .u64 (wd0 z), .int .u64 (wd1 z), .int .u64 (wd2 z), .int .u64 (wd3 z)]]) ∧ IsGr w w') ∧
    (∀ w, Calls Try.prog 19 #[.agg #[.int .i64 c1, .int .i64 c2, .int .i64 d1, .int .i64 d2], .agg #[.int .i64 a1, .int .i64 a2, .int .i64 b1, .int .i64 b2]] w fun e w' => e = .returned (.tuple #[.int .i64 K, .agg #[.int .u64 (wd0 x), .int .u64 (wd1 x), .int .u64 (wd2 x), .int .u64 (wd3 x), .int .u64 (wd0 y), .int .u64 (wd1 y), .int .u64 (wd2 y), .int .u64 (wd3 y), .int .u64 (wd0 z), .int .u64 (wd1 z), .int .u64 (wd2 z), .int .u64 (wd3 z)]]) ∧ IsGr w w') := by
  have f0 : Fit 0 ∧ Fit 0 ∧ Fit 0 := by unfold Fit; omega
  cases h : (segR a1 a2 b1 b2 && segR c1 c2 d1 d2) with
  | false =>
    refine ⟨0, 0, 0, 0, f0, by simp, Or.inl rfl, fun _ => ⟨rfl, rfl, rfl⟩, fun h => by omega, fun w => ?_, fun w => ?_⟩ <;> rw [← z12_eq]
    · exact Meet_no a1 a2 b1 b2 c1 c2 d1 d2 h w
    · exact Meet_no c1 c2 d1 d2 a1 a2 b1 b2 (by rw [Bool.and_comm]; exact h) w
  | true =>
    rw [Bool.and_eq_true] at h
    obtain ⟨r1, r2⟩ := h
    obtain ⟨l1, l2, h1, h2, H⟩ := ends_ex a1 a2 b1 b2
    obtain ⟨m1, m2, k1, k2, H'⟩ := ends_ex c1 c2 d1 d2
    obtain ⟨p1, p2, HL⟩ := later_ex l1 l2 m1 m2
    obtain ⟨q1, q2, HS⟩ := sooner_ex h1 h2 k1 k2
    obtain ⟨W, R, HW⟩ := signed_ex (wholeI l1 l2 h1 h2 m1 m2 k1 k2) (restI l1 l2 m1 m2 k1 k2)
    obtain ⟨W', R', HW'⟩ := signed_ex (wholeI m1 m2 k1 k2 l1 l2 h1 h2) (restI m1 m2 l1 l2 h1 h2)
    obtain ⟨K, x, y, z, hf, hK, HT⟩ := meetT_ex (p1 := p1) (p2 := p2) (q1 := q1) (q2 := q2) H H' HW r1 r2
    have HT' := HT.turned r1 r2 HW HW'
    have C1 := fun w => Meet_any _ _ _ _ _ _ _ _ _ _ _ _ _ _ _ _ _ _ _ _ W R K _ H H' HL HS HW r1 r2 HT w
    have C2 := fun w => Meet_any _ _ _ _ _ _ _ _ _ _ _ _ _ _ _ _ _ _ _ _ W' R' K _ H' H HL.sw HS.sw HW' r2 r1 HT' w
    have hr : K = if true = true then refK a1 a2 b1 b2 c1 c2 d1 d2 else 0 := by rw [if_pos rfl]; exact meet_refK H H' HL HS r1 r2 HT
    have hz : K ≠ 1 → (.agg #[.int .u64 (wd0 x), .int .u64 (wd1 x), .int .u64 (wd2 x), .int .u64 (wd3 x), .int .u64 (wd0 y), .int .u64 (wd1 y), .int .u64 (wd2 y), .int .u64 (wd3 y), .int .u64 (wd0 z), .int .u64 (wd1 z), .int .u64 (wd2 z), .int .u64 (wd3 z)] : Value) = .agg #[.int .u64 (wd0 0), .int .u64 (wd1 0), .int .u64 (wd2 0), .int .u64 (wd3 0), .int .u64 (wd0 0), .int .u64 (wd1 0), .int .u64 (wd2 0), .int .u64 (wd3 0), .int .u64 (wd0 0), .int .u64 (wd1 0), .int .u64 (wd2 0), .int .u64 (wd3 0)] := fun hn => by
      rw [← z12_eq]
      rcases HT with ⟨e, h⟩ | ⟨e, e', h⟩ | ⟨e, e', g, h⟩ | ⟨e, e', g, hp, hK, hV⟩ | ⟨e, e', g, hp, hK, hV⟩
      · rcases h with ⟨_, _, hV⟩ | ⟨_, h, _⟩
        · exact hV
        · exact absurd h hn
      · rcases h with ⟨_, _, hV⟩ | ⟨_, h, _⟩
        · exact hV
        · exact absurd h hn
      · rcases h with ⟨_, _, hV⟩ | ⟨_, _, h, _⟩ | ⟨_, _, _, hV⟩
        · exact hV
        · exact absurd h hn
        · exact hV
      · exact absurd hK hn
      · exact hV
    have ho : K = 1 → ∃ x' y' z', (.agg #[.int .u64 (wd0 x), .int .u64 (wd1 x), .int .u64 (wd2 x), .int .u64 (wd3 x), .int .u64 (wd0 y), .int .u64 (wd1 y), .int .u64 (wd2 y), .int .u64 (wd3 y), .int .u64 (wd0 z), .int .u64 (wd1 z), .int .u64 (wd2 z), .int .u64 (wd3 z)] : Value) = .agg #[.int .u64 (wd0 (x')), .int .u64 (wd1 (x')), .int .u64 (wd2 (x')), .int .u64 (wd3 (x')), .int .u64 (wd0 (y')), .int .u64 (wd1 (y')), .int .u64 (wd2 (y')), .int .u64 (wd3 (y')), .int .u64 (wd0 (z')), .int .u64 (wd1 (z')), .int .u64 (wd2 (z')), .int .u64 (wd3 (z'))] ∧ spotR x' y' z' = true ∧ holdsR a1 a2 b1 b2 x' y' z' = true ∧ holdsR c1 c2 d1 d2 x' y' z' = true := fun h1' => by
      rcases HT with ⟨e, h⟩ | ⟨e, e', h⟩ | ⟨e, e', g, h⟩ | ⟨e, e', g, hp, hK, hV⟩ | ⟨e, e', g, hp, hK, hV⟩
      · rcases h with ⟨_, h, _⟩ | ⟨h, _, hV⟩
        · omega
        · exact ⟨_, _, _, hV, (on_holds H' r2 h).2, (on_holds H r1 ((on_single r1 e).2 ⟨rfl, rfl⟩)).1, (on_holds H' r2 h).1⟩
      · rcases h with ⟨_, h, _⟩ | ⟨h, _, hV⟩
        · omega
        · exact ⟨_, _, _, hV, (on_holds H r1 h).2, (on_holds H r1 h).1, (on_holds H' r2 ((on_single r2 e').2 ⟨rfl, rfl⟩)).1⟩
      · rcases h with ⟨_, h, _⟩ | ⟨h, _, _, hV⟩ | ⟨_, _, h, _⟩
        · omega
        · rw [Bool.and_eq_true] at h
          exact ⟨_, _, _, hV, (on_holds H r1 h.1).2, (on_holds H r1 h.1).1, (on_holds H' r2 h.2).1⟩
        · omega
      · rw [Bool.and_eq_true] at hp
        obtain ⟨w0, w1, w2, w3⟩ := Signed.swap g HW HW'
        obtain ⟨s1, s2⟩ := Signed.part H H' r1 r2 w0 HW hp.2
        obtain ⟨s3, s4⟩ := Signed.part H' H r2 r1 (by rw [w1]; exact w0) HW' hp.1
        refine ⟨_, _, _, hV, cross_spot (H.right r1).1 (H.right r1).2 (H'.right r2).1 (H'.right r2).2 w0 s1 s2 HW, part_holds H rfl rfl s1 s2, ?_⟩
        rw [w1] at s4
        exact part_holds H' (by rw [w2, w1]) (by rw [w3, w1]) s3 s4
      · omega
    by_cases h1' : K = 1
    · obtain ⟨x', y', z', hV, g1, g2, g3⟩ := ho h1'
      rw [hV] at C1 C2
      exact ⟨K, x', y', z', spot_fit g1, hr, hK, fun h => absurd h1' h, fun _ => ⟨g1, g2, g3⟩, C1, C2⟩
    · rw [hz h1'] at C1 C2
      exact ⟨K, 0, 0, 0, f0, hr, hK, fun _ => ⟨rfl, rfl, rfl⟩, fun h => absurd h h1', C1, C2⟩
end Go.Proofs.Ytohhlhoijanjfaa
