/- How Meet answers for segments told from either end; and for a segment with itself. How Meet answers for two segments, each told from either end; and for a segment with itself. Plain facts on spots: held against one another the other way about; as points. Plain facts on spots and points, for CrossSpots. -/
import Derived.Test.YtohhlhoijanjfaaGD
import Derived.Test.YtohhlhoijanjfaaU7wg
import Derived.Test.YtohhlhoijanjfaaGB
namespace Go.Proofs.Ytohhlhoijanjfaa
open Go.RowKit Go.Shelf

theorem z12_eq : (.agg #[.int .u64 0, .int .u64 0, .int .u64 0, .int .u64 0, .int .u64 0, .int .u64 0, .int .u64 0, .int .u64 0, .int .u64 0, .int .u64 0, .int .u64 0, .int .u64 0] : Value) = .agg #[.int .u64 (wd0 0), .int .u64 (wd1 0), .int .u64 (wd2 0), .int .u64 (wd3 0), .int .u64 (wd0 0), .int .u64 (wd1 0), .int .u64 (wd2 0), .int .u64 (wd3 0), .int .u64 (wd0 0), .int .u64 (wd1 0), .int .u64 (wd2 0), .int .u64 (wd3 0)] := by
  simp only [wd_zero.1, wd_zero.2.1, wd_zero.2.2.1, wd_zero.2.2.2]
theorem right3_sw (a1 a2 b1 b2 c1 c2 : Int) : right3 b1 b2 a1 a2 c1 c2 = right3 a1 a2 b1 b2 c1 c2 := by
  unfold right3
  rw [Bool.and_comm (rightP b1 b2)]
theorem wayP_sw (a1 a2 b1 b2 c1 c2 : Int) : wayP b1 b2 a1 a2 c1 c2 = -wayP a1 a2 b1 b2 c1 c2 := by
  unfold wayP
  rw [right3_sw]
  split
  · exact cmpI_neg (by unfold turnI; grind)
  · rfl
theorem cmpP_sw (a1 a2 b1 b2 : Int) : cmpP b1 b2 a1 a2 = -cmpP a1 a2 b1 b2 := by
  rcases cmpP_cases a1 a2 b1 b2 with ⟨e, h⟩ | ⟨e, h⟩ | ⟨e, h⟩ <;> rcases cmpP_cases b1 b2 a1 a2 with ⟨e', h'⟩ | ⟨e', h'⟩ | ⟨e', h'⟩ <;> omega
theorem onP_sw (a1 a2 b1 b2 p1 p2 : Int) : onP b1 b2 a1 a2 p1 p2 = onP a1 a2 b1 b2 p1 p2 := by
  unfold onP
  rw [right3_sw, wayP_sw]
  unfold betw
  rw [cmpP_sw p1 p2 b1 b2, cmpP_sw a1 a2 p1 p2, Int.neg_mul_neg, Int.mul_comm (cmpP p1 p2 b1 b2)]
  have : decide (-wayP a1 a2 b1 b2 p1 p2 = 0) = decide (wayP a1 a2 b1 b2 p1 p2 = 0) := by
    rw [Bool.eq_iff_iff]; simp
  rw [this]
theorem partsP_sw (a1 a2 b1 b2 c1 c2 d1 d2 : Int) : partsP b1 b2 a1 a2 c1 c2 d1 d2 = partsP a1 a2 b1 b2 c1 c2 d1 d2 := by
  unfold partsP
  rw [wayP_sw a1 a2 b1 b2 c1 c2, wayP_sw a1 a2 b1 b2 d1 d2, Int.neg_mul_neg]
theorem partsP_sw2 (a1 a2 b1 b2 c1 c2 d1 d2 : Int) : partsP a1 a2 b1 b2 d1 d2 c1 c2 = partsP a1 a2 b1 b2 c1 c2 d1 d2 := by
  unfold partsP
  rw [Int.mul_comm]
theorem Ends2.sw {a1 a2 b1 b2 l1 l2 h1 h2 : Int} (H : Ends2 a1 a2 b1 b2 l1 l2 h1 h2) : Ends2 b1 b2 a1 a2 l1 l2 h1 h2 := by
  unfold Ends2 at *
  rw [cmpP_sw]
  rcases cmpP_cases a1 a2 b1 b2 with ⟨e, h⟩ | ⟨e, h⟩ | ⟨e, h⟩ <;> rw [e] at H ⊢ <;> omega
theorem segR_sw (a1 a2 b1 b2 : Int) : segR b1 b2 a1 a2 = segR a1 a2 b1 b2 := by
  unfold segR
  rw [Bool.and_comm]
theorem MeetT.sw1 {a1 a2 b1 b2 c1 c2 d1 d2 l1 l2 h1 h2 m1 m2 k1 k2 p1 p2 q1 q2 W R K : Int} {V : Value} (h : MeetT a1 a2 b1 b2 c1 c2 d1 d2 l1 l2 h1 h2 m1 m2 k1 k2 p1 p2 q1 q2 W R K V) : MeetT b1 b2 a1 a2 c1 c2 d1 d2 l1 l2 h1 h2 m1 m2 k1 k2 p1 p2 q1 q2 W R K V := by
  unfold MeetT at *
  rw [onP_sw a1 a2 b1 b2 c1 c2, onP_sw a1 a2 b1 b2 p1 p2, partsP_sw a1 a2 b1 b2, partsP_sw2 c1 c2 d1 d2 a1 a2 b1 b2]
  by_cases e : a1 = b1 ∧ a2 = b2
  · obtain ⟨rfl, rfl⟩ := e
    exact h
  · have e' : ¬ (b1 = a1 ∧ b2 = a2) := fun x => e ⟨x.1.symm, x.2.symm⟩
    simp only [e, e', false_and, not_false_eq_true, true_and, false_or] at h ⊢
    exact h
theorem MeetT.sw2 {a1 a2 b1 b2 c1 c2 d1 d2 l1 l2 h1 h2 m1 m2 k1 k2 p1 p2 q1 q2 W R K : Int} {V : Value} (h : MeetT a1 a2 b1 b2 c1 c2 d1 d2 l1 l2 h1 h2 m1 m2 k1 k2 p1 p2 q1 q2 W R K V) : MeetT a1 a2 b1 b2 d1 d2 c1 c2 l1 l2 h1 h2 m1 m2 k1 k2 p1 p2 q1 q2 W R K V := by
  unfold MeetT at *
  rw [onP_sw c1 c2 d1 d2 a1 a2, onP_sw c1 c2 d1 d2 p1 p2, partsP_sw c1 c2 d1 d2, partsP_sw2 a1 a2 b1 b2 c1 c2 d1 d2]
  by_cases e : c1 = d1 ∧ c2 = d2
  · obtain ⟨rfl, rfl⟩ := e
    exact h
  · have e' : ¬ (d1 = c1 ∧ d2 = c2) := fun x => e ⟨x.1.symm, x.2.symm⟩
    simp only [e, e', false_and, and_false, not_false_eq_true, true_and, false_or] at h ⊢
    exact h
theorem later_ex (l1 l2 m1 m2 : Int) : ∃ p1 p2, Later l1 l2 m1 m2 p1 p2 := by
  by_cases h : cmpP l1 l2 m1 m2 < 0
  · exact ⟨_, _, Or.inl ⟨h, rfl, rfl⟩⟩
  · exact ⟨_, _, Or.inr ⟨h, rfl, rfl⟩⟩
theorem sooner_ex (l1 l2 m1 m2 : Int) : ∃ p1 p2, Sooner l1 l2 m1 m2 p1 p2 := by
  by_cases h : 0 < cmpP l1 l2 m1 m2
  · exact ⟨_, _, Or.inl ⟨h, rfl, rfl⟩⟩
  · exact ⟨_, _, Or.inr ⟨h, rfl, rfl⟩⟩
theorem signed_ex (u v : Int) : ∃ W R, Signed u v W R := by
  by_cases h : u < 0
  · exact ⟨_, _, Or.inl ⟨h, rfl, rfl⟩⟩
  · exact ⟨_, _, Or.inr ⟨h, rfl, rfl⟩⟩
theorem cross_fit {l1 l2 h1 h2 m1 m2 k1 k2 W R : Int} (rl : rightP l1 l2 = true) (rh : rightP h1 h2 = true) (rm : rightP m1 m2 = true) (rk : rightP k1 k2 = true)
    (HS : Signed (wholeI l1 l2 h1 h2 m1 m2 k1 k2) (restI l1 l2 m1 m2 k1 k2) W R) : Fit (l1 * W + (h1 - l1) * R) ∧ Fit (l2 * W + (h2 - l2) * R) ∧ Fit W := by
  obtain ⟨b1', b2'⟩ := diff_right rl rh
  obtain ⟨b3', b4'⟩ := diff_right rm rk
  obtain ⟨b5', b6'⟩ := diff_right rl rm
  have t1 := mul_le_of b1' b4'
  have t2 := mul_le_of b2' b3'
  have t3 := mul_le_of b5' b4'
  have t4 := mul_le_of b6' b3'
  unfold wholeI restI at HS
  have bW : -38685626227668133590597632 ≤ W ∧ W ≤ 38685626227668133590597632 := by rcases HS with ⟨_, e, _⟩ | ⟨_, e, _⟩ <;> omega
  have bR : -38685626227668133590597632 ≤ R ∧ R ≤ 38685626227668133590597632 := by rcases HS with ⟨_, _, e⟩ | ⟨_, _, e⟩ <;> omega
  have al := rightP_t rl
  have s1 := mul_le_of (x := l1) (A := 2199023255552) (by omega) bW
  have s2 := mul_le_of (x := l2) (A := 2199023255552) (by omega) bW
  have s3 := mul_le_of b1' bR
  have s4 := mul_le_of b2' bR
  unfold Fit
  omega
theorem fit_pt {a1 a2 : Int} (h : rightP a1 a2 = true) : Fit a1 ∧ Fit a2 ∧ Fit 1 := by
  have := rightP_t h
  unfold Fit
  omega
/-- There is an answer. -/
theorem meetT_ex {a1 a2 b1 b2 c1 c2 d1 d2 l1 l2 h1 h2 m1 m2 k1 k2 p1 p2 q1 q2 W R : Int} (H : Ends2 a1 a2 b1 b2 l1 l2 h1 h2) (H' : Ends2 c1 c2 d1 d2 m1 m2 k1 k2) (HW : Signed (wholeI l1 l2 h1 h2 m1 m2 k1 k2) (restI l1 l2 m1 m2 k1 k2) W R)
    (r1 : segR a1 a2 b1 b2 = true) (r2 : segR c1 c2 d1 d2 = true) : ∃ K x y z, (Fit x ∧ Fit y ∧ Fit z) ∧ (K = 0 ∨ K = 1 ∨ K = 2) ∧ MeetT a1 a2 b1 b2 c1 c2 d1 d2 l1 l2 h1 h2 m1 m2 k1 k2 p1 p2 q1 q2 W R K (.agg #[.int .u64 (wd0 x), .int .u64 (wd1 x), .int .u64 (wd2 x), .int .u64 (wd3 x), .int .u64 (wd0 y), .int .u64 (wd1 y), .int .u64 (wd2 y), .int .u64 (wd3 y), .int .u64 (wd0 z), .int .u64 (wd1 z), .int .u64 (wd2 z), .int .u64 (wd3 z)]) := by
  have f0 : Fit 0 ∧ Fit 0 ∧ Fit 0 := by unfold Fit; omega
  obtain ⟨ra, rb⟩ : rightP a1 a2 = true ∧ rightP b1 b2 = true := by simpa [segR] using r1
  obtain ⟨rc, rd⟩ : rightP c1 c2 = true ∧ rightP d1 d2 = true := by simpa [segR] using r2
  by_cases e : a1 = b1 ∧ a2 = b2
  · cases ho : onP c1 c2 d1 d2 a1 a2 with
    | false => exact ⟨0, 0, 0, 0, f0, Or.inl rfl, Or.inl ⟨e, Or.inl ⟨ho, rfl, z12_eq.symm⟩⟩⟩
    | true => exact ⟨1, a1, a2, 1, fit_pt ra, Or.inr (Or.inl rfl), Or.inl ⟨e, Or.inr ⟨ho, rfl, rfl⟩⟩⟩
  by_cases e' : c1 = d1 ∧ c2 = d2
  · cases ho : onP a1 a2 b1 b2 c1 c2 with
    | false => exact ⟨0, 0, 0, 0, f0, Or.inl rfl, Or.inr (Or.inl ⟨e, e', Or.inl ⟨ho, rfl, z12_eq.symm⟩⟩)⟩
    | true => exact ⟨1, c1, c2, 1, fit_pt rc, Or.inr (Or.inl rfl), Or.inr (Or.inl ⟨e, e', Or.inr ⟨ho, rfl, rfl⟩⟩)⟩
  by_cases g : slopeS l1 l2 h1 h2 m1 m2 k1 k2 = 0
  · cases ho : (onP a1 a2 b1 b2 p1 p2 && onP c1 c2 d1 d2 p1 p2) with
    | false => exact ⟨0, 0, 0, 0, f0, Or.inl rfl, Or.inr (Or.inr (Or.inl ⟨e, e', g, Or.inl ⟨ho, rfl, z12_eq.symm⟩⟩))⟩
    | true =>
      have rp := (onP_right (by rw [Bool.and_eq_true] at ho; exact ho.1)).2.2
      by_cases pq : p1 = q1 ∧ p2 = q2
      · exact ⟨1, p1, p2, 1, fit_pt rp, Or.inr (Or.inl rfl), Or.inr (Or.inr (Or.inl ⟨e, e', g, Or.inr (Or.inl ⟨ho, pq, rfl, rfl⟩)⟩))⟩
      · exact ⟨2, 0, 0, 0, f0, Or.inr (Or.inr rfl), Or.inr (Or.inr (Or.inl ⟨e, e', g, Or.inr (Or.inr ⟨ho, pq, rfl, z12_eq.symm⟩)⟩))⟩
  cases hp : (partsP a1 a2 b1 b2 c1 c2 d1 d2 && partsP c1 c2 d1 d2 a1 a2 b1 b2) with
  | true => exact ⟨1, _, _, _, cross_fit (H.right r1).1 (H.right r1).2 (H'.right r2).1 (H'.right r2).2 HW, Or.inr (Or.inl rfl), Or.inr (Or.inr (Or.inr (Or.inl ⟨e, e', g, hp, rfl, rfl⟩)))⟩
  | false => exact ⟨0, 0, 0, 0, f0, Or.inl rfl, Or.inr (Or.inr (Or.inr (Or.inr ⟨e, e', g, hp, rfl, z12_eq.symm⟩)))⟩
theorem onP_ends {a1 a2 b1 b2 : Int} (ra : rightP a1 a2 = true) (rb : rightP b1 b2 = true) : onP a1 a2 b1 b2 a1 a2 = true ∧ onP a1 a2 b1 b2 b1 b2 = true := by
  have w1 : wayP a1 a2 b1 b2 a1 a2 = 0 := by
    unfold wayP
    split
    · exact cmpI_eq (by unfold turnI; grind)
    · rfl
  have w2 : wayP a1 a2 b1 b2 b1 b2 = 0 := by
    unfold wayP
    split
    · exact cmpI_eq (by unfold turnI; grind)
    · rfl
  have z1 : cmpP a1 a2 a1 a2 = 0 := by unfold cmpP; rw [if_pos rfl]; exact cmpI_eq rfl
  have z2 : cmpP b1 b2 b1 b2 = 0 := by unfold cmpP; rw [if_pos rfl]; exact cmpI_eq rfl
  unfold onP betw right3
  rw [w1, w2, ra, rb, z1, z2]
  simp
/-- A segment meets itself in itself. -/
theorem meet_self {a1 a2 b1 b2 l1 l2 h1 h2 p1 p2 q1 q2 W R K : Int} {V : Value} (H : Ends2 a1 a2 b1 b2 l1 l2 h1 h2) (HL : Later l1 l2 l1 l2 p1 p2) (HS : Sooner h1 h2 h1 h2 q1 q2) (r : segR a1 a2 b1 b2 = true)
    (h : MeetT a1 a2 b1 b2 a1 a2 b1 b2 l1 l2 h1 h2 l1 l2 h1 h2 p1 p2 q1 q2 W R K V) : K = if a1 = b1 ∧ a2 = b2 then 1 else 2 := by
  obtain ⟨ra, rb⟩ : rightP a1 a2 = true ∧ rightP b1 b2 = true := by simpa [segR] using r
  obtain ⟨o1, o2⟩ := onP_ends ra rb
  have z : ∀ x y : Int, cmpP x y x y = 0 := fun x y => by unfold cmpP; rw [if_pos rfl]; exact cmpI_eq rfl
  have s0 : slopeS l1 l2 h1 h2 l1 l2 h1 h2 = 0 := by unfold slopeS; grind
  obtain ⟨rfl, rfl⟩ : p1 = l1 ∧ p2 = l2 := by
    rcases HL with ⟨e, _⟩ | ⟨_, e⟩
    · rw [z] at e; omega
    · exact e
  obtain ⟨rfl, rfl⟩ : q1 = h1 ∧ q2 = h2 := by
    rcases HS with ⟨e, _⟩ | ⟨_, e⟩
    · rw [z] at e; omega
    · exact e
  have oL : onP a1 a2 b1 b2 p1 p2 = true := by
    rcases H with ⟨_, rfl, rfl, rfl, rfl⟩ | ⟨_, rfl, rfl, rfl, rfl⟩
    · exact o2
    · exact o1
  have hne : (p1 = q1 ∧ p2 = q2) ↔ (a1 = b1 ∧ a2 = b2) := by
    rcases H with ⟨_, rfl, rfl, rfl, rfl⟩ | ⟨_, rfl, rfl, rfl, rfl⟩
    · exact ⟨fun x => ⟨x.1.symm, x.2.symm⟩, fun x => ⟨x.1.symm, x.2.symm⟩⟩
    · exact Iff.rfl
  rcases h with ⟨e, h⟩ | ⟨e, e', _⟩ | ⟨e, _, _, h⟩ | ⟨_, _, g, _⟩ | ⟨_, _, g, _⟩
  · rw [if_pos e]
    rcases h with ⟨h, _⟩ | ⟨_, h, _⟩
    · rw [o1] at h; cases h
    · exact h
  · exact absurd e' e
  · rw [if_neg e]
    rcases h with ⟨h, _⟩ | ⟨_, h, _⟩ | ⟨_, _, h, _⟩
    · rw [oL] at h; cases h
    · exact absurd (hne.1 h) e
    · exact h
  · exact absurd s0 g
  · exact absurd s0 g
end Go.Proofs.Ytohhlhoijanjfaa
namespace Go.Proofs.Ytohhlhoijanjfaa
open Go.RowKit Go.Shelf
attribute [local go_sem] Gr.size Gr.cell? Gr.frozen? Gr.setCell Gr.drew Gr.drewN Gr.of_drew Gr.of_drewN Gr.gr Gr.lt_of1 Gr.le_of1 Gr.lt_of2 Gr.le_of2 Gr.lt_of3 Gr.le_of3 Gr.lt_of4 Gr.le_of4 Gr.lt_of5 Gr.le_of5 Gr.lt_of6 Gr.le_of6 Gr.lt_of7 Gr.le_of7 Gr.lt_of8 Gr.le_of8 Gr.lt_of9 Gr.le_of9 Gr.lt_of10 Gr.le_of10 Gr.lt_of11 Gr.le_of11 Gr.lt_of12 Gr.le_of12 Gr.lt_of13 Gr.le_of13 Gr.lt_of14 Gr.le_of14 Gr.lt_of15 Gr.le_of15 Gr.lt_of16 Gr.le_of16 Gr.lt_of17 Gr.le_of17 Gr.lt_of18 Gr.le_of18 Gr.lt_of19 Gr.le_of19 Gr.lt_of20 Gr.le_of20 Gr.lt_of21 Gr.le_of21 Gr.lt_of22 Gr.le_of22 Gr.lt_of23 Gr.le_of23 Gr.lt_of24 Gr.le_of24

theorem meet_four (a1 a2 b1 b2 c1 c2 d1 d2 : Int) : ∃ K x y z : Int, (Fit x ∧ Fit y ∧ Fit z) ∧ (K = 0 ∨ K = 1 ∨ K = 2) ∧
    (∀ w, Calls Try.prog 19 #[.agg #[.int .i64 a1, .int .i64 a2, .int .i64 b1, .int .i64 b2], .agg #[.int .i64 c1, .int .i64 c2, .int .i64 d1, .int .i64 d2]] w fun e w' => e = .returned (.tuple #[.int .i64 K, .agg #[.int .u64 (wd0 x), .int .u64 (wd1 x), .int .u64 (wd2 x), .int .u64 (wd3 x), .int .u64 (wd0 y), .int .u64 (wd1 y), .int .u64 (wd2 y), .int .u64 (wd3 y), .int .u64 (wd0 z), .int .u64 (wd1 z), .int .u64 (wd2 z), .int .u64 (wd3 z)]]) ∧ IsGr w w') ∧
    (∀ w, Calls Try.prog 19 #[.agg #[.int .i64 b1, .int .i64 b2, .int .i64 a1, .int .i64 a2], .agg #[.int .i64 c1, .int .i64 c2, .int .i64 d1, .int .i64 d2]] w fun e w' => e = .returned (.tuple #[.int .i64 K, .agg #[.int .u64 (wd0 x), .int .u64 (wd1 x), .int .u64 (wd2 x), .int .u64 (wd3 x), .int .u64 (wd0 y), .int .u64 (wd1 y), .int .u64 (wd2 y), .int .u64 (wd3 y), .int .u64 (wd0 z), .int .u64 (wd1 z), .int .u64 (wd2 z), .int .u64 (wd3 z)]]) ∧ IsGr w w') ∧
    (∀ w, Calls Try.prog 19 #[.agg #[.int .i64 a1, .int .i64 a2, .int .i64 b1, .int .i64 b2], .agg #[.int .i64 d1, .int .i64 d2, .int .i64 c1, .int .i64 c2]] w fun e w' => e = .returned (.tuple #[.int .i64 K, .agg #[.int .u64 (wd0 x), .int .u64 (wd1 x), .int .u64 (wd2 x), .int .u64 (wd3 x), .int .u64 (wd0 y), .int .u64 (wd1 y), .int .u64 (wd2 y), .int .u64 (wd3 y), .int .u64 (wd0 z), .int .u64 (wd1 z), .int .u64 (wd2 z), .int .u64 (wd3 z)]]) ∧ IsGr w w') ∧
    (∀ w, Calls Try.prog 19 #[.agg #[.int .i64 b1, .int .i64 b2, .int .i64 a1, .int .i64 a2], .agg #[.int .i64 d1, .int .i64 d2, .int .i64 c1, .int .i64 c2]] w fun e w' => e = .returned (.tuple #[.int .i64 K, .agg #[.int .u64 (wd0 x), .int .u64 (wd1 x), .int .u64 (wd2 x), .int .u64 (wd3 x), .int .u64 (wd0 y), .int .u64 (wd1 y), .int .u64 (wd2 y), .int .u64 (wd3 y), .int .u64 (wd0 z), .int .u64 (wd1 z), .int .u64 (wd2 z), .int .u64 (wd3 z)]]) ∧ IsGr w w') := by
  cases h : (segR a1 a2 b1 b2 && segR c1 c2 d1 d2) with
  | false =>
    refine ⟨0, 0, 0, 0, by unfold Fit; omega, Or.inl rfl, fun w => ?_, fun w => ?_, fun w => ?_, fun w => ?_⟩ <;> rw [← z12_eq]
    · exact Meet_no a1 a2 b1 b2 c1 c2 d1 d2 h w
    · exact Meet_no b1 b2 a1 a2 c1 c2 d1 d2 (by rw [segR_sw]; exact h) w
    · exact Meet_no a1 a2 b1 b2 d1 d2 c1 c2 (by rw [segR_sw c1]; exact h) w
    · exact Meet_no b1 b2 a1 a2 d1 d2 c1 c2 (by rw [segR_sw, segR_sw c1]; exact h) w
  | true =>
    rw [Bool.and_eq_true] at h
    obtain ⟨r1, r2⟩ := h
    obtain ⟨l1, l2, h1, h2, H⟩ := ends_ex a1 a2 b1 b2
    obtain ⟨m1, m2, k1, k2, H'⟩ := ends_ex c1 c2 d1 d2
    obtain ⟨p1, p2, HL⟩ := later_ex l1 l2 m1 m2
    obtain ⟨q1, q2, HS⟩ := sooner_ex h1 h2 k1 k2
    obtain ⟨W, R, HW⟩ := signed_ex (wholeI l1 l2 h1 h2 m1 m2 k1 k2) (restI l1 l2 m1 m2 k1 k2)
    obtain ⟨K, x, y, z, hf, hK, HT⟩ := meetT_ex (p1 := p1) (p2 := p2) (q1 := q1) (q2 := q2) H H' HW r1 r2
    refine ⟨K, x, y, z, hf, hK, fun w => ?_, fun w => ?_, fun w => ?_, fun w => ?_⟩
    · exact Meet_any _ _ _ _ _ _ _ _ _ _ _ _ _ _ _ _ _ _ _ _ W R K _ H H' HL HS HW r1 r2 HT w
    · exact Meet_any _ _ _ _ _ _ _ _ _ _ _ _ _ _ _ _ _ _ _ _ W R K _ H.sw H' HL HS HW (by rw [segR_sw]; exact r1) r2 HT.sw1 w
    · exact Meet_any _ _ _ _ _ _ _ _ _ _ _ _ _ _ _ _ _ _ _ _ W R K _ H H'.sw HL HS HW r1 (by rw [segR_sw]; exact r2) HT.sw2 w
    · exact Meet_any _ _ _ _ _ _ _ _ _ _ _ _ _ _ _ _ _ _ _ _ W R K _ H.sw H'.sw HL HS HW (by rw [segR_sw]; exact r1) (by rw [segR_sw]; exact r2) HT.sw1.sw2 w
/-- How a segment meets itself. -/
def selfK (a1 a2 b1 b2 : Int) : Int := if segR a1 a2 b1 b2 = true then (if a1 = b1 ∧ a2 = b2 then 1 else 2) else 0
theorem meet_selfK (a1 a2 b1 b2 : Int) : ∃ x y z : Int, ∀ w, Calls Try.prog 19 #[.agg #[.int .i64 a1, .int .i64 a2, .int .i64 b1, .int .i64 b2], .agg #[.int .i64 a1, .int .i64 a2, .int .i64 b1, .int .i64 b2]] w fun e w' => e = .returned (.tuple #[.int .i64 (selfK a1 a2 b1 b2), .agg #[.int .u64 (wd0 x), .int .u64 (wd1 x), .int .u64 (wd2 x), .int .u64 (wd3 x), .int .u64 (wd0 y), .int .u64 (wd1 y), .int .u64 (wd2 y), .int .u64 (wd3 y), .int .u64 (wd0 z), .int .u64 (wd1 z), .int .u64 (wd2 z), .int .u64 (wd3 z)]]) ∧ IsGr w w' := by
  unfold selfK
  cases r : segR a1 a2 b1 b2 with
  | false =>
    refine ⟨0, 0, 0, fun w => ?_⟩
    rw [← z12_eq]
    exact Meet_no a1 a2 b1 b2 a1 a2 b1 b2 (by rw [r]; rfl) w
  | true =>
    obtain ⟨l1, l2, h1, h2, H⟩ := ends_ex a1 a2 b1 b2
    obtain ⟨p1, p2, HL⟩ := later_ex l1 l2 l1 l2
    obtain ⟨q1, q2, HS⟩ := sooner_ex h1 h2 h1 h2
    obtain ⟨W, R, HW⟩ := signed_ex (wholeI l1 l2 h1 h2 l1 l2 h1 h2) (restI l1 l2 l1 l2 h1 h2)
    obtain ⟨K, x, y, z, hf, hK, HT⟩ := meetT_ex (p1 := p1) (p2 := p2) (q1 := q1) (q2 := q2) H H HW r r
    refine ⟨x, y, z, fun w => ?_⟩
    rw [if_pos rfl, ← meet_self H HL HS r HT]
    exact Meet_any _ _ _ _ _ _ _ _ _ _ _ _ _ _ _ _ _ _ _ _ W R K _ H H HL HS HW r r HT w
theorem spotC_self (x y z : Int) : spotC x y z x y z = 0 := by
  unfold spotC
  split
  · rw [cmpI_eq rfl, if_pos rfl]; exact cmpI_eq rfl
  · rfl

end Go.Proofs.Ytohhlhoijanjfaa
namespace Go.Proofs.Ytohhlhoijanjfaa

theorem cmpI_anti (x y : Int) : cmpI y x = -cmpI x y := by
  rcases cmpI_cases x y with ⟨e, g⟩ | ⟨e, g⟩ | ⟨e, g⟩ <;> rcases cmpI_cases y x with ⟨e', g'⟩ | ⟨e', g'⟩ | ⟨e', g'⟩ <;> omega
theorem spotC_anti (x y z u v t : Int) : spotC u v t x y z = -spotC x y z u v t := by
  unfold spotC
  rw [Bool.and_comm (spotR u v t), cmpI_anti (x * t) (u * z), cmpI_anti (y * t) (v * z)]
  split
  · by_cases h : cmpI (x * t) (u * z) = 0
    · rw [if_pos h, if_pos (by omega)]
    · rw [if_neg h, if_neg (by omega)]
  · rfl
theorem spotC_not {x y z u v t : Int} (h : (spotR x y z && spotR u v t) = false) : spotC x y z u v t = 0 := by
  unfold spotC
  rw [h]
  rfl
theorem spotD_zero {x y z u v t : Int} : spotD x y z u v t = 0 ↔ x * t = u * z ∧ y * t = v * z := by
  unfold spotD
  rcases cmpI_cases (x * t) (u * z) with ⟨e, g⟩ | ⟨e, g⟩ | ⟨e, g⟩
  · rw [e]; simp; omega
  · rw [e]; simp
    rcases cmpI_cases (y * t) (v * z) with ⟨e', g'⟩ | ⟨e', g'⟩ | ⟨e', g'⟩ <;> rw [e'] <;> simp <;> omega
  · rw [e]; simp; omega
theorem fmod_zero {x z : Int} : x.fmod z = 0 ↔ x.fdiv z * z = x := by
  have := Int.fmod_add_fdiv_mul x z
  omega
theorem whole_is {x y z : Int} (h : wholeS x y z = true) : rightP (x.fdiv z) (y.fdiv z) = true ∧ spotD (x.fdiv z) (y.fdiv z) 1 x y z = 0 := by
  simp only [wholeS, Bool.and_eq_true, decide_eq_true_eq] at h
  obtain ⟨hr, h1, h2⟩ := h
  obtain ⟨⟨z1, _⟩, bx, bY⟩ := spotR_t hr
  have b1 := fdiv_bound z1 bx
  have b2 := fdiv_bound z1 bY
  refine ⟨by simp [rightP, reach]; omega, ?_⟩
  rw [spotD_zero]
  have e1 := fmod_zero.1 h1
  have e2 := fmod_zero.1 h2
  omega
theorem whole_not {x y z a1 a2 : Int} (h : wholeS x y z = false) (r : spotR x y z = true) : spotD a1 a2 1 x y z ≠ 0 := by
  intro h0
  rw [spotD_zero] at h0
  obtain ⟨⟨z1, _⟩, _, _⟩ := spotR_t r
  have k : ∀ a n : Int, a * z = n * 1 → n.fmod z = 0 := fun a n e => by
    rw [Int.mul_one] at e
    rw [← e]
    exact Int.mul_fmod_left a z
  have e1 := k a1 x h0.1
  have e2 := k a2 y h0.2
  simp [wholeS, r, e1, e2] at h
theorem whole_at {a1 a2 : Int} (h : rightP a1 a2 = true) : wholeS a1 a2 1 = true ∧ a1.fdiv 1 = a1 ∧ a2.fdiv 1 = a2 := by
  have hr : spotR a1 a2 1 = true := by
    have := rightP_t h
    simp [spotR, withinI]
    omega
  refine ⟨?_, Int.fdiv_one _, Int.fdiv_one _⟩
  simp [wholeS, hr]
end Go.Proofs.Ytohhlhoijanjfaa
namespace Go.Proofs.Ytohhlhoijanjfaa

theorem spotC_both {x y z u v t : Int} (h : spotR x y z = true) (h' : spotR u v t = true) : spotD x y z u v t = spotC x y z u v t := by
  unfold spotC spotD
  rw [h, h']
  rfl
theorem fit_pt1 {a1 a2 : Int} (h : rightP a1 a2 = true) : Fit a1 ∧ Fit a2 ∧ Fit 1 := by
  have := rightP_t h
  unfold Fit
  omega
end Go.Proofs.Ytohhlhoijanjfaa
