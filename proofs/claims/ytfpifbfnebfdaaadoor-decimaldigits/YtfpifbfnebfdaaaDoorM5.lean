/- Plain facts: quotients rounded down, from those of sizes. -/
import Derived.Test.YtfpifbfnebfdaaaDoorM4
namespace Go.Proofs.YtfpifbfnebfdaaaDoor
open Go.RowKit

/-- The number of a size under a sign. -/
def sgn (b : Bool) (n : Int) : Int := if b then 0 - n else n
/-- The size of a number. -/
def abs (z : Int) : Int := if z < 0 then 0 - z else z

theorem mul_signs (x y : Int) : sgn (decide (x < 0) != decide (y < 0)) (abs x * abs y) = x * y := by
  unfold sgn abs
  by_cases h1 : x < 0 <;> by_cases h2 : y < 0 <;> simp [h1, h2, Int.neg_mul, Int.mul_neg]

/-- The quotient of two sizes as Div goes on with it: l and m. -/
def Adj (x y l m : Int) : Prop :=
  ((decide (x < 0) != decide (y < 0)) = true ∧ abs x % abs y ≠ 0 ∧ l = abs x / abs y + 1 ∧ m = abs y - abs x % abs y) ∨
  (((decide (x < 0) != decide (y < 0)) = false ∨ abs x % abs y = 0) ∧ l = abs x / abs y ∧ m = abs x % abs y)

theorem fdiv_unique {x y q r : Int} (h : x = q * y + r) (hr : (0 < y ∧ 0 ≤ r ∧ r < y) ∨ (y < 0 ∧ y < r ∧ r ≤ 0)) : x.fdiv y = q ∧ x.fmod y = r := by
  rcases hr with ⟨a, b, c⟩ | ⟨a, b, c⟩
  · rw [Int.fdiv_eq_ediv_of_nonneg x (Int.le_of_lt a), Int.fmod_eq_emod_of_nonneg x (Int.le_of_lt a)]
    exact (Int.ediv_emod_unique a).2 ⟨by rw [Int.mul_comm y q]; omega, b, c⟩
  · have e1 : x.fdiv y = (-x).fdiv (-y) := (Int.neg_fdiv_neg x y).symm
    have e2 := Int.fmod_def x y
    have h2 : (-x).fdiv (-y) = q := by
      rw [Int.fdiv_eq_ediv_of_nonneg (-x) (by omega)]
      exact ((Int.ediv_emod_unique (a := -x) (b := -y) (q := q) (r := -r) (by omega)).2 ⟨by rw [Int.neg_mul, Int.mul_comm y q]; omega, by omega, by omega⟩).1
    refine ⟨by rw [e1, h2], ?_⟩
    rw [e2, e1, h2, Int.mul_comm y q]; omega

theorem Adj.quot {x y l m : Int} (h : Adj x y l m) (hy : y ≠ 0) : x.fdiv y = sgn (decide (x < 0) != decide (y < 0)) l ∧ x.fmod y = sgn (decide (y < 0)) m ∧ 0 ≤ m ∧ m < abs y ∧ 0 ≤ l ∧ l ≤ abs x + 1 ∧ ((decide (x < 0) != decide (y < 0)) = true → l ≤ abs x) := by
  have hya : 0 < abs y := by unfold abs; split <;> omega
  have hxa : 0 ≤ abs x := by unfold abs; split <;> omega
  have hd := Int.mul_ediv_add_emod (abs x) (abs y)
  have h0 := Int.emod_nonneg (abs x) (Int.ne_of_gt hya)
  have h1 := Int.emod_lt_of_pos (abs x) hya
  have hq0 : 0 ≤ abs x / abs y := Int.ediv_nonneg hxa (Int.le_of_lt hya)
  have hq1 : abs x / abs y ≤ abs y * (abs x / abs y) := by
    have := Int.mul_le_mul_of_nonneg_right (show 1 ≤ abs y by omega) hq0
    omega
  unfold Adj at h
  generalize hQ : abs x / abs y = Q at *
  generalize hR : abs x % abs y = R at *
  have key : (x = sgn (decide (x < 0) != decide (y < 0)) l * y + sgn (decide (y < 0)) m) ∧ 0 ≤ m ∧ m < abs y := by
    clear hQ hR
    have a1 : y < 0 → abs y = -y := by intro h; unfold abs; rw [if_pos h]; omega
    have a2 : ¬ y < 0 → abs y = y := by intro h; unfold abs; rw [if_neg h]
    have b1 : x < 0 → abs x = -x := by intro h; unfold abs; rw [if_pos h]; omega
    have b2 : ¬ x < 0 → abs x = x := by intro h; unfold abs; rw [if_neg h]
    by_cases hx : x < 0 <;> by_cases hy' : y < 0
    · have d1 := b1 hx; have d2 := a1 hy'
      have e : (decide (x < 0) != decide (y < 0)) = false := by simp [hx, hy']
      rw [e] at h ⊢
      rcases h with ⟨h, _⟩ | ⟨_, rfl, rfl⟩
      · cases h
      · refine ⟨?_, by omega, by omega⟩
        simp only [sgn, hy', decide_true, if_true]
        rw [d1, d2, Int.neg_mul, Int.mul_comm] at hd
        simp only [Bool.false_eq_true, if_false]
        omega
    · have d1 := b1 hx; have d2 := a2 hy'
      have e : (decide (x < 0) != decide (y < 0)) = true := by simp [hx, hy']
      rw [e] at h ⊢
      simp only [sgn, hy', decide_false, if_true, Bool.false_eq_true, if_false]
      rw [d1, d2, Int.mul_comm] at hd
      rcases h with ⟨_, h2, rfl, rfl⟩ | ⟨h2, hl, hm⟩
      · refine ⟨?_, by omega, by omega⟩
        rw [Int.zero_sub, Int.neg_mul, Int.add_mul]
        omega
      · have h3 : R = 0 := by simpa using h2
        rw [hl, hm]
        refine ⟨?_, by omega, by omega⟩
        rw [Int.zero_sub, Int.neg_mul]
        omega
    · have d1 := b2 hx; have d2 := a1 hy'
      have e : (decide (x < 0) != decide (y < 0)) = true := by simp [hx, hy']
      rw [e] at h ⊢
      simp only [sgn, hy', decide_true, if_true]
      rw [d1, d2, Int.neg_mul, Int.mul_comm] at hd
      rcases h with ⟨_, h2, rfl, rfl⟩ | ⟨h2, hl, hm⟩
      · refine ⟨?_, by omega, by omega⟩
        rw [Int.zero_sub, Int.neg_mul, Int.add_mul]
        omega
      · have h3 : R = 0 := by simpa using h2
        rw [hl, hm]
        refine ⟨?_, by omega, by omega⟩
        rw [Int.zero_sub, Int.neg_mul]
        omega
    · have d1 := b2 hx; have d2 := a2 hy'
      have e : (decide (x < 0) != decide (y < 0)) = false := by simp [hx, hy']
      rw [e] at h ⊢
      rcases h with ⟨h, _⟩ | ⟨_, rfl, rfl⟩
      · cases h
      · refine ⟨?_, by omega, by omega⟩
        simp only [sgn, hy', decide_false, Bool.false_eq_true, if_false]
        rw [d1, d2, Int.mul_comm] at hd
        omega
  obtain ⟨k1, k2, k3⟩ := key
  have hu := fdiv_unique k1 (by
    by_cases hy' : y < 0
    · right; have e : sgn (decide (y < 0)) m = 0 - m := by simp [sgn, hy']
      rw [e]; unfold abs at k3; rw [if_pos hy'] at k3; omega
    · left; have e : sgn (decide (y < 0)) m = m := by simp [sgn, hy']
      rw [e]; unfold abs at k3; rw [if_neg hy'] at k3; omega)
  refine ⟨hu.1, hu.2, k2, k3, ?_, ?_, ?_⟩
  · rcases h with ⟨_, _, rfl, _⟩ | ⟨_, rfl, _⟩ <;> omega
  · rcases h with ⟨_, _, rfl, _⟩ | ⟨_, rfl, _⟩ <;> omega
  · intro hd'
    rcases h with ⟨_, h2, rfl, _⟩ | ⟨_, rfl, _⟩ <;> omega

/-- Only the least number by -1 has a quotient that is no Int. -/
theorem Adj.over {x y l m : Int} (h : Adj x y l m) (hy : y ≠ 0) (hx0 : -57896044618658097711785492504343953926634992332820282019728792003956564819968 ≤ x) (hx1 : x < 57896044618658097711785492504343953926634992332820282019728792003956564819968) (ho : ¬ (-57896044618658097711785492504343953926634992332820282019728792003956564819968 ≤ sgn (decide (x < 0) != decide (y < 0)) l ∧ sgn (decide (x < 0) != decide (y < 0)) l < 57896044618658097711785492504343953926634992332820282019728792003956564819968)) : x = -57896044618658097711785492504343953926634992332820282019728792003956564819968 ∧ y = -1 := by
  obtain ⟨_, _, _, _, h5, h6, h7⟩ := h.quot hy
  have hax : abs x ≤ 57896044618658097711785492504343953926634992332820282019728792003956564819968 ∧ (abs x = 57896044618658097711785492504343953926634992332820282019728792003956564819968 → x = -57896044618658097711785492504343953926634992332820282019728792003956564819968) := by unfold abs; split <;> omega
  by_cases hd : (decide (x < 0) != decide (y < 0)) = true
  · have := h7 hd
    rw [hd] at ho; unfold sgn at ho; simp at ho; omega
  · have hd' : (decide (x < 0) != decide (y < 0)) = false := by simpa using hd
    rw [hd'] at ho
    have ho' : 57896044618658097711785492504343953926634992332820282019728792003956564819968 ≤ l := by unfold sgn at ho; simp at ho; omega
    unfold Adj at h
    rw [hd'] at h
    rcases h with ⟨h, _⟩ | ⟨_, hl, _⟩
    · cases h
    · have hya : 1 ≤ abs y := by unfold abs; split <;> omega
      have hxa : 0 ≤ abs x := by unfold abs; split <;> omega
      have hle : abs x / abs y ≤ abs x := Int.ediv_le_self _ hxa
      have hX : abs x = 57896044618658097711785492504343953926634992332820282019728792003956564819968 := by omega
      have hq : abs x / abs y = 57896044618658097711785492504343953926634992332820282019728792003956564819968 := by omega
      have hxe := hax.2 hX
      have hmul := Int.ediv_mul_le (abs x) (show abs y ≠ 0 by omega)
      rw [hq, hX] at hmul
      have hy1 : abs y = 1 := by
        rcases Int.lt_or_le 1 (abs y) with h | h
        · exfalso
          have h2 : 57896044618658097711785492504343953926634992332820282019728792003956564819968 * 2 ≤ 57896044618658097711785492504343953926634992332820282019728792003956564819968 * abs y := Int.mul_le_mul_of_nonneg_left (by omega) (by omega)
          omega
        · omega
      refine ⟨hxe, ?_⟩
      have hneg : y < 0 := by
        rcases Int.lt_or_le y 0 with h | h
        · exact h
        · exfalso
          have a : decide (x < 0) = true := by simp; omega
          have b : decide (y < 0) = false := by simp; omega
          rw [a, b] at hd'; cases hd'
      unfold abs at hy1; rw [if_pos hneg] at hy1; omega
end Go.Proofs.YtfpifbfnebfdaaaDoor
