/- Plain facts on closed ways: the way back has the other sign; seen from any point the turns come to the area. -/
import Derived.Test.YtohhlhoijanjfaaU16
namespace Go.Proofs.Ytohhlhoijanjfaa

theorem turnI_cross (f1 f2 a1 a2 b1 b2 : Int) : turnI f1 f2 a1 a2 b1 b2 = turnI 0 0 a1 a2 b1 b2 + turnI 0 0 f1 f2 a1 a2 - turnI 0 0 f1 f2 b1 b2 := by
  unfold turnI; grind
theorem turnI_anti (a1 a2 b1 b2 : Int) : turnI 0 0 b1 b2 a1 a2 = -turnI 0 0 a1 a2 b1 b2 := by
  unfold turnI; grind
theorem nextP_lt {l : List (Int × Int)} {i : Nat} (h : i + 1 < l.length) : nextP l i = l.getD (i + 1) (0, 0) := by
  unfold nextP; rw [Nat.mod_eq_of_lt h]
theorem nextP_last {l : List (Int × Int)} {i : Nat} (h : i + 1 = l.length) : nextP l i = l.getD 0 (0, 0) := by
  unfold nextP; rw [h, Nat.mod_self]
/-- The sum of the turns that f sees. -/
def seenK (f1 f2 : Int) (l : List (Int × Int)) : Nat → Int
  | 0 => 0
  | k + 1 => seenK f1 f2 l k + turnI f1 f2 (l.getD k (0, 0)).1 (l.getD k (0, 0)).2 (nextP l k).1 (nextP l k).2
theorem seenK_area (f1 f2 : Int) (l : List (Int × Int)) : seenK f1 f2 l l.length = areaK l l.length := by
  have h : ∀ k, k < l.length → seenK f1 f2 l k = areaK l k + turnI 0 0 f1 f2 (l.getD 0 (0, 0)).1 (l.getD 0 (0, 0)).2 - turnI 0 0 f1 f2 (l.getD k (0, 0)).1 (l.getD k (0, 0)).2 := by
    intro k
    induction k with
    | zero => intro _; simp only [seenK, areaK]; omega
    | succ k ih =>
      intro hk
      simp only [seenK, areaK]
      rw [ih (by omega), turnI_cross f1 f2, nextP_lt hk]
      omega
  cases hl : l.length with
  | zero => rfl
  | succ n =>
    simp only [seenK, areaK]
    rw [h n (by omega), turnI_cross f1 f2, nextP_last hl.symm]
    omega
theorem getD_reverse {l : List (Int × Int)} {i : Nat} (h : i < l.length) : l.reverse.getD i (0, 0) = l.getD (l.length - 1 - i) (0, 0) := by
  have h2 : l.length - 1 - i < l.length := by omega
  simp [List.getD, h, h2]
theorem areaK_back (l : List (Int × Int)) : areaK l.reverse l.reverse.length = -areaK l l.length := by
  have h : ∀ k, k + 1 ≤ l.length → areaK l.reverse k = areaK l (l.length - 1 - k) - areaK l (l.length - 1) := by
    intro k
    induction k with
    | zero => intro _; simp only [areaK, Nat.sub_zero]; omega
    | succ k ih =>
      intro hk
      simp only [areaK]
      rw [ih (by omega), nextP_lt (by simp; omega), getD_reverse (by omega), getD_reverse (by omega)]
      obtain ⟨m, hm⟩ : ∃ m, l.length = m + k + 2 := ⟨l.length - k - 2, by omega⟩
      rw [show l.length - 1 - k = m + 1 by omega, show l.length - 1 - (k + 1) = m by omega]
      simp only [areaK]
      rw [nextP_lt (by omega), turnI_anti]
      omega
  cases hl : l.length with
  | zero => have : l = [] := List.length_eq_zero_iff.1 hl; subst this; rfl
  | succ n =>
    rw [List.length_reverse, hl]
    simp only [areaK]
    rw [h n (by omega), nextP_last (by simp; omega), getD_reverse (by omega), getD_reverse (by omega), nextP_last hl.symm]
    rw [show l.length - 1 - n = 0 by omega, show l.length - 1 - 0 = n by omega, show l.length - 1 = n by omega]
    simp only [areaK]
    rw [turnI_anti]
    omega
theorem allR_reverse (l : List (Int × Int)) : allR l.reverse = allR l := by
  unfold allR; simp
end Go.Proofs.Ytohhlhoijanjfaa
