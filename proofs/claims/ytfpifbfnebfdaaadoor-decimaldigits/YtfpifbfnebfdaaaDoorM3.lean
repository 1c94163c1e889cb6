/- Plain facts: numbers as lists of digits, the lowest first. -/
import Derived.Test.YtfpifbfnebfdaaaDoorM2
namespace Go.Proofs.YtfpifbfnebfdaaaDoor
open Go.RowKit

/-- The cells of a list of words. -/
def U (xs : List Int) : Array Value := (xs.map (Value.int .u64)).toArray
theorem U.get (xs : List Int) (i : Nat) (h : i < xs.length) : (U xs)[i]? = some (.int .u64 (xs.getD i 0)) := by
  simp [U, h, List.getD]
theorem U.set (xs : List Int) (i : Nat) (v : Int) : (U xs).setIfInBounds i (.int .u64 v) = U (xs.set i v) := by
  simp [U, List.map_set]
theorem U.size (xs : List Int) : (U xs).size = xs.length := by simp [U]

/-- The number of a list of digits of base b, the lowest first. -/
def vl (b : Int) : List Int → Int
  | [] => 0
  | d :: r => d + b * vl b r

theorem vl_set (b : Int) : ∀ (l : List Int) (i : Nat) (v : Int), i < l.length → vl b (l.set i v) = vl b l + b ^ i * (v - l.getD i 0)
  | [], i, v, h => by simp at h
  | d :: r, 0, v, h => by simp [vl]; omega
  | d :: r, i + 1, v, h => by
    have ih := vl_set b r i v (by simpa using h)
    simp only [List.set_cons_succ, vl, ih, List.getD_cons_succ]
    rw [Int.mul_add, Int.pow_succ, Int.mul_comm (b ^ i) b, Int.mul_assoc]
    omega

theorem vl_append (b : Int) : ∀ (l m : List Int), vl b (l ++ m) = vl b l + b ^ l.length * vl b m
  | [], m => by simp [vl]
  | d :: r, m => by
    simp only [List.cons_append, vl, vl_append b r m, List.length_cons, Int.pow_succ]
    rw [Int.mul_add, Int.mul_comm (b ^ r.length) b, Int.mul_assoc]
    omega

/-- All digits lie in 0 .. b - 1. -/
def Dg (b : Int) (l : List Int) : Prop := ∀ d ∈ l, 0 ≤ d ∧ d < b

theorem vl_nonneg {b : Int} (hb : 0 ≤ b) : ∀ {l : List Int}, Dg b l → 0 ≤ vl b l
  | [], _ => by simp [vl]
  | d :: r, h => by
    have h1 := h d (by simp)
    have h2 := vl_nonneg hb (l := r) (fun x hx => h x (by simp [hx]))
    have h3 := Int.mul_nonneg hb h2
    simp only [vl]; omega

theorem vl_lt {b : Int} (hb : 1 ≤ b) : ∀ {l : List Int}, Dg b l → vl b l < b ^ l.length
  | [], _ => by simp [vl]
  | d :: r, h => by
    have h1 := h d (by simp)
    have h2 := vl_lt hb (l := r) (fun x hx => h x (by simp [hx]))
    have h3 : b * (vl b r + 1) ≤ b * b ^ r.length := Int.mul_le_mul_of_nonneg_left (by omega) (by omega)
    simp only [vl, List.length_cons, Int.pow_succ]
    rw [Int.mul_comm (b ^ r.length) b]
    rw [Int.mul_add] at h3
    omega

theorem Dg.getD {b : Int} {l : List Int} (h : Dg b l) (i : Nat) (hi : i < l.length) : 0 ≤ l.getD i 0 ∧ l.getD i 0 < b := by
  have : l.getD i 0 = l[i] := by simp [List.getD, hi]
  rw [this]
  exact h _ (List.getElem_mem hi)
theorem Dg.set {b : Int} {l : List Int} (h : Dg b l) (i : Nat) (v : Int) (h0 : 0 ≤ v) (h1 : v < b) : Dg b (l.set i v) := by
  intro d hd
  rcases List.mem_or_eq_of_mem_set hd with h' | h'
  · exact h d h'
  · subst h'; exact ⟨h0, h1⟩
theorem Dg.append {b : Int} {l m : List Int} (h : Dg b l) (k : Dg b m) : Dg b (l ++ m) := by
  intro d hd
  rcases List.mem_append.1 hd with h' | h'
  · exact h d h'
  · exact k d h'
theorem Dg.take {b : Int} {l : List Int} (h : Dg b l) (n : Nat) : Dg b (l.take n) := fun d hd => h d (List.mem_of_mem_take hd)

theorem vl_take_succ (b : Int) (l : List Int) (j : Nat) (hj : j < l.length) : vl b (l.take (j + 1)) = vl b (l.take j) + b ^ j * l.getD j 0 := by
  rw [List.take_succ_eq_append_getElem hj, vl_append]
  simp [vl, List.getD, hj, Nat.min_eq_left (Nat.le_of_lt hj)]

/-- Behind j steps of the school method in row k: ts is what lies there, c what is carried. -/
def Row (b : Int) (ys ts0 : List Int) (X : Int) (k j : Nat) (ts : List Int) (c : Int) : Prop :=
  ts.length = ts0.length ∧ Dg b ts ∧ 0 ≤ c ∧ c < b ∧ vl b ts + b ^ (k + j) * c = vl b ts0 + b ^ k * (X * vl b (ys.take j)) ∧ ∀ i, k + j ≤ i → ts.getD i 0 = ts0.getD i 0

theorem Row.start {b : Int} {ys ts : List Int} {X : Int} {k : Nat} (hb : 0 < b) (hd : Dg b ts) : Row b ys ts X k 0 ts 0 :=
  ⟨rfl, hd, by omega, hb, by simp [vl], fun _ _ => rfl⟩

theorem Row.step {b : Int} {ys ts0 ts : List Int} {X : Int} {k j : Nat} {c h l : Int} (r : Row b ys ts0 X k j ts c) (hj : j < ys.length) (hk : k + j < ts.length)
    (l0 : 0 ≤ l) (l1 : l < b) (h0 : 0 ≤ h) (h1 : h < b) (he : X * ys.getD j 0 + ts.getD (k + j) 0 + c = h * b + l) : Row b ys ts0 X k (j + 1) (ts.set (k + j) l) h := by
  obtain ⟨r1, r2, r3, r4, r5, r6⟩ := r
  refine ⟨by simpa using r1, r2.set _ _ l0 l1, h0, h1, ?_, fun i hi => ?_⟩
  · rw [vl_set b ts (k + j) l hk, vl_take_succ b ys j hj, ← Nat.add_assoc, Int.pow_succ]
    have e1 : b ^ k * (X * (vl b (ys.take j) + b ^ j * ys.getD j 0)) = b ^ k * (X * vl b (ys.take j)) + b ^ (k + j) * (X * ys.getD j 0) := by
      rw [Int.mul_add, Int.mul_add, Int.pow_add, Int.mul_left_comm X (b ^ j), Int.mul_assoc (b ^ k)]
    rw [e1]
    have e2 : b ^ (k + j) * b * h = b ^ (k + j) * (h * b) := by rw [Int.mul_assoc, Int.mul_comm b h]
    rw [e2, show h * b = X * ys.getD j 0 + ts.getD (k + j) 0 + c - l by omega]
    simp only [Int.mul_sub, Int.mul_add]
    omega
  · rw [← r6 i (by omega)]
    simp only [List.getD_eq_getElem?_getD]
    rw [List.getElem?_set_ne (by omega)]

theorem Row.fin {b : Int} {ys ts0 ts : List Int} {X : Int} {k : Nat} {c : Int} (r : Row b ys ts0 X k ys.length ts c) (hk : k + ys.length < ts.length) (hz : ts0.getD (k + ys.length) 0 = 0) :
    vl b (ts.set (k + ys.length) c) = vl b ts0 + b ^ k * (X * vl b ys) ∧ Dg b (ts.set (k + ys.length) c) := by
  obtain ⟨r1, r2, r3, r4, r5, r6⟩ := r
  refine ⟨?_, r2.set _ _ r3 r4⟩
  rw [vl_set b ts _ c hk, r6 _ (Nat.le_refl _), hz, ← show vl b ts + b ^ (k + ys.length) * c = vl b ts0 + b ^ k * (X * vl b ys) by rw [r5, List.take_of_length_le (Nat.le_refl _)]]
  simp
end Go.Proofs.YtfpifbfnebfdaaaDoor
