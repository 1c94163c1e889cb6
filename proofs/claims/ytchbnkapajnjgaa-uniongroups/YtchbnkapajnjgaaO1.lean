/- Sets in plain words: of each number the least one of its set. -/
namespace Go.Proofs.Ytchbnkapajnjgaa
/-- Each by itself. -/
def rng (n : Nat) : List Int := (List.range n).map fun i : Nat => Int.ofNat i
theorem rng_len (n : Nat) : (rng n).length = n := by simp [rng]
theorem rng_at {n i : Nat} (h : i < n) : (rng n).getD i 0 = (i : Int) := by simp [rng, List.getD, h]
theorem rng_succ (n : Nat) : rng (n + 1) = rng n ++ [(n : Int)] := by simp [rng, List.range_succ]
/-- Of each number the least one of its set. -/
def Lea (x : List Int) : Prop := ∀ i, i < x.length → 0 ≤ x.getD i 0 ∧ x.getD i 0 ≤ i ∧ x.getD (x.getD i 0).toNat 0 = x.getD i 0
theorem rng_zero : rng 0 = [] := rfl
theorem rng_lea (n : Nat) : Lea (rng n) := fun i hi => by
  rw [rng_len] at hi
  rw [rng_at hi]
  exact ⟨by omega, Int.le_refl _, by rw [show ((i : Int)).toNat = i by omega, rng_at hi]⟩
theorem Lea.tail {x : List Int} (h : Lea x) {i : Nat} (hi : i < x.length) : ∃ j : Nat, x.getD i 0 = j ∧ j ≤ i ∧ x.getD j 0 = j := by
  obtain ⟨h1, h2, h3⟩ := h i hi
  refine ⟨(x.getD i 0).toNat, by omega, by omega, ?_⟩
  rw [h3]; omega
/-- Two sets are one. -/
def jn (x : List Int) (a b : Nat) : List Int :=
  x.map fun z => if z = max (x.getD a 0) (x.getD b 0) then min (x.getD a 0) (x.getD b 0) else z
theorem jn_len (x : List Int) (a b : Nat) : (jn x a b).length = x.length := by simp [jn]
theorem jn_at {x : List Int} {a b i : Nat} (h : i < x.length) : (jn x a b).getD i 0 = if x.getD i 0 = max (x.getD a 0) (x.getD b 0) then min (x.getD a 0) (x.getD b 0) else x.getD i 0 := by
  have e : (jn x a b).getD i 0 = (fun z => if z = max (x.getD a 0) (x.getD b 0) then min (x.getD a 0) (x.getD b 0) else z) (x.getD i 0) := by
    unfold jn
    simp only [List.getD_eq_getElem?_getD, List.getElem?_map, List.getElem?_eq_getElem h, Option.map_some, Option.getD_some]
  rw [e]
theorem jn_same {x : List Int} {a b : Nat} (h : x.getD a 0 = x.getD b 0) : jn x a b = x := by
  unfold jn
  rw [h]
  simp only [Int.max_self, Int.min_self]
  conv => rhs; rw [← List.map_id x]
  refine List.map_congr_left fun z _ => ?_
  by_cases e : z = x.getD b 0
  · rw [if_pos e]; exact e.symm
  · rw [if_neg e]; rfl
theorem jn_lea {x : List Int} {a b : Nat} (h : Lea x) (ha : a < x.length) (hb : b < x.length) : Lea (jn x a b) := fun i hi => by
  rw [jn_len] at hi
  obtain ⟨p, p1, p2, p3⟩ := h.tail ha
  obtain ⟨q, q1, q2, q3⟩ := h.tail hb
  obtain ⟨r, r1, r2, r3⟩ := h.tail hi
  rw [jn_at hi, p1, q1, r1]
  by_cases e : (r : Int) = max (p : Int) q
  · rw [if_pos e]
    refine ⟨by omega, by omega, ?_⟩
    rcases Nat.le_total p q with hpq | hpq
    · rw [show min (p : Int) q = p by omega, show ((p : Int)).toNat = p by omega, jn_at (by omega), p1, q1, p3]
      split <;> omega
    · rw [show min (p : Int) q = q by omega, show ((q : Int)).toNat = q by omega, jn_at (by omega), p1, q1, q3]
      split <;> omega
  · rw [if_neg e, show ((r : Int)).toNat = r by omega]
    refine ⟨by omega, by omega, ?_⟩
    rw [jn_at (by omega), p1, q1, r3, if_neg e]
/-- Two are in one set behind a join: just if they were, or each is in one of the two. -/
theorem jn_one {x : List Int} {a b i j : Nat} (hi : i < x.length) (hj : j < x.length) :
    (jn x a b).getD i 0 = (jn x a b).getD j 0 ↔ x.getD i 0 = x.getD j 0 ∨ ((x.getD i 0 = x.getD a 0 ∨ x.getD i 0 = x.getD b 0) ∧ (x.getD j 0 = x.getD a 0 ∨ x.getD j 0 = x.getD b 0)) := by
  rw [jn_at hi, jn_at hj]
  split <;> split <;> omega
/-- How many of the first m are least ones. -/
def cntU (x : List Int) : Nat → Nat
  | 0 => 0
  | m + 1 => cntU x m + if x.getD m 0 = m then 1 else 0
theorem cntU_le (x : List Int) : ∀ m, cntU x m ≤ m
  | 0 => Nat.le_refl _
  | m + 1 => by
    have := cntU_le x m
    unfold cntU
    split <;> omega
theorem cntU_mono (x : List Int) {m m' : Nat} (h : m ≤ m') : cntU x m ≤ cntU x m' := by
  induction h with
  | refl => exact Nat.le_refl _
  | step _ ih => exact Nat.le_trans ih (by rw [cntU.eq_2]; exact Nat.le_add_right _ _)
theorem cntU_rng {n m : Nat} (h : m ≤ n) : cntU (rng n) m = m := by
  induction m with
  | zero => rfl
  | succ m ih => unfold cntU; rw [ih (by omega), rng_at (by omega), if_pos rfl]
/-- Of each number how many least ones stand ahead of its own. -/
def nums (x : List Int) : List Int := x.map fun z => (cntU x z.toNat : Int)
theorem nums_len (x : List Int) : (nums x).length = x.length := by simp [nums]
theorem nums_at {x : List Int} {i : Nat} (h : i < x.length) : (nums x).getD i 0 = (cntU x (x.getD i 0).toNat : Int) := by simp [nums, List.getD, h]
/-- How many have the least number z, of the first m. -/
def siz (x : List Int) (z : Int) : Nat → Nat
  | 0 => 0
  | m + 1 => siz x z m + if x.getD m 0 = z then 1 else 0
theorem siz_le (x : List Int) (z : Int) : ∀ m, siz x z m ≤ m
  | 0 => Nat.le_refl _
  | m + 1 => by
    have := siz_le x z m
    unfold siz
    split <;> omega
/-- Those of the least number z, from place i on, of the first m. -/
def grp (x : List Int) (z : Int) (m : Nat) : List Int := (rng m).filter fun i => x.getD i.toNat 0 == z
theorem grp_succ (x : List Int) (z : Int) (m : Nat) : grp x z (m + 1) = if x.getD m 0 = z then grp x z m ++ [(m : Int)] else grp x z m := by
  unfold grp
  rw [rng_succ, List.filter_append]
  by_cases h : x.getD m 0 = z
  · rw [if_pos h, List.filter_cons_of_pos (by simpa using h)]; simp
  · rw [if_neg h, List.filter_cons_of_neg (by simpa using h)]; simp
theorem grp_len (x : List Int) (z : Int) : ∀ m, (grp x z m).length = siz x z m
  | 0 => by unfold grp; rw [rng_zero]; rfl
  | m + 1 => by
    rw [grp_succ, siz]
    split
    · rw [List.length_append, grp_len x z m]; rfl
    · rw [grp_len x z m]; rfl
end Go.Proofs.Ytchbnkapajnjgaa
