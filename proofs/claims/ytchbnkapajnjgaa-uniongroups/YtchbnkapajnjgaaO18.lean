/- The sets one by one, in plain words: each list of numbers, and how many they have together. -/
import Derived.Test.YtchbnkapajnjgaaO4
namespace Go.Proofs.Ytchbnkapajnjgaa
/-- l is the least number of set number j. -/
structure LeAt (x : List Int) (j l : Nat) : Prop where
  lt : l < x.length
  least : x.getD l 0 = l
  num : cntU x l = j
theorem cnt_least (x : List Int) {j : Nat} : ∀ M, M ≤ x.length → j < cntU x M → ∃ l, LeAt x j l
  | 0, _, h => by simp [cntU] at h
  | M + 1, hM, h => by
    by_cases h1 : j < cntU x M
    · exact cnt_least x M (by omega) h1
    · unfold cntU at h
      by_cases h2 : x.getD M 0 = M
      · rw [if_pos h2] at h
        exact ⟨M, by omega, h2, by omega⟩
      · rw [if_neg h2] at h; omega
theorem LeAt.mono {x : List Int} {j j' l l' : Nat} (h : LeAt x j l) (h' : LeAt x j' l') (hj : j < j') : l < l' := by
  rcases Nat.lt_or_ge l l' with h1 | h1
  · exact h1
  · have := cntU_mono x h1
    rw [h.num, h'.num] at this
    omega
theorem LeAt.one {x : List Int} {j l l' : Nat} (h : LeAt x j l) (h' : LeAt x j l') : l = l' := by
  have key : ∀ p q : Nat, LeAt x j p → LeAt x j q → ¬ p < q := fun p q hp hq hlt => by
    have h1 := cntU_mono x (show p + 1 ≤ q by omega)
    rw [cntU, if_pos hp.least, hp.num, hq.num] at h1
    omega
  rcases Nat.lt_trichotomy l l' with h1 | h1 | h1
  · exact absurd h1 (key _ _ h h')
  · exact h1
  · exact absurd h1 (key _ _ h' h)
/-- A number's set's number, and its least one. -/
theorem nums_least {x : List Int} (hl : Lea x) {i : Nat} (hi : i < x.length) : ∃ j l : Nat, (nums x).getD i 0 = j ∧ x.getD i 0 = l ∧ l ≤ i ∧ LeAt x j l ∧ j < cntU x x.length := by
  obtain ⟨p, hp, hp1, hp2⟩ := hl.tail hi
  refine ⟨cntU x p, p, ?_, hp, hp1, ⟨by omega, hp2, rfl⟩, ?_⟩
  · rw [nums_at hi, hp]; rfl
  · have h1 := cntU_mono x (show p + 1 ≤ x.length by omega)
    rw [cntU, if_pos hp2] at h1
    omega
theorem mem_grp {y : List Int} {z a : Int} {m : Nat} (h : a ∈ grp y z m) : ∃ i : Nat, a = i ∧ i < m ∧ y.getD i 0 = z := by
  unfold grp rng at h
  rw [List.mem_filter, List.mem_map] at h
  obtain ⟨⟨i, hi, rfl⟩, h2⟩ := h
  rw [List.mem_range] at hi
  exact ⟨i, rfl, hi, by simpa using h2⟩
theorem grp_rise (y : List Int) (z : Int) : ∀ m, (grp y z m).Pairwise (· < ·)
  | 0 => by unfold grp; rw [rng_zero]; exact List.Pairwise.nil
  | m + 1 => by
    rw [grp_succ]
    split
    · rw [List.pairwise_append]
      refine ⟨grp_rise y z m, List.pairwise_singleton _ _, fun a ha b hb => ?_⟩
      obtain ⟨i, rfl, hi, _⟩ := mem_grp ha
      simp at hb
      omega
    · exact grp_rise y z m
theorem grp_has {y : List Int} {z : Int} {m i : Nat} (hi : i < m) (h : y.getD i 0 = z) : (i : Int) ∈ grp y z m := by
  unfold grp rng
  rw [List.mem_filter, List.mem_map]
  exact ⟨⟨i, by simpa using hi, rfl⟩, by simpa using h⟩
theorem getD_mem {l : List Int} {i : Nat} (hi : i < l.length) : l.getD i 0 ∈ l := by
  simp only [List.getD, List.getElem?_eq_getElem hi, Option.getD_some]; exact List.getElem_mem hi
/-- What a set that is told is like. -/
structure GrpOk (x : List Int) (l : Nat) (L : List Int) : Prop where
  pos : 0 < L.length
  first : L.getD 0 0 = l
  all : ∀ i, i < L.length → ∃ b : Nat, L.getD i 0 = b ∧ b < x.length ∧ x.getD b 0 = l
  rise : ∀ i, i + 1 < L.length → L.getD i 0 < L.getD (i + 1) 0
theorem grp_ok {x : List Int} (hl : Lea x) {j l : Nat} (h : LeAt x j l) : GrpOk x l (grp (nums x) j x.length) := by
  have hm : (l : Int) ∈ grp (nums x) j x.length := grp_has h.lt (by rw [nums_at h.lt, h.least, Int.toNat_natCast, h.num])
  have hr := grp_rise (nums x) (j : Int) x.length
  have hall : ∀ a ∈ grp (nums x) (j : Int) x.length, ∃ b : Nat, a = b ∧ b < x.length ∧ x.getD b 0 = l := fun a ha => by
    obtain ⟨i, rfl, hi, hn⟩ := mem_grp ha
    obtain ⟨j', l', h1, h2, h3, h4, _⟩ := nums_least hl hi
    have : j' = j := by omega
    subst this
    exact ⟨i, rfl, hi, by rw [h2, h4.one h]⟩
  have hp : 0 < (grp (nums x) (j : Int) x.length).length := List.length_pos_of_mem hm
  refine ⟨hp, ?_, fun i hi => hall _ (getD_mem hi), fun i hi => ?_⟩
  · obtain ⟨b, h1, h2, h3⟩ := hall _ (getD_mem hp)
    have h4 := (hl b h2).2.1
    rw [h3] at h4
    have h5 : (grp (nums x) (j : Int) x.length).getD 0 0 ≤ l := by
      cases hg : grp (nums x) (j : Int) x.length with
      | nil => rw [hg] at hp; simp at hp
      | cons y ys =>
        rw [hg] at hm hr
        rcases List.mem_cons.1 hm with e | e
        · rw [e]; exact Int.le_refl _
        · have := (List.pairwise_cons.1 hr).1 _ e
          simp only [List.getD_cons_zero]
          omega
    omega
  · have := List.pairwise_iff_getElem.1 hr i (i + 1) (by omega) hi (by omega)
    simpa [List.getD, hi, show i < (grp (nums x) (j : Int) x.length).length by omega] using this
/-- How many numbers the first c sets have. -/
def tots (y : List Int) (m : Nat) : Nat → Nat
  | 0 => 0
  | c + 1 => tots y m c + (grp y c m).length
theorem tots_zero (y : List Int) : ∀ c, tots y 0 c = 0
  | 0 => rfl
  | c + 1 => by rw [tots, tots_zero y c, grp_len]; rfl
theorem tots_succ {y : List Int} {m k : Nat} (h : y.getD m 0 = k) : ∀ c, tots y (m + 1) c = tots y m c + if k < c then 1 else 0
  | 0 => by simp [tots]
  | c + 1 => by
    rw [tots, tots, tots_succ h c, grp_len, grp_len, siz, h]
    split <;> split <;> (try split) <;> omega
theorem tots_all {y : List Int} {C : Nat} : ∀ m, (∀ i, i < m → ∃ k : Nat, y.getD i 0 = k ∧ k < C) → tots y m C = m
  | 0, _ => tots_zero y C
  | m + 1, h => by
    obtain ⟨k, h1, h2⟩ := h m (by omega)
    rw [tots_succ h1, tots_all m (fun i hi => h i (by omega)), if_pos h2]
theorem tots_nums {x : List Int} (hl : Lea x) : tots (nums x) x.length (cntU x x.length) = x.length :=
  tots_all _ fun i hi => by
    obtain ⟨j, l, h1, _, _, _, h2⟩ := nums_least hl hi
    exact ⟨j, h1, h2⟩
theorem tots_mono (y : List Int) (m : Nat) {c c' : Nat} (h : c ≤ c') : tots y m c ≤ tots y m c' := by
  induction h with
  | refl => exact Nat.le_refl _
  | step _ ih => exact Nat.le_trans ih (by rw [tots]; exact Nat.le_add_right _ _)
end Go.Proofs.Ytchbnkapajnjgaa
