/- A number in plain words: the states, and the parts one behind the other, are the same. -/
import Derived.Test.YtfpifbfnebfdaaaDoorC1
namespace Go.Proofs.YtfpifbfnebfdaaaDoor
theorem stI_dead (c : Int) : stI (-1) c = -1 := by
  unfold stI; repeat' split
  all_goals omega
theorem stL_dead : ∀ l : List Int, stL (-1) l = -1
  | [] => rfl
  | c :: l => by
    show stL (stI (-1) c) l = -1
    rw [stI_dead]; exact stL_dead l
theorem stL_cons (a c : Int) (l : List Int) : stL a (c :: l) = stL (stI a c) l := rfl
theorem drop_tw {p : Int → Bool} : ∀ l : List Int, ∀ c r, l.drop (tw p l) = c :: r → p c = false
  | [], c, r, h => by simp at h
  | x :: l, c, r, h => by
    rw [tw_cons] at h
    by_cases hx : p x = true
    · rw [if_pos hx, List.drop_succ_cons] at h
      exact drop_tw l c r h
    · rw [if_neg hx, List.drop_zero] at h
      injection h with h1 h2
      subst h1
      simpa using hx
/-- Digits from a state on lead to another one, and stay there. -/
theorem stL_run {a d : Int} (h1 : ∀ c, dgB c = true → stI a c = d) (h2 : ∀ c, dgB c = true → stI d c = d) : ∀ l : List Int, stL a l = stL (if tw dgB l = 0 then a else d) (l.drop (tw dgB l))
  | [] => rfl
  | x :: l => by
    rw [tw_cons]
    by_cases hx : dgB x = true
    · rw [if_pos hx, if_neg (by omega), List.drop_succ_cons, stL_cons, h1 x hx, stL_run h2 h2 l]
      split <;> rfl
    · rw [if_neg hx, if_pos rfl, List.drop_zero]
theorem run_head {a : Int} (ha : a = 0 ∨ a = 1 ∨ a = 2) (l : List Int) : stL a l = stL (if tw dgB l = 0 then a else 2) (l.drop (tw dgB l)) :=
  stL_run (fun c hc => by unfold stI; rw [if_pos hc, if_pos (by omega)]) (fun c hc => by unfold stI; rw [if_pos hc, if_pos (by omega)]) l
theorem run_part {a : Int} (ha : a = 3 ∨ a = 4) (l : List Int) : stL a l = stL (if tw dgB l = 0 then a else 4) (l.drop (tw dgB l)) :=
  stL_run (fun c hc => by unfold stI; rw [if_pos hc, if_neg (by omega), if_pos ha]) (fun c hc => by unfold stI; rw [if_pos hc, if_neg (by omega), if_pos (by omega)]) l
theorem run_power {a : Int} (ha : a = 5 ∨ a = 6 ∨ a = 7) (l : List Int) : stL a l = stL (if tw dgB l = 0 then a else 7) (l.drop (tw dgB l)) :=
  stL_run (fun c hc => by unfold stI; rw [if_pos hc, if_neg (by omega), if_neg (by omega), if_pos (by omega)]) (fun c hc => by unfold stI; rw [if_pos hc, if_neg (by omega), if_neg (by omega), if_pos (by omega)]) l
/-- Is a sign ahead? -/
def sg9 (l : List Int) : Nat := if l.getD 0 0 = 43 ∨ l.getD 0 0 = 45 then 1 else 0
theorem sg9_le (l : List Int) : sg9 l ≤ l.length := by
  unfold sg9
  cases l with
  | nil => simp
  | cons c l => split <;> simp
theorem dg_sign : dgB 43 = false ∧ dgB 45 = false ∧ dgB 46 = false ∧ dgB 101 = false ∧ dgB 69 = false := ⟨rfl, rfl, rfl, rfl, rfl⟩
theorem run_sign {a d : Int} (h43 : stI a 43 = d) (h45 : stI a 45 = d) (l : List Int) : stL a l = stL (if sg9 l = 1 then d else a) (l.drop (sg9 l)) := by
  unfold sg9
  cases l with
  | nil => rfl
  | cons c l =>
    simp only [List.getD_cons_zero]
    by_cases h : c = 43 ∨ c = 45
    · rw [if_pos h, if_pos rfl, List.drop_succ_cons, List.drop_zero, stL_cons]
      rcases h with rfl | rfl
      · rw [h43]
      · rw [h45]
    · rw [if_neg h, if_neg (by omega), List.drop_zero]
/-- Digits of a power, and nothing behind. -/
theorem ok_power {a : Int} {l : List Int} (ha : a = 6 ∨ a = 5 ∧ sg9 l = 0) : okS (stL a l) = (decide (tw dgB l ≠ 0) && decide (tw dgB l = l.length)) := by
  rw [run_power (by omega) l]
  by_cases h0 : tw dgB l = 0
  · rw [if_pos h0, h0, List.drop_zero]
    have h1 : okS (stL a l) = false := by
      cases l with
      | nil => rcases ha with rfl | ⟨rfl, _⟩ <;> rfl
      | cons c r =>
        have hc : dgB c = false := drop_tw (p := dgB) (c :: r) c r (by rw [h0]; rfl)
        rw [stL_cons]
        have h2 : stI a c = -1 := by
          unfold stI
          rw [if_neg (by rw [hc]; simp)]
          have hsg : a = 5 → ¬ (c = 43 ∨ c = 45) := fun h5 hcs => by
            rcases ha with ha | ⟨_, ha⟩
            · omega
            · unfold sg9 at ha
              simp only [List.getD_cons_zero] at ha
              rw [if_pos hcs] at ha
              omega
          by_cases h3 : c = 43 ∨ c = 45
          · rw [if_pos h3, if_neg (by omega), if_neg (fun h5 => hsg h5 h3)]
          · rw [if_neg h3]
            by_cases h4 : c = 46
            · rw [if_pos h4, if_neg (by omega), if_neg (by omega)]
            · rw [if_neg h4, if_neg (by omega)]
        rw [h2, stL_dead]; rfl
    rw [h1]; simp
  · rw [if_neg h0]
    cases hd : l.drop (tw dgB l) with
    | nil =>
      have := congrArg List.length hd
      rw [List.length_drop] at this
      have h2 := tw_le dgB l
      rw [decide_eq_true h0, decide_eq_true (by simp at this; omega)]; rfl
    | cons c r =>
      have hc := drop_tw l c r hd
      have hl : tw dgB l ≠ l.length := fun e => by
        rw [e, List.drop_length] at hd; cases hd
      rw [decide_eq_false hl, Bool.and_false, stL_cons]
      have : stI 7 c = -1 := by
        unfold stI
        rw [if_neg (by rw [hc]; simp)]
        repeat' split
        all_goals omega
      rw [this, stL_dead]; rfl
/-- What stands behind an e: maybe a sign, and digits to the end. -/
def powB (r : List Int) : Bool := decide (tw dgB (r.drop (sg9 r)) ≠ 0) && decide (tw dgB (r.drop (sg9 r)) = (r.drop (sg9 r)).length)
theorem ok_e (r : List Int) : okS (stL 5 r) = powB r := by
  rw [run_sign (a := 5) (d := 6) rfl rfl r]
  unfold powB
  by_cases h : sg9 r = 1
  · rw [if_pos h]; exact ok_power (Or.inl rfl)
  · rw [if_neg h]
    have h0 : sg9 r = 0 := by unfold sg9 at h ⊢; split <;> simp_all
    rw [h0, List.drop_zero]
    exact ok_power (Or.inr ⟨rfl, h0⟩)
/-- What stands behind the digits: nothing, or a power. -/
def endB : List Int → Bool
  | [] => true
  | c :: r => if c = 101 ∨ c = 69 then powB r else false
theorem endB_cons (c : Int) (r : List Int) : endB (c :: r) = if c = 101 ∨ c = 69 then powB r else false := rfl
theorem ok_end {a : Int} (ha : a = 2 ∨ a = 4) {l : List Int} (hd : ∀ c r, l = c :: r → dgB c = false ∧ (a = 2 → c ≠ 46)) : okS (stL a l) = endB l := by
  cases l with
  | nil => rcases ha with rfl | rfl <;> rfl
  | cons c r =>
    obtain ⟨h1, h2⟩ := hd c r rfl
    rw [stL_cons, endB_cons]
    by_cases he : c = 101 ∨ c = 69
    · rw [if_pos he]
      have h3 : stI a c = 5 := by
        unfold stI
        rw [if_neg (by rw [h1]; simp), if_neg (by omega), if_neg (by omega), if_pos ⟨he, ha⟩]
      rw [h3, ok_e]
    · rw [if_neg he]
      have h3 : stI a c = -1 := by
        unfold stI
        rw [if_neg (by rw [h1]; simp)]
        by_cases h4 : c = 43 ∨ c = 45
        · rw [if_pos h4, if_neg (by omega), if_neg (by omega)]
        · rw [if_neg h4]
          by_cases h5 : c = 46
          · rw [if_pos h5, if_neg (by omega), if_neg (fun h => h2 h h5)]
          · rw [if_neg h5, if_neg (fun h => he h.1)]
      rw [h3, stL_dead]; rfl
theorem not_end {a : Int} (ha : a = 0 ∨ a = 1 ∨ a = 3) {l : List Int} (hd : ∀ c r, l = c :: r → dgB c = false ∧ (a ≠ 3 → c ≠ 46) ∧ (a = 0 → c ≠ 43 ∧ c ≠ 45)) : okS (stL a l) = false := by
  cases l with
  | nil => rcases ha with rfl | rfl | rfl <;> rfl
  | cons c r =>
    obtain ⟨h1, h2, h3⟩ := hd c r rfl
    rw [stL_cons]
    have h4 : stI a c = -1 := by
      unfold stI
      rw [if_neg (by rw [h1]; simp)]
      by_cases h4 : c = 43 ∨ c = 45
      · rw [if_pos h4, if_neg (fun h => by have := h3 h; omega), if_neg (by omega)]
      · rw [if_neg h4]
        by_cases h5 : c = 46
        · have : a = 3 := by
            rcases ha with h | h | h
            · exact absurd h5 (h2 (by omega))
            · exact absurd h5 (h2 (by omega))
            · exact h
          rw [if_pos h5, if_neg (by omega), if_neg (by omega)]
        · rw [if_neg h5, if_neg (by omega)]
    rw [h4, stL_dead]; rfl
/-- The state behind the sign and the digits, and what is left. -/
theorem st_front (b : List Int) : ∃ a : Int, stL 0 b = stL a ((b.drop (sg9 b)).drop (tw dgB (b.drop (sg9 b)))) ∧ (tw dgB (b.drop (sg9 b)) ≠ 0 ∧ a = 2 ∨ tw dgB (b.drop (sg9 b)) = 0 ∧ (a = 1 ∨ a = 0 ∧ sg9 b = 0)) := by
  rw [run_sign (a := 0) (d := 1) rfl rfl b]
  by_cases h : sg9 b = 1
  · rw [if_pos h, run_head (by omega)]
    refine ⟨_, rfl, ?_⟩
    by_cases h0 : tw dgB (b.drop (sg9 b)) = 0
    · rw [if_pos h0]; exact Or.inr ⟨h0, Or.inl rfl⟩
    · rw [if_neg h0]; exact Or.inl ⟨h0, rfl⟩
  · have hs : sg9 b = 0 := by unfold sg9 at h ⊢; split <;> simp_all
    rw [if_neg h, run_head (by omega)]
    refine ⟨_, rfl, ?_⟩
    by_cases h0 : tw dgB (b.drop (sg9 b)) = 0
    · rw [if_pos h0]; exact Or.inr ⟨h0, Or.inr ⟨rfl, hs⟩⟩
    · rw [if_neg h0]; exact Or.inl ⟨h0, rfl⟩
/-- A number with a point. -/
theorem rgt_dot {b l3 : List Int} (h : (b.drop (sg9 b)).drop (tw dgB (b.drop (sg9 b))) = 46 :: l3) : rgtB b = (decide (tw dgB (b.drop (sg9 b)) + tw dgB l3 ≠ 0) && endB (l3.drop (tw dgB l3))) := by
  obtain ⟨a, h1, h2⟩ := st_front b
  have hd : ∀ c r, l3.drop (tw dgB l3) = c :: r → dgB c = false := fun c r hc => drop_tw l3 c r hc
  unfold rgtB
  rw [h1, h, stL_cons]
  have h3 : stI a 46 = if a = 2 then 4 else 3 := by
    rcases h2 with ⟨_, rfl⟩ | ⟨_, rfl | ⟨rfl, _⟩⟩ <;> rfl
  rw [h3]
  by_cases ha : a = 2
  · have hn : tw dgB (b.drop (sg9 b)) ≠ 0 := by
      rcases h2 with ⟨h, _⟩ | ⟨_, h | ⟨h, _⟩⟩
      · exact h
      · omega
      · omega
    rw [if_pos ha, run_part (by omega), decide_eq_true (by omega), Bool.true_and]
    have e : (if tw dgB l3 = 0 then (4 : Int) else 4) = 4 := by split <;> rfl
    rw [e]
    exact ok_end (by omega) (fun c r hc => ⟨hd c r hc, fun h => by omega⟩)
  · have hn : tw dgB (b.drop (sg9 b)) = 0 := by
      rcases h2 with ⟨_, h⟩ | ⟨h, _⟩
      · exact absurd h ha
      · exact h
    rw [if_neg ha, run_part (by omega)]
    by_cases h0 : tw dgB l3 = 0
    · rw [if_pos h0, decide_eq_false (by omega), Bool.false_and]
      exact not_end (by omega) (fun c r hc => ⟨hd c r hc, fun h => by omega, fun h => by omega⟩)
    · rw [if_neg h0, decide_eq_true (by omega), Bool.true_and]
      exact ok_end (by omega) (fun c r hc => ⟨hd c r hc, fun h => by omega⟩)
/-- A number without a point. -/
theorem rgt_whole {b : List Int} (h : ∀ r, (b.drop (sg9 b)).drop (tw dgB (b.drop (sg9 b))) ≠ 46 :: r) : rgtB b = (decide (tw dgB (b.drop (sg9 b)) ≠ 0) && endB ((b.drop (sg9 b)).drop (tw dgB (b.drop (sg9 b))))) := by
  obtain ⟨a, h1, h2⟩ := st_front b
  have hd : ∀ c r, (b.drop (sg9 b)).drop (tw dgB (b.drop (sg9 b))) = c :: r → dgB c = false := fun c r hc => drop_tw _ c r hc
  unfold rgtB
  rw [h1]
  rcases h2 with ⟨hn, rfl⟩ | ⟨hn, ha⟩
  · rw [decide_eq_true hn, Bool.true_and]
    exact ok_end (by omega) (fun c r hc => ⟨hd c r hc, fun _ e => h r (by rw [hc, e])⟩)
  · rw [decide_eq_false (by omega), Bool.false_and]
    refine not_end (by omega) (fun c r hc => ⟨hd c r hc, fun _ e => h r (by rw [hc, e]), fun h0 => ?_⟩)
    have hs : sg9 b = 0 := by rcases ha with ha | ⟨_, hs⟩ <;> omega
    rw [hn, hs] at hc
    simp only [List.drop_zero] at hc
    have h3 := hs
    unfold sg9 at h3
    rw [hc] at h3
    simp only [List.getD_cons_zero] at h3
    by_cases h4 : c = 43 ∨ c = 45
    · rw [if_pos h4] at h3; omega
    · omega
theorem getD_outS {l : List Int} {k : Nat} (h : l.length ≤ k) : l.getD k 0 = 0 := by
  rw [List.getD_eq_getElem?_getD, List.getElem?_eq_none h]; rfl
theorem tw_of {p : Int → Bool} : ∀ {l : List Int} {m : Nat}, m ≤ l.length → (∀ j, j < m → p (l.getD j 0) = true) → (m = l.length ∨ p (l.getD m 0) = false) → tw p l = m
  | [], m, h, _, _ => by simp at h; subst h; rfl
  | c :: l, 0, _, _, h => by
    rw [tw_cons, if_neg]
    rcases h with h | h
    · simp at h
    · simpa using h
  | c :: l, m + 1, h, h1, h2 => by
    have hc : p c = true := by simpa using h1 0 (by omega)
    rw [tw_cons, if_pos hc, tw_of (m := m) (by simpa using h) (fun j hj => by simpa using h1 (j + 1) (by omega)) (by simpa using h2)]
theorem getD_dropS {l : List Int} {m i : Nat} : (l.drop m).getD i 0 = l.getD (m + i) 0 := by
  simp only [List.getD_eq_getElem?_getD, List.getElem?_drop]
/-- A run from place q on ends at k. -/
theorem tw_run {p : Int → Bool} {b : List Int} {q k : Nat} (h1 : q ≤ k) (h2 : k ≤ b.length) (h3 : ∀ j, q ≤ j → j < k → p (b.getD j 0) = true) (h4 : k = b.length ∨ p (b.getD k 0) = false) : tw p (b.drop q) = k - q := by
  refine tw_of (by rw [List.length_drop]; omega) (fun j hj => by rw [getD_dropS]; exact h3 _ (by omega) (by omega)) ?_
  rw [List.length_drop, getD_dropS, show q + (k - q) = k by omega]
  rcases h4 with h4 | h4
  · exact Or.inl (by omega)
  · exact Or.inr h4
theorem sgB_letter {c : Int} (h : ltB c = true) : dgB c = false ∧ (c == 43) = false ∧ (c == 45) = false ∧ (c == 46) = false := by
  unfold ltB at h
  unfold dgB
  simp at h ⊢
  omega
theorem sgB_false {c : Int} (h : sgB c = false) : dgB c = false ∧ (c == 43) = false ∧ (c == 45) = false ∧ (c == 46) = false := by
  unfold sgB at h
  simp only [Bool.or_eq_false_iff] at h
  exact ⟨h.1.1.1, h.1.1.2, h.1.2, h.2⟩
end Go.Proofs.YtfpifbfnebfdaaaDoor
