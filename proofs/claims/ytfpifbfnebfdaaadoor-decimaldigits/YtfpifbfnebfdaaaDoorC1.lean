/- Tokens in plain words: bytes as ints, numbers state by state, the tokens of a text. -/
namespace Go.Proofs.YtfpifbfnebfdaaaDoor
/-- A digit. -/
def dgB (c : Int) : Bool := decide (48 ≤ c) && decide (c ≤ 57)
/-- A letter. -/
def ltB (c : Int) : Bool := (decide (97 ≤ c) && decide (c ≤ 122)) || (decide (65 ≤ c) && decide (c ≤ 90))
/-- A blank. -/
def bkB (c : Int) : Bool := c == 32 || c == 9 || c == 13 || c == 10
/-- What a number begins with. -/
def sgB (c : Int) : Bool := dgB c || c == 43 || c == 45 || c == 46
/-- What a number goes on with. -/
def cnB (c : Int) : Bool := sgB c || c == 101 || c == 69
/-- The next state. -/
def stI (a c : Int) : Int :=
  if dgB c = true then (if 0 ≤ a ∧ a ≤ 2 then 2 else if a = 3 ∨ a = 4 then 4 else if 5 ≤ a then 7 else -1)
  else if c = 43 ∨ c = 45 then (if a = 0 then 1 else if a = 5 then 6 else -1)
  else if c = 46 then (if a = 0 ∨ a = 1 then 3 else if a = 2 then 4 else -1)
  else if (c = 101 ∨ c = 69) ∧ (a = 2 ∨ a = 4) then 5 else -1
/-- The state behind a text. -/
def stL (a : Int) (l : List Int) : Int := l.foldl stI a
/-- Is it one of the last states? -/
def okS (a : Int) : Bool := a == 2 || a == 4 || a == 7
/-- A number. -/
def rgtB (l : List Int) : Bool := okS (stL 0 l)
theorem stL_snoc (a : Int) (l : List Int) (c : Int) : stL a (l ++ [c]) = stI (stL a l) c := by simp [stL]
theorem stL_app (a : Int) (l r : List Int) : stL a (l ++ r) = stL (stL a l) r := by simp [stL]
theorem stI_range (a c : Int) : -1 ≤ stI a c ∧ stI a c ≤ 7 := by
  unfold stI; repeat' split
  all_goals omega
theorem stL_range : ∀ (l : List Int) {a : Int}, -1 ≤ a ∧ a ≤ 7 → -1 ≤ stL a l ∧ stL a l ≤ 7
  | [], _, h => h
  | c :: l, a, _ => stL_range l (stI_range a c)
/-- How many at the beginning are like that. -/
def tw (p : Int → Bool) (l : List Int) : Nat := (l.takeWhile p).length
theorem tw_le (p : Int → Bool) (l : List Int) : tw p l ≤ l.length := (List.takeWhile_sublist p).length_le
theorem tw_nil (p : Int → Bool) : tw p [] = 0 := rfl
theorem tw_cons (p : Int → Bool) (c : Int) (l : List Int) : tw p (c :: l) = if p c = true then tw p l + 1 else 0 := by
  unfold tw
  rw [List.takeWhile_cons]
  split <;> simp
/-- The kind (0: none) and the length of the token that begins a text. -/
def tk1 : List Int → Nat × Nat
  | [] => (0, 0)
  | c :: r =>
    if ltB c = true then (1, tw ltB r + 1)
    else if sgB c = true then (if rgtB ((c :: r).take (tw cnB r + 1)) = true then 2 else 0, tw cnB r + 1)
    else (if c = 40 then 3 else if c = 41 then 4 else if c = 44 then 5 else 0, 1)
theorem tk1_cons (c : Int) (r : List Int) : tk1 (c :: r) = if ltB c = true then (1, tw ltB r + 1)
    else if sgB c = true then (if rgtB ((c :: r).take (tw cnB r + 1)) = true then 2 else 0, tw cnB r + 1)
    else (if c = 40 then 3 else if c = 41 then 4 else if c = 44 then 5 else 0, 1) := rfl
theorem tk1_pos (c : Int) (r : List Int) : 0 < (tk1 (c :: r)).2 := by
  rw [tk1_cons]; repeat' split
  all_goals simp
theorem tk1_le (c : Int) (r : List Int) : (tk1 (c :: r)).2 ≤ r.length + 1 := by
  have h1 := tw_le ltB r
  have h2 := tw_le cnB r
  rw [tk1_cons]; repeat' split
  all_goals (simp; try omega)
theorem tk1_kind (l : List Int) : (tk1 l).1 ≤ 5 := by
  unfold tk1; repeat' split
  all_goals simp
/-- The tokens of a text (kind, from, to) that stands at place i, and where it is wrong. -/
def tksN : Nat → List Int → Nat → List (Nat × Nat × Nat) × Option Nat
  | 0, _, _ => ([], none)
  | _ + 1, [], _ => ([], none)
  | f + 1, c :: r, i =>
    if bkB c = true then tksN f r (i + 1)
    else if (tk1 (c :: r)).1 = 0 then ([], some i)
    else (((tk1 (c :: r)).1, i, i + (tk1 (c :: r)).2) :: (tksN f ((c :: r).drop (tk1 (c :: r)).2) (i + (tk1 (c :: r)).2)).1, (tksN f ((c :: r).drop (tk1 (c :: r)).2) (i + (tk1 (c :: r)).2)).2)
theorem tksN_fuel : ∀ (f g : Nat) (l : List Int) (i : Nat), l.length ≤ f → l.length ≤ g → tksN f l i = tksN g l i
  | 0, 0, _, _, _, _ => rfl
  | 0, g + 1, [], _, _, _ => rfl
  | 0, _ + 1, _ :: _, _, h, _ => by simp at h
  | _ + 1, 0, [], _, _, _ => rfl
  | _ + 1, 0, _ :: _, _, _, h => by simp at h
  | _ + 1, _ + 1, [], _, _, _ => rfl
  | f + 1, g + 1, c :: r, i, hf, hg => by
    simp only [List.length_cons] at hf hg
    have hp := tk1_pos c r
    have hl : ((c :: r).drop (tk1 (c :: r)).2).length ≤ r.length := by rw [List.length_drop, List.length_cons]; omega
    unfold tksN
    rw [tksN_fuel f g r (i + 1) (by omega) (by omega), tksN_fuel f g _ (i + (tk1 (c :: r)).2) (by omega) (by omega)]
/-- The same, of a whole text. -/
def tks (l : List Int) (i : Nat) : List (Nat × Nat × Nat) × Option Nat := tksN l.length l i
theorem tks_nil (i : Nat) : tks [] i = ([], none) := rfl
theorem tks_blank {c : Int} {r : List Int} (i : Nat) (h : bkB c = true) : tks (c :: r) i = tks r (i + 1) := by
  unfold tks
  rw [List.length_cons, tksN, if_pos h]
theorem tks_bad {c : Int} {r : List Int} (i : Nat) (h : bkB c = false) (h0 : (tk1 (c :: r)).1 = 0) : tks (c :: r) i = ([], some i) := by
  unfold tks
  rw [List.length_cons, tksN, if_neg (by rw [h]; simp), if_pos h0]
theorem tks_next {c : Int} {r : List Int} (i : Nat) (h : bkB c = false) (h0 : (tk1 (c :: r)).1 ≠ 0) :
    tks (c :: r) i = (((tk1 (c :: r)).1, i, i + (tk1 (c :: r)).2) :: (tks ((c :: r).drop (tk1 (c :: r)).2) (i + (tk1 (c :: r)).2)).1, (tks ((c :: r).drop (tk1 (c :: r)).2) (i + (tk1 (c :: r)).2)).2) := by
  have hp := tk1_pos c r
  have hl : ((c :: r).drop (tk1 (c :: r)).2).length ≤ r.length := by rw [List.length_drop, List.length_cons]; omega
  unfold tks
  rw [List.length_cons, tksN, if_neg (by rw [h]; simp), if_neg h0, tksN_fuel r.length _ _ _ hl (Nat.le_refl _)]
/-- Where the scanning stands: at place i, behind the tokens pre. -/
structure At9 (b : List Int) (i : Nat) (pre : List (Nat × Nat × Nat)) : Prop where
  le : i ≤ b.length
  list : (tks b 0).1 = pre ++ (tks (b.drop i) i).1
  bad : (tks b 0).2 = (tks (b.drop i) i).2
theorem At9.start (b : List Int) : At9 b 0 [] := ⟨Nat.zero_le _, rfl, rfl⟩
theorem drop_cons {b : List Int} {i : Nat} (h : i < b.length) : b.drop i = b.getD i 0 :: b.drop (i + 1) := by
  rw [List.drop_eq_getElem_cons h]; simp [List.getD, h]
theorem At9.blank {b : List Int} {i : Nat} {pre : List (Nat × Nat × Nat)} (h : At9 b i pre) (hi : i < b.length) (hb : bkB (b.getD i 0) = true) : At9 b (i + 1) pre := by
  obtain ⟨h1, h2, h3⟩ := h
  rw [drop_cons hi, tks_blank i hb] at h2 h3
  exact ⟨by omega, h2, h3⟩
theorem At9.wrong {b : List Int} {i : Nat} {pre : List (Nat × Nat × Nat)} (h : At9 b i pre) (hi : i < b.length) (hb : bkB (b.getD i 0) = false) (h0 : (tk1 (b.drop i)).1 = 0) : tks b 0 = (pre, some i) := by
  obtain ⟨h1, h2, h3⟩ := h
  rw [drop_cons hi] at h0 h2 h3
  rw [tks_bad i hb h0] at h2 h3
  exact Prod.ext (by simpa using h2) h3
theorem At9.next {b : List Int} {i k n : Nat} {pre : List (Nat × Nat × Nat)} (h : At9 b i pre) (hi : i < b.length) (hb : bkB (b.getD i 0) = false) (h0 : tk1 (b.drop i) = (k, n)) (hk : k ≠ 0) : At9 b (i + n) (pre ++ [(k, i, i + n)]) := by
  obtain ⟨h1, h2, h3⟩ := h
  rw [drop_cons hi] at h0 h2 h3
  have hn := tk1_le (b.getD i 0) (b.drop (i + 1))
  rw [h0, List.length_drop] at hn
  have e : (tk1 (b.getD i 0 :: b.drop (i + 1))).1 ≠ 0 := by rw [h0]; exact hk
  rw [tks_next i hb e, h0, ← drop_cons hi, List.drop_drop] at h2 h3
  simp only at h2 h3 hn
  refine ⟨by omega, ?_, h3⟩
  rw [h2, List.append_assoc]; rfl
theorem At9.fin {b : List Int} {i : Nat} {pre : List (Nat × Nat × Nat)} (h : At9 b i pre) (hi : ¬ i < b.length) : tks b 0 = (pre, none) := by
  obtain ⟨h1, h2, h3⟩ := h
  have e : b.drop i = [] := List.drop_eq_nil_of_le (by omega)
  rw [e, tks_nil] at h2 h3
  exact Prod.ext (by simpa using h2) h3
/-- What each token is: it lies in the text, and they stand one behind the other. -/
theorem tks_in : ∀ (f : Nat) (l : List Int) (i : Nat), l.length ≤ f → ∀ t ∈ (tks l i).1, i ≤ t.2.1 ∧ t.2.1 < t.2.2 ∧ t.2.2 ≤ i + l.length ∧ 1 ≤ t.1 ∧ t.1 ≤ 5
  | _, [], i, _, t, ht => by simp [tks_nil] at ht
  | 0, _ :: _, _, h, _, _ => by simp at h
  | f + 1, c :: r, i, h, t, ht => by
    simp only [List.length_cons] at h
    cases hb : bkB c with
    | true =>
      rw [tks_blank i hb] at ht
      have := tks_in f r (i + 1) (by omega) t ht
      simp only [List.length_cons]
      omega
    | false =>
      by_cases h0 : (tk1 (c :: r)).1 = 0
      · rw [tks_bad i hb h0] at ht; simp at ht
      · rw [tks_next i hb h0] at ht
        have hp := tk1_pos c r
        have hl := tk1_le c r
        have hk := tk1_kind (c :: r)
        rcases List.mem_cons.1 ht with rfl | ht
        · simp only [List.length_cons]; omega
        · have := tks_in f _ _ (by rw [List.length_drop, List.length_cons]; omega) t ht
          rw [List.length_drop] at this
          simp only [List.length_cons] at this ⊢
          omega
theorem tw_take (p : Int → Bool) : ∀ (l : List Int) (m : Nat), tw p l ≤ m → tw p (l.take m) = tw p l
  | [], m, _ => by rw [List.take_nil]
  | c :: l, 0, h => by
    rw [tw_cons] at h ⊢
    split at h
    · omega
    · rename_i hc; rw [if_neg hc]; rfl
  | c :: l, m + 1, h => by
    rw [List.take_succ_cons, tw_cons, tw_cons]
    rw [tw_cons] at h
    split
    · rename_i hc
      rw [if_pos hc] at h
      rw [tw_take p l m (by omega)]
    · rfl
theorem tk1_take {c : Int} {r : List Int} {m : Nat} (h : (tk1 (c :: r)).2 ≤ m + 1) : tk1 ((c :: r).take (m + 1)) = tk1 (c :: r) := by
  rw [List.take_succ_cons]
  rw [tk1_cons] at h ⊢
  rw [tk1_cons]
  by_cases h1 : ltB c = true
  · rw [if_pos h1] at h
    rw [if_pos h1, if_pos h1, tw_take ltB r m (by simp only at h; omega)]
  · rw [if_neg h1] at h
    by_cases h2 : sgB c = true
    · rw [if_pos h2] at h
      have h3 : tw cnB r ≤ m := by simp only at h; omega
      rw [if_neg h1, if_neg h1, if_pos h2, if_pos h2, tw_take cnB r m h3]
      have e : (c :: r.take m).take (tw cnB r + 1) = (c :: r).take (tw cnB r + 1) := by
        rw [← List.take_succ_cons, List.take_take]
        congr 1; omega
      rw [e]
    · rw [if_neg h1, if_neg h1, if_neg h2, if_neg h2]
theorem tks_bad_in : ∀ (f : Nat) (l : List Int) (i q : Nat), l.length ≤ f → (tks l i).2 = some q → i ≤ q ∧ q < i + l.length
  | _, [], i, q, _, h => by simp [tks_nil] at h
  | 0, _ :: _, _, _, h, _ => by simp at h
  | f + 1, c :: r, i, q, hf, h => by
    simp only [List.length_cons] at hf
    cases hb : bkB c with
    | true =>
      rw [tks_blank i hb] at h
      have := tks_bad_in f r (i + 1) q (by omega) h
      simp only [List.length_cons]
      omega
    | false =>
      by_cases h0 : (tk1 (c :: r)).1 = 0
      · rw [tks_bad i hb h0] at h
        simp at h
        simp only [List.length_cons]
        omega
      · rw [tks_next i hb h0] at h
        have hp := tk1_pos c r
        have hl := tk1_le c r
        have := tks_bad_in f _ _ q (by rw [List.length_drop, List.length_cons]; omega) h
        rw [List.length_drop] at this
        simp only [List.length_cons] at this ⊢
        omega
/-- Cut off where it is wrong, a text has the same tokens, and isn't wrong. -/
theorem tks_cut : ∀ (f : Nat) (l : List Int) (i m : Nat), l.length ≤ f → (tks l i).2 = some (i + m) → tks (l.take m) i = ((tks l i).1, none)
  | _, [], i, m, _, h => by simp [tks_nil] at h
  | 0, _ :: _, _, _, h, _ => by simp at h
  | f + 1, c :: r, i, m, hf, h => by
    simp only [List.length_cons] at hf
    cases hb : bkB c with
    | true =>
      rw [tks_blank i hb] at h ⊢
      have h1 := tks_bad_in f r (i + 1) _ (by omega) h
      obtain ⟨m, rfl⟩ : ∃ n, m = n + 1 := ⟨m - 1, by omega⟩
      rw [List.take_succ_cons, tks_blank i hb]
      exact tks_cut f r (i + 1) m (by omega) (by rw [h]; congr 1; omega)
    | false =>
      by_cases h0 : (tk1 (c :: r)).1 = 0
      · rw [tks_bad i hb h0] at h ⊢
        simp at h
        subst h
        rfl
      · rw [tks_next i hb h0] at h ⊢
        have hp := tk1_pos c r
        have hl := tk1_le c r
        have hd : ((c :: r).drop (tk1 (c :: r)).2).length ≤ f := by rw [List.length_drop, List.length_cons]; omega
        have h1 := tks_bad_in f _ _ _ hd h
        obtain ⟨m, rfl⟩ : ∃ n, m = n + 1 := ⟨m - 1, by omega⟩
        have e1 := tk1_take (c := c) (r := r) (m := m) (by omega)
        have e2 := tks_cut f _ (i + (tk1 (c :: r)).2) (m + 1 - (tk1 (c :: r)).2) hd (by rw [h]; congr 1; omega)
        rw [List.take_succ_cons] at e1 ⊢
        rw [tks_next i hb (by rw [e1]; exact h0), e1]
        have e3 : (c :: r.take m).drop (tk1 (c :: r)).2 = ((c :: r).drop (tk1 (c :: r)).2).take (m + 1 - (tk1 (c :: r)).2) := by
          rw [← List.take_succ_cons, List.drop_take]
        rw [e3, e2]
/-- In great letters. -/
def upB (c : Int) : Int := if 97 ≤ c ∧ c ≤ 122 then c - 32 else c
def upL (l : List Int) : List Int := l.map upB
theorem upB_range {c : Int} (h : 0 ≤ c ∧ c < 256) : 0 ≤ upB c ∧ upB c < 256 := by
  unfold upB; split <;> omega
theorem upL_len (l : List Int) : (upL l).length = l.length := by simp [upL]
theorem upL_range {l : List Int} (h : ∀ z ∈ l, 0 ≤ z ∧ z < 256) : ∀ z ∈ upL l, 0 ≤ z ∧ z < 256 := fun z hz => by
  obtain ⟨c, hc, rfl⟩ := List.mem_map.1 hz
  exact upB_range (h c hc)
theorem takeS {l : List Int} {i : Nat} (h : i < l.length) : l.take (i + 1) = l.take i ++ [l.getD i 0] := by
  rw [List.take_add_one, List.getElem?_eq_getElem h]; simp [List.getD, h]
theorem upL_take {l : List Int} {i : Nat} (h : i < l.length) : (upL l).take (i + 1) = (upL l).take i ++ [upB (l.getD i 0)] := by
  rw [takeS (by rw [upL_len]; exact h)]
  congr 2
  simp [upL, List.getD, h]
end Go.Proofs.YtfpifbfnebfdaaaDoor
