/- Heaps in plain words: two things change places; one thing goes up, or down; lists that rise. -/
namespace Go.Proofs.Ytdffpgfmodccgaa
/-- Two things change places. -/
def sw (l : List Int) (i j : Nat) : List Int := (l.set i (l.getD j 0)).set j (l.getD i 0)
theorem sw_len (l : List Int) (i j : Nat) : (sw l i j).length = l.length := by simp [sw]
theorem sw_get {l : List Int} {i j : Nat} (hi : i < l.length) (hj : j < l.length) (m : Nat) : (sw l i j).getD m 0 = if m = j then l.getD i 0 else if m = i then l.getD j 0 else l.getD m 0 := by
  unfold sw
  rw [List.getD_eq_getElem?_getD, List.getElem?_set]
  by_cases h1 : j = m
  · subst h1; simp [hj]
  · rw [if_neg h1, if_neg (fun e => h1 e.symm), List.getElem?_set]
    by_cases h2 : i = m
    · subst h2; simp [hi]
    · rw [if_neg h2, if_neg (fun e => h2 e.symm), ← List.getD_eq_getElem?_getD]
theorem sw_perm {l : List Int} {i j : Nat} (hi : i < l.length) (hj : j < l.length) : (sw l i j).Perm l := by
  have h := Array.swap_perm (xs := l.toArray) (i := i) (j := j) (by simpa using hi) (by simpa using hj)
  have e : (l.toArray.swap i j (by simpa using hi) (by simpa using hj)).toList = sw l i j := by
    simp [sw, Array.swap, List.getD, hi, hj]
  have := h.toList
  rw [e] at this
  simpa using this
/-- The place above. -/
def par (i : Nat) : Nat := (i - 1) / 2
/-- A heap by its keys: no thing stands behind those at 2 i + 1 and 2 i + 2. -/
def Hp (k : Int → Int) (l : List Int) : Prop := ∀ j, 0 < j → j < l.length → k (l.getD (par j) 0) ≤ k (l.getD j 0)
/-- A heap but for place p, which may stand ahead of the one above. -/
def HpUp (k : Int → Int) (p : Nat) (l : List Int) : Prop :=
  (∀ j, 0 < j → j < l.length → j ≠ p → k (l.getD (par j) 0) ≤ k (l.getD j 0)) ∧ ∀ c, 0 < c → c < l.length → par c = p → 0 < p → k (l.getD (par p) 0) ≤ k (l.getD c 0)
/-- A heap from place b on. -/
def HpF (k : Int → Int) (b : Nat) (l : List Int) : Prop := ∀ j, 0 < j → j < l.length → b ≤ par j → k (l.getD (par j) 0) ≤ k (l.getD j 0)
/-- A heap from place b on, but for place p, which may stand behind those below. -/
def HpDown (k : Int → Int) (b p : Nat) (l : List Int) : Prop :=
  (∀ j, 0 < j → j < l.length → par j ≠ p → b ≤ par j → k (l.getD (par j) 0) ≤ k (l.getD j 0)) ∧ ∀ c, 0 < c → c < l.length → par c = p → 0 < p → b ≤ par p → k (l.getD (par p) 0) ≤ k (l.getD c 0)
theorem up_lt {i : Nat} (h : 0 < i) : par i < i := by unfold par; omega
theorem up_one (i : Nat) : par (2 * i + 1) = i := by unfold par; omega
theorem up_two (i : Nat) : par (2 * i + 2) = i := by unfold par; omega
theorem of_up {i j : Nat} (h : par j = i) (hj : 0 < j) : j = 2 * i + 1 ∨ j = 2 * i + 2 := by unfold par at h; omega
theorem Hp.up {k : Int → Int} {l : List Int} (h : Hp k l) (p : Nat) : HpUp k p l := ⟨fun j h1 h2 _ => h j h1 h2, fun c h1 h2 h3 h4 => by
  have a := h c h1 h2
  have hc := up_lt h1
  have b := h (par c) (by omega) (by omega)
  rw [h3] at a b
  omega⟩
theorem HpF.hp {k : Int → Int} {l : List Int} (h : HpF k 0 l) : Hp k l := fun j h1 h2 => h j h1 h2 (Nat.zero_le _)
theorem HpF.down {k : Int → Int} {p : Nat} {l : List Int} (h : HpF k (p + 1) l) : HpDown k p p l := ⟨fun j h1 h2 h3 h4 => h j h1 h2 (by omega), fun c h1 h2 h3 h4 h5 => by have := up_lt h4; omega⟩
theorem HpF.low {k : Int → Int} {b : Nat} {l : List Int} (h : l.length ≤ 2 * b + 1) : HpF k b l := fun j h1 h2 h3 => by unfold par at h3; omega
theorem HpUp.top {k : Int → Int} {l : List Int} (h : HpUp k 0 l) : Hp k l := fun j h1 h2 => h.1 j h1 h2 (by omega)
theorem HpUp.done {k : Int → Int} {p : Nat} {l : List Int} (h : HpUp k p l) (hk : k (l.getD (par p) 0) ≤ k (l.getD p 0)) : Hp k l := fun j h1 h2 => by
  by_cases e : j = p
  · subst e; exact hk
  · exact h.1 j h1 h2 e
theorem HpUp.step {k : Int → Int} {p : Nat} {l : List Int} (h : HpUp k p l) (hp : 0 < p) (hl : p < l.length) (hk : k (l.getD p 0) ≤ k (l.getD (par p) 0)) : HpUp k (par p) (sw l p (par p)) := by
  have hu := up_lt hp
  have hul : par p < l.length := by omega
  refine ⟨fun j h1 h2 h3 => ?_, fun c h1 h2 h3 h4 => ?_⟩
  · rw [sw_len] at h2
    rw [sw_get hl hul, sw_get hl hul]
    have hj := up_lt h1
    by_cases e1 : j = p
    · subst e1; rw [if_pos rfl, if_neg h3, if_pos rfl]; exact hk
    · rw [if_neg h3, if_neg e1]
      by_cases e2 : par j = par p
      · rw [if_pos e2]
        have := h.1 j h1 h2 e1
        rw [e2] at this; omega
      · rw [if_neg e2]
        by_cases e3 : par j = p
        · rw [if_pos e3]; exact h.2 j h1 h2 e3 hp
        · rw [if_neg e3]; exact h.1 j h1 h2 e1
  · rw [sw_len] at h2
    have huu := up_lt h4
    rw [sw_get hl hul, sw_get hl hul, if_neg (by omega), if_neg (by omega)]
    have h5 := h.1 (par p) h4 (by omega) (by omega)
    have hc := up_lt h1
    by_cases e1 : c = p
    · subst e1; rw [if_neg (by omega), if_pos rfl]; exact h5
    · rw [if_neg (by omega), if_neg e1]
      have := h.1 c h1 h2 e1
      rw [h3] at this; omega
theorem HpDown.done {k : Int → Int} {b p : Nat} {l : List Int} (h : HpDown k b p l) (hk : ∀ c, c = 2 * p + 1 ∨ c = 2 * p + 2 → c < l.length → k (l.getD p 0) ≤ k (l.getD c 0)) : HpF k b l := fun j h1 h2 h3 => by
  by_cases e : par j = p
  · rw [e]; exact hk j (of_up e h1) h2
  · exact h.1 j h1 h2 e h3
theorem HpDown.step {k : Int → Int} {b p c : Nat} {l : List Int} (h : HpDown k b p l) (hbp : b ≤ p) (hc : c = 2 * p + 1 ∨ c = 2 * p + 2) (hl : c < l.length) (hk : k (l.getD c 0) ≤ k (l.getD p 0)) (hs : ∀ d, d = 2 * p + 1 ∨ d = 2 * p + 2 → d < l.length → k (l.getD c 0) ≤ k (l.getD d 0)) :
    HpDown k b c (sw l p c) := by
  have hpl : p < l.length := by omega
  have hc0 : 0 < c := by omega
  have hcu : par c = p := by rcases hc with rfl | rfl; exact up_one p; exact up_two p
  have hpc : p < c := by omega
  refine ⟨fun j h1 h2 h3 h5 => ?_, fun d h1 h2 h3 h4 h5 => ?_⟩
  · rw [sw_len] at h2
    have hj := up_lt h1
    rw [sw_get hpl hl, sw_get hpl hl, if_neg h3]
    by_cases e1 : par j = p
    · rw [if_pos e1]
      by_cases e2 : j = c
      · rw [if_pos e2]; exact hk
      · rw [if_neg e2, if_neg (by omega)]
        exact hs j (of_up e1 h1) h2
    · rw [if_neg e1]
      by_cases e2 : j = c
      · subst e2; exact absurd hcu e1
      · rw [if_neg e2]
        by_cases e3 : j = p
        · subst e3; rw [if_pos rfl]; exact h.2 c hc0 hl hcu h1 h5
        · rw [if_neg e3]; exact h.1 j h1 h2 e1 h5
  · rw [sw_len] at h2
    have hd := up_lt h1
    rw [sw_get hpl hl, sw_get hpl hl, hcu, if_neg (by omega), if_pos rfl, if_neg (by omega), if_neg (by omega)]
    have := h.1 d h1 h2 (by omega) (by omega)
    rw [h3] at this; exact this
/-- The first one of a heap comes ahead of all. -/
theorem Hp.least {k : Int → Int} {l : List Int} (h : Hp k l) : ∀ n j, j ≤ n → j < l.length → k (l.getD 0 0) ≤ k (l.getD j 0)
  | 0, j, h1, _ => by obtain rfl : j = 0 := by omega
                      exact Int.le_refl _
  | n + 1, j, h1, h2 => by
    rcases Nat.eq_zero_or_pos j with rfl | h3
    · exact Int.le_refl _
    · have := up_lt h3
      exact Int.le_trans (h.least n (par j) (by omega) (by omega)) (h j h3 h2)
theorem Hp.first {k : Int → Int} {l : List Int} (h : Hp k l) : ∀ x ∈ l, k (l.getD 0 0) ≤ k x := fun x hx => by
  obtain ⟨j, hj, rfl⟩ := List.getElem_of_mem hx
  have := h.least j j (Nat.le_refl _) hj
  simpa [List.getD, hj] using this
/-- A heap that loses its last thing. -/
theorem Hp.dropLast {k : Int → Int} {l : List Int} (h : Hp k l) : Hp k l.dropLast := fun j h1 h2 => by
  simp only [List.length_dropLast] at h2
  have hu := up_lt h1
  have e : ∀ m, m < l.length - 1 → l.dropLast.getD m 0 = l.getD m 0 := fun m hm => by
    simp only [List.getD_eq_getElem?_getD, List.getElem?_dropLast, if_pos hm]
  rw [e j h2, e (par j) (by omega)]
  exact h j h1 (by omega)
/-- A heap with one thing more at its end. -/
theorem Hp.snoc {k : Int → Int} {l : List Int} (h : Hp k l) (v : Int) : HpUp k l.length (l ++ [v]) := by
  have e : ∀ m, m < l.length → (l ++ [v]).getD m 0 = l.getD m 0 := fun m hm => by
    simp only [List.getD_eq_getElem?_getD, List.getElem?_append_left hm]
  refine ⟨fun j h1 h2 h3 => ?_, fun c h1 h2 h3 h4 => ?_⟩
  · simp at h2
    have hu := up_lt h1
    rw [e j (by omega), e (par j) (by omega)]
    exact h j h1 (by omega)
  · simp at h2
    have hu := up_lt h1
    omega
/-- A heap whose first thing is another one. -/
theorem Hp.set0 {k : Int → Int} {l : List Int} (h : Hp k l) (v : Int) : HpDown k 0 0 (l.set 0 v) := by
  have e : ∀ m, 0 < m → (l.set 0 v).getD m 0 = l.getD m 0 := fun m hm => by
    simp only [List.getD_eq_getElem?_getD, List.getElem?_set, if_neg (by omega : ¬ 0 = m)]
  refine ⟨fun j h1 h2 h3 _ => ?_, fun c h1 h2 h3 h4 => by omega⟩
  rw [List.length_set] at h2
  rw [e j h1, e (par j) (by omega)]
  exact h j h1 h2
/-- One more, in its place in a list that rises. -/
def pi (n : Int) : List Int → List Int
  | [] => [n]
  | x :: l => if n ≤ x then n :: x :: l else x :: pi n l
theorem pi_perm (n : Int) : ∀ l, (pi n l).Perm (n :: l)
  | [] => List.Perm.refl _
  | x :: l => by
    unfold pi
    split
    · exact List.Perm.refl _
    · exact ((pi_perm n l).cons x).trans (List.Perm.swap _ _ _)
theorem pi_len (n : Int) (l : List Int) : (pi n l).length = l.length + 1 := by simpa using (pi_perm n l).length_eq
/-- It rises, the same ones beside each other. -/
def Rises (l : List Int) : Prop := l.Pairwise (· ≤ ·)
theorem pi_rises {n : Int} : ∀ {l : List Int}, Rises l → Rises (pi n l)
  | [], _ => by simp [pi, Rises]
  | x :: l, h => by
    have h' := List.pairwise_cons.1 h
    unfold pi
    split
    · rename_i hx
      exact List.pairwise_cons.2 ⟨fun y hy => by
        rcases List.mem_cons.1 hy with rfl | hy
        · exact hx
        · exact Int.le_trans hx (h'.1 y hy), h⟩
    · rename_i hx
      refine List.pairwise_cons.2 ⟨fun y hy => ?_, pi_rises h'.2⟩
      rcases List.mem_cons.1 ((pi_perm n l).subset hy) with rfl | hy
      · omega
      · exact h'.1 y hy
/-- What a heap of ints has first is what a list of the same ones has first that rises. -/
theorem first_same {L l : List Int} (h : Hp id l) (hp : L.Perm l) (hr : Rises L) : L.getD 0 0 = l.getD 0 0 := by
  cases L with
  | nil => rw [List.nil_perm.1 hp]
  | cons x L =>
    have hx : x ∈ l := hp.subset (by simp)
    have h1 := h.first x hx
    have hl : 0 < l.length := by rw [← hp.length_eq]; simp
    have hm : l.getD 0 0 ∈ x :: L := hp.symm.subset (by simp only [List.getD, List.getElem?_eq_getElem hl, Option.getD_some]; exact List.getElem_mem hl)
    have h2 : x ≤ l.getD 0 0 := by
      rcases List.mem_cons.1 hm with e | e
      · omega
      · exact (List.pairwise_cons.1 hr).1 _ e
    simp only [id] at h1
    simp only [List.getD_cons_zero]
    omega
/-- Behind the first one: the rest of both. -/
theorem rest_same {L l' l : List Int} (hp : L.Perm l) (hl : l.Perm (L.getD 0 0 :: l')) (hn : L ≠ []) : L.tail.Perm l' := by
  cases L with
  | nil => exact absurd rfl hn
  | cons x L => exact (hp.trans hl).cons_inv
theorem rises_tail {L : List Int} (h : Rises L) : Rises L.tail := by
  cases L with
  | nil => exact h
  | cons x L => exact (List.pairwise_cons.1 h).2
/-- The first and the last one change places, and the last one goes. -/
theorem pop_perm {l : List Int} (h : 0 < l.length) : l.Perm (l.getD 0 0 :: (sw l 0 (l.length - 1)).dropLast) := by
  have hp := sw_perm (l := l) (i := 0) (j := l.length - 1) h (by omega)
  have hn : sw l 0 (l.length - 1) ≠ [] := fun e => by have := congrArg List.length e; rw [sw_len] at this; simp at this; rw [this] at h; simp at h
  have e := List.dropLast_concat_getLast hn
  have eg : (sw l 0 (l.length - 1)).getLast hn = l.getD 0 0 := by
    rw [List.getLast_eq_getElem]
    have := sw_get (l := l) (i := 0) (j := l.length - 1) h (by omega) (l.length - 1)
    rw [if_pos rfl] at this
    rw [← this]
    simp only [sw_len]
    have hl : l.length - 1 < (sw l 0 (l.length - 1)).length := by rw [sw_len]; omega
    simp [List.getD, hl]
  rw [eg] at e
  rw [← e] at hp
  exact hp.symm.trans List.perm_append_comm
/-- What is left is a heap but for the first place. -/
theorem Hp.pop {k : Int → Int} {l : List Int} (h : Hp k l) (hl : 0 < l.length) : HpDown k 0 0 (sw l 0 (l.length - 1)).dropLast := by
  refine ⟨fun j h1 h2 h3 _ => ?_, fun c h1 h2 h3 h4 => by omega⟩
  rw [List.length_dropLast, sw_len] at h2
  have hu := up_lt h1
  have e : ∀ m, 0 < m → m < l.length - 1 → (sw l 0 (l.length - 1)).dropLast.getD m 0 = l.getD m 0 := fun m hm hml => by
    have : (sw l 0 (l.length - 1)).dropLast.getD m 0 = (sw l 0 (l.length - 1)).getD m 0 := by
      simp only [List.getD_eq_getElem?_getD, List.getElem?_dropLast, sw_len, if_pos hml]
    rw [this, sw_get hl (by omega), if_neg (by omega), if_neg (by omega)]
  rw [e j h1 h2, e (par j) (by omega) (by omega)]
  exact h j h1 (by omega)
end Go.Proofs.Ytdffpgfmodccgaa
