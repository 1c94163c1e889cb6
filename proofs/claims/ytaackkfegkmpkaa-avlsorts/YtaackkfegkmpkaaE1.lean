/- Ordered sets as trees, in plain words: what balancing, putting and taking away make of them. -/
namespace Go.Proofs.Ytaackkfegkmpkaa
/-- A binary tree: each node with its block, its thing and its two subtrees. -/
inductive AT where
  | nil
  | nd (b : Nat) (v : Int) (l r : AT)
/-- How deep. -/
def AT.ht : AT → Nat
  | .nil => 0
  | .nd _ _ l r => 1 + max l.ht r.ht
/-- Its nodes in order: blocks and things. -/
def AT.inl : AT → List (Nat × Int)
  | .nil => []
  | .nd b v l r => l.inl ++ (b, v) :: r.inl
def AT.ids (t : AT) : List Nat := t.inl.map (·.1)
def AT.vals (t : AT) : List Int := t.inl.map (·.2)
/-- The depths of two subtrees differ by at most one. -/
def AT.ok : AT → Prop
  | .nil => True
  | .nd _ _ l r => l.ok ∧ r.ok ∧ l.ht ≤ r.ht + 1 ∧ r.ht ≤ l.ht + 1
/-- The subtree ahead on top. -/
def upA (b : Nat) (v : Int) : AT → AT → AT
  | .nd c x p q, r => .nd c x p (.nd b v q r)
  | .nil, r => .nd b v .nil r
/-- The subtree behind on top. -/
def upB (b : Nat) (v : Int) (l : AT) : AT → AT
  | .nd c x p q => .nd c x (.nd b v l p) q
  | .nil => .nd b v l .nil
/-- The subtree ahead, ready to go on top. -/
def setA : AT → AT
  | .nd c x p q => if p.ht < q.ht then upB c x p q else .nd c x p q
  | .nil => .nil
def setB : AT → AT
  | .nd c x p q => if q.ht < p.ht then upA c x p q else .nd c x p q
  | .nil => .nil
/-- The balanced tree. -/
def bal (b : Nat) (v : Int) (l r : AT) : AT :=
  if r.ht + 2 ≤ l.ht then upA b v (setA l) r
  else if l.ht + 2 ≤ r.ht then upB b v l (setB r)
  else .nd b v l r

theorem setA_nd (c : Nat) (x : Int) (p q : AT) : setA (.nd c x p q) = if p.ht < q.ht then upB c x p q else .nd c x p q := rfl
theorem setB_nd (c : Nat) (x : Int) (p q : AT) : setB (.nd c x p q) = if q.ht < p.ht then upA c x p q else .nd c x p q := rfl
theorem upA_inl (b v l r) : (upA b v l r).inl = l.inl ++ (b, v) :: r.inl := by
  cases l <;> simp [upA, AT.inl]
theorem upB_inl (b v l r) : (upB b v l r).inl = l.inl ++ (b, v) :: r.inl := by
  cases r <;> simp [upB, AT.inl]
theorem setA_inl (l) : (setA l).inl = l.inl := by
  cases l with
  | nil => rfl
  | nd c x p q => rw [setA_nd]; split <;> simp [upB_inl, AT.inl]
theorem setB_inl (l) : (setB l).inl = l.inl := by
  cases l with
  | nil => rfl
  | nd c x p q => rw [setB_nd]; split <;> simp [upA_inl, AT.inl]
theorem bal_inl (b v l r) : (bal b v l r).inl = l.inl ++ (b, v) :: r.inl := by
  unfold bal
  split
  · rw [upA_inl, setA_inl]
  · split
    · rw [upB_inl, setB_inl]
    · rfl
/-- What is balanced, where the depths were apart by at most two. -/
theorem bal_ok {b v} {l r : AT} (hl : l.ok) (hr : r.ok) (h1 : l.ht ≤ r.ht + 2) (h2 : r.ht ≤ l.ht + 2) :
    (bal b v l r).ok ∧ max l.ht r.ht ≤ (bal b v l r).ht ∧ (bal b v l r).ht ≤ 1 + max l.ht r.ht ∧ (l.ht ≤ r.ht + 1 → r.ht ≤ l.ht + 1 → (bal b v l r).ht = 1 + max l.ht r.ht) := by
  unfold bal
  split
  · cases l with
    | nil => simp only [AT.ht] at *; omega
    | nd c x p q =>
      simp only [AT.ok, AT.ht] at *
      obtain ⟨hp, hq, k1, k2⟩ := hl
      rw [setA_nd]
      split
      · cases q with
        | nil => simp only [AT.ht] at *; omega
        | nd d y s t =>
          simp only [AT.ok, AT.ht] at *
          obtain ⟨hs, ht, k3, k4⟩ := hq
          simp only [upB, upA, AT.ok, AT.ht]
          exact ⟨⟨⟨hp, hs, by omega, by omega⟩, ⟨ht, hr, by omega, by omega⟩, by omega, by omega⟩, by omega, by omega, by omega⟩
      · simp only [upA, AT.ok, AT.ht]
        exact ⟨⟨hp, ⟨hq, hr, by omega, by omega⟩, by omega, by omega⟩, by omega, by omega, by omega⟩
  · split
    · cases r with
      | nil => simp only [AT.ht] at *; omega
      | nd c x p q =>
        simp only [AT.ok, AT.ht] at *
        obtain ⟨hp, hq, k1, k2⟩ := hr
        rw [setB_nd]
        split
        · cases p with
          | nil => simp only [AT.ht] at *; omega
          | nd d y s t =>
            simp only [AT.ok, AT.ht] at *
            obtain ⟨hs, ht, k3, k4⟩ := hp
            simp only [upB, upA, AT.ok, AT.ht]
            exact ⟨⟨⟨hl, hs, by omega, by omega⟩, ⟨ht, hq, by omega, by omega⟩, by omega, by omega⟩, by omega, by omega, by omega⟩
        · simp only [upB, AT.ok, AT.ht]
          exact ⟨⟨⟨hl, hp, by omega, by omega⟩, hq, by omega, by omega⟩, by omega, by omega, by omega⟩
    · simp only [AT.ok, AT.ht]
      exact ⟨⟨hl, hr, by omega, by omega⟩, by omega, by omega, fun _ _ => trivial⟩
theorem bal_ht_le (b v l r) : (bal b v l r).ht ≤ 2 + max l.ht r.ht := by
  unfold bal
  split
  · cases l with
    | nil => simp only [AT.ht] at *; omega
    | nd c x p q =>
      rw [setA_nd]; split
      · cases q with
        | nil => simp only [AT.ht] at *; omega
        | nd d y s t => simp only [upA, upB, AT.ht] at *; omega
      · simp only [upA, AT.ht] at *; omega
  · split
    · cases r with
      | nil => simp only [AT.ht] at *; omega
      | nd c x p q =>
        rw [setB_nd]; split
        · cases p with
          | nil => simp only [AT.ht] at *; omega
          | nd d y s t => simp only [upA, upB, AT.ht] at *; omega
        · simp only [upB, AT.ht] at *; omega
    · simp only [AT.ht]; omega
theorem ht_le_len (t : AT) : t.ht ≤ t.inl.length := by
  induction t with
  | nil => simp [AT.ht]
  | nd b v l r ihl ihr => simp only [AT.ht, AT.inl, List.length_append, List.length_cons]; omega

/-- Is one there that is the same, gone down to by the keys? -/
def has (k : Int → Int) (v : Int) : AT → Bool
  | .nil => false
  | .nd _ x l r => if k v = k x then true else if k v < k x then has k v l else has k v r
/-- The tree with v, in the block nb. -/
def ins (k : Int → Int) (nb : Nat) (v : Int) : AT → AT
  | .nil => .nd nb v .nil .nil
  | .nd b x l r => if k v = k x then .nd b x l r else if k v < k x then bal b x (ins k nb v l) r else bal b x l (ins k nb v r)
/-- The first node, and the tree of the others. -/
def part : Nat → Int → AT → AT → (Nat × Int) × AT
  | b, x, .nil, r => ((b, x), r)
  | b, x, .nd c y p q, r => ((part c y p q).1, bal b x (part c y p q).2 r)
def join (l : AT) : AT → AT
  | .nil => l
  | .nd b x p q => bal (part b x p q).1.1 (part b x p q).1.2 l (part b x p q).2
def del (k : Int → Int) (v : Int) : AT → AT
  | .nil => .nil
  | .nd b x l r => if k v = k x then join l r else if k v < k x then bal b x (del k v l) r else bal b x l (del k v r)
/-- Rising by its keys. -/
def Rise (k : Int → Int) (L : List (Nat × Int)) : Prop := L.Pairwise fun a b => k a.2 < k b.2

theorem Rise.split {k : Int → Int} {A B : List (Nat × Int)} {x : Nat × Int} (h : Rise k (A ++ x :: B)) : Rise k A ∧ Rise k B ∧ (∀ a ∈ A, k a.2 < k x.2) ∧ (∀ b ∈ B, k x.2 < k b.2) := by
  unfold Rise at *
  rw [List.pairwise_append, List.pairwise_cons] at h
  exact ⟨h.1, h.2.1.2, fun a ha => h.2.2 a ha x List.mem_cons_self, h.2.1.1⟩
theorem has_iff {k : Int → Int} {v : Int} : ∀ {t : AT}, Rise k t.inl → (has k v t = true ↔ ∃ x ∈ t.inl, k x.2 = k v)
  | .nil, _ => by simp [has, AT.inl]
  | .nd b x l r, h => by
    obtain ⟨h1, h2, h3, h4⟩ := Rise.split h
    have i1 := @has_iff k v l h1
    have i2 := @has_iff k v r h2
    simp only [has, AT.inl, List.mem_append, List.mem_cons]
    split
    · rename_i e
      simp only [true_iff]
      exact ⟨(b, x), Or.inr (Or.inl rfl), e.symm⟩
    · split
      · rename_i e1 e2
        rw [i1]
        constructor
        · rintro ⟨y, hy, e⟩; exact ⟨y, Or.inl hy, e⟩
        · rintro ⟨y, hy | rfl | hy, e⟩
          · exact ⟨y, hy, e⟩
          · exact absurd e.symm e1
          · have := h4 y hy; simp only at this; omega
      · rename_i e1 e2
        rw [i2]
        constructor
        · rintro ⟨y, hy, e⟩; exact ⟨y, Or.inr (Or.inr hy), e⟩
        · rintro ⟨y, hy | rfl | hy, e⟩
          · have := h3 y hy; simp only at this; omega
          · exact absurd e.symm e1
          · exact ⟨y, hy, e⟩
theorem ins_spec {k : Int → Int} {nb : Nat} {v : Int} : ∀ {t : AT}, Rise k t.inl → has k v t = false → ∃ A B, t.inl = A ++ B ∧ (ins k nb v t).inl = A ++ (nb, v) :: B ∧ (∀ a ∈ A, k a.2 < k v) ∧ (∀ b ∈ B, k v < k b.2)
  | .nil, _, _ => ⟨[], [], rfl, rfl, by simp, by simp⟩
  | .nd b x l r, h, hh => by
    obtain ⟨h1, h2, h3, h4⟩ := Rise.split h
    simp only [has] at hh
    split at hh
    · cases hh
    · rename_i e1
      split at hh
      · rename_i e2
        obtain ⟨A, B, q1, q2, q3, q4⟩ := @ins_spec k nb v l h1 hh
        refine ⟨A, B ++ (b, x) :: r.inl, by simp [AT.inl, q1], ?_, q3, ?_⟩
        · simp only [ins, if_neg e1, if_pos e2, bal_inl, q2]; simp
        · intro y hy
          rcases List.mem_append.1 hy with hy | hy
          · exact q4 y hy
          · rcases List.mem_cons.1 hy with rfl | hy
            · exact e2
            · have := h4 y hy; simp only at this; omega
      · rename_i e2
        obtain ⟨A, B, q1, q2, q3, q4⟩ := @ins_spec k nb v r h2 hh
        refine ⟨l.inl ++ (b, x) :: A, B, by simp [AT.inl, q1], ?_, ?_, q4⟩
        · simp only [ins, if_neg e1, if_neg e2, bal_inl, q2]; simp
        · intro y hy
          rcases List.mem_append.1 hy with hy | hy
          · have := h3 y hy; simp only at this; omega
          · rcases List.mem_cons.1 hy with rfl | hy
            · show k x < k v; omega
            · exact q3 y hy
theorem ins_ok {k : Int → Int} {nb : Nat} {v : Int} : ∀ {t : AT}, t.ok → has k v t = false → (ins k nb v t).ok ∧ t.ht ≤ (ins k nb v t).ht ∧ (ins k nb v t).ht ≤ t.ht + 1
  | .nil, _, _ => by simp [ins, AT.ok, AT.ht]
  | .nd b x l r, h, hh => by
    simp only [has] at hh
    simp only [AT.ok] at h
    obtain ⟨hl, hr, k1, k2⟩ := h
    split at hh
    · cases hh
    · rename_i e1
      split at hh
      · rename_i e2
        obtain ⟨j1, j2, j3⟩ := @ins_ok k nb v l hl hh
        have B := @bal_ok b x (ins k nb v l) r j1 hr (by omega) (by omega)
        simp only [ins, if_neg e1, if_pos e2, AT.ht]
        refine ⟨B.1, ?_, ?_⟩
        · by_cases c : (ins k nb v l).ht ≤ r.ht + 1
          · have := B.2.2.2 c (by omega); omega
          · have := B.2.1; omega
        · by_cases c : (ins k nb v l).ht ≤ r.ht + 1
          · have := B.2.2.2 c (by omega); omega
          · have := B.2.2.1; omega
      · rename_i e2
        obtain ⟨j1, j2, j3⟩ := @ins_ok k nb v r hr hh
        have B := @bal_ok b x l (ins k nb v r) hl j1 (by omega) (by omega)
        simp only [ins, if_neg e1, if_neg e2, AT.ht]
        refine ⟨B.1, ?_, ?_⟩
        · by_cases c : (ins k nb v r).ht ≤ l.ht + 1
          · have := B.2.2.2 (by omega) c; omega
          · have := B.2.1; omega
        · by_cases c : (ins k nb v r).ht ≤ l.ht + 1
          · have := B.2.2.2 (by omega) c; omega
          · have := B.2.2.1; omega
theorem part_spec : ∀ (b : Nat) (x : Int) (l r : AT), (part b x l r).1 :: (part b x l r).2.inl = l.inl ++ (b, x) :: r.inl
  | b, x, .nil, r => rfl
  | b, x, .nd c y p q, r => by
    have := part_spec c y p q
    simp only [part, bal_inl]
    rw [← List.cons_append, this]
    simp [AT.inl]
theorem part_ok : ∀ (b : Nat) (x : Int) (l r : AT), l.ok → r.ok → l.ht ≤ r.ht + 1 → r.ht ≤ l.ht + 1 → (part b x l r).2.ok ∧ (part b x l r).2.ht ≤ 1 + max l.ht r.ht ∧ max l.ht r.ht ≤ (part b x l r).2.ht
  | b, x, .nil, r, _, hr, k1, k2 => by simp only [part, AT.ht] at *; exact ⟨hr, by omega, by omega⟩
  | b, x, .nd c y p q, r, hl, hr, k1, k2 => by
    simp only [AT.ok, AT.ht] at hl k1 k2 ⊢
    obtain ⟨hp, hq, k3, k4⟩ := hl
    obtain ⟨j1, j2, j3⟩ := part_ok c y p q hp hq k3 k4
    have B := @bal_ok b x (part c y p q).2 r j1 hr (by omega) (by omega)
    simp only [part]
    refine ⟨B.1, ?_, ?_⟩
    · have := B.2.2.1; omega
    · by_cases c1 : r.ht ≤ (part c y p q).2.ht + 1
      · have := B.2.2.2 (by omega) c1; omega
      · have := B.2.1; omega
theorem join_spec (l r : AT) : (join l r).inl = l.inl ++ r.inl := by
  cases r with
  | nil => simp [join, AT.inl]
  | nd b x p q => simp only [join, bal_inl, AT.inl]; rw [← part_spec b x p q]
theorem join_ok {l r : AT} (hl : l.ok) (hr : r.ok) (k1 : l.ht ≤ r.ht + 1) (k2 : r.ht ≤ l.ht + 1) : (join l r).ok ∧ (join l r).ht ≤ 1 + max l.ht r.ht ∧ max l.ht r.ht ≤ (join l r).ht := by
  cases r with
  | nil => simp only [join, AT.ht] at *; exact ⟨hl, by omega, by omega⟩
  | nd b x p q =>
    simp only [AT.ok, AT.ht] at hr k1 k2 ⊢
    obtain ⟨hp, hq, k3, k4⟩ := hr
    obtain ⟨j1, j2, j3⟩ := part_ok b x p q hp hq k3 k4
    have B := @bal_ok (part b x p q).1.1 (part b x p q).1.2 l (part b x p q).2 hl j1 (by omega) (by omega)
    simp only [join]
    refine ⟨B.1, ?_, ?_⟩
    · have := B.2.2.1; omega
    · by_cases c1 : l.ht ≤ (part b x p q).2.ht + 1
      · have := B.2.2.2 c1 (by omega); omega
      · have := B.2.1; omega
theorem del_spec {k : Int → Int} {v : Int} : ∀ {t : AT}, has k v t = true → ∃ A y B, t.inl = A ++ y :: B ∧ k y.2 = k v ∧ (del k v t).inl = A ++ B
  | .nil, h => by cases h
  | .nd b x l r, hh => by
    simp only [has] at hh
    split at hh
    · rename_i e1
      exact ⟨l.inl, (b, x), r.inl, rfl, e1.symm, by simp only [del, if_pos e1, join_spec]⟩
    · rename_i e1
      split at hh
      · rename_i e2
        obtain ⟨A, y, B, q1, q2, q3⟩ := @del_spec k v l hh
        refine ⟨A, y, B ++ (b, x) :: r.inl, by simp [AT.inl, q1], q2, ?_⟩
        simp only [del, if_neg e1, if_pos e2, bal_inl, q3]; simp
      · rename_i e2
        obtain ⟨A, y, B, q1, q2, q3⟩ := @del_spec k v r hh
        refine ⟨l.inl ++ (b, x) :: A, y, B, by simp [AT.inl, q1], q2, ?_⟩
        simp only [del, if_neg e1, if_neg e2, bal_inl, q3]; simp
theorem del_ok {k : Int → Int} {v : Int} : ∀ {t : AT}, t.ok → has k v t = true → (del k v t).ok ∧ (del k v t).ht ≤ t.ht ∧ t.ht ≤ (del k v t).ht + 1
  | .nil, _, h => by cases h
  | .nd b x l r, h, hh => by
    simp only [has] at hh
    simp only [AT.ok] at h
    obtain ⟨hl, hr, k1, k2⟩ := h
    split at hh
    · rename_i e1
      have := join_ok hl hr k1 k2
      simp only [del, if_pos e1, AT.ht]
      exact ⟨this.1, by omega, by omega⟩
    · rename_i e1
      split at hh
      · rename_i e2
        obtain ⟨j1, j2, j3⟩ := @del_ok k v l hl hh
        have B := @bal_ok b x (del k v l) r j1 hr (by omega) (by omega)
        simp only [del, if_neg e1, if_pos e2, AT.ht]
        refine ⟨B.1, by have := B.2.2.1; omega, ?_⟩
        by_cases c : r.ht ≤ (del k v l).ht + 1
        · have := B.2.2.2 (by omega) c; omega
        · have := B.2.1; omega
      · rename_i e2
        obtain ⟨j1, j2, j3⟩ := @del_ok k v r hr hh
        have B := @bal_ok b x l (del k v r) hl j1 (by omega) (by omega)
        simp only [del, if_neg e1, if_neg e2, AT.ht]
        refine ⟨B.1, by have := B.2.2.1; omega, ?_⟩
        by_cases c : l.ht ≤ (del k v r).ht + 1
        · have := B.2.2.2 c (by omega); omega
        · have := B.2.1; omega
/-- The least trees of each depth. -/
def least : Nat → Nat
  | 0 => 0
  | 1 => 1
  | n + 2 => least n + least (n + 1) + 1
theorem least_mono (n : Nat) : least n ≤ least (n + 1) := by
  induction n with
  | zero => simp [least]
  | succ n ih => simp only [least]; omega
theorem ok_least : ∀ {t : AT}, t.ok → least t.ht ≤ t.inl.length
  | .nil, _ => by simp [AT.ht, least]
  | .nd b x l r, h => by
    simp only [AT.ok] at h
    obtain ⟨hl, hr, k1, k2⟩ := h
    have i1 := ok_least hl
    have i2 := ok_least hr
    simp only [AT.ht, AT.inl, List.length_append, List.length_cons]
    have key : ∀ a c : Nat, a ≤ c + 1 → c ≤ a + 1 → least (1 + max a c) ≤ least a + least c + 1 := by
      intro a c h1 h2
      rcases Nat.lt_trichotomy a c with h | h | h
      · obtain rfl : c = a + 1 := by omega
        rw [show 1 + max a (a + 1) = a + 2 by omega]; simp only [least]; omega
      · subst h
        rw [show 1 + max a a = a + 1 by omega]
        cases a with
        | zero => simp [least]
        | succ a => simp only [least]; have := least_mono a; omega
      · obtain rfl : a = c + 1 := by omega
        rw [show 1 + max (c + 1) c = c + 2 by omega]; simp only [least]; omega
    have := key _ _ k1 k2
    omega
theorem len_lt_pow : ∀ (t : AT), t.inl.length < 2 ^ t.ht
  | .nil => by simp [AT.inl, AT.ht]
  | .nd b x l r => by
    have i1 := len_lt_pow l
    have i2 := len_lt_pow r
    simp only [AT.ht, AT.inl, List.length_append, List.length_cons]
    have e1 : 2 ^ l.ht ≤ 2 ^ max l.ht r.ht := Nat.pow_le_pow_right (by omega) (by omega)
    have e2 : 2 ^ r.ht ≤ 2 ^ max l.ht r.ht := Nat.pow_le_pow_right (by omega) (by omega)
    rw [Nat.pow_add, Nat.pow_one]
    omega
end Go.Proofs.Ytaackkfegkmpkaa
