/- Lists in order in plain words: put in order one by one, what is so put is told by its order and its parts of one key; merged; one of each; places; those that are gone. -/
namespace Go.Proofs.Ytblnpabgakmghaa
/-- In order by the keys. -/
def Srt (k : Int → Int) (l : List Int) : Prop := l.Pairwise fun a b => k a ≤ k b
/-- Those of the key q, as they stand. -/
def fil (k : Int → Int) (q : Int) (l : List Int) : List Int := l.filter fun x => k x == q
theorem fil_cons (k : Int → Int) (q x : Int) (l : List Int) : fil k q (x :: l) = if k x = q then x :: fil k q l else fil k q l := by
  unfold fil
  rw [List.filter_cons]
  by_cases h : k x = q <;> simp [h]
theorem fil_append (k : Int → Int) (q : Int) (a b : List Int) : fil k q (a ++ b) = fil k q a ++ fil k q b := by unfold fil; exact List.filter_append ..
theorem mem_fil {k : Int → Int} {q x : Int} {l : List Int} : x ∈ fil k q l ↔ x ∈ l ∧ k x = q := by unfold fil; simp
theorem Srt.tail {k : Int → Int} {x : Int} {l : List Int} (h : Srt k (x :: l)) : Srt k l := (List.pairwise_cons.1 h).2
theorem Srt.head {k : Int → Int} {x : Int} {l : List Int} (h : Srt k (x :: l)) : ∀ y ∈ l, k x ≤ k y := (List.pairwise_cons.1 h).1
/-- Lists in order are one, if for each key they have the same, as they stand. -/
theorem srt_uniq {k : Int → Int} : ∀ {a b : List Int}, Srt k a → Srt k b → (∀ q, fil k q a = fil k q b) → a = b
  | [], [], _, _, _ => rfl
  | [], y :: b, _, _, h => by have := h (k y); rw [fil_cons, if_pos rfl] at this; simp [fil] at this
  | x :: a, [], _, _, h => by have := h (k x); rw [fil_cons, if_pos rfl] at this; simp [fil] at this
  | x :: a, y :: b, ha, hb, h => by
    have h1 := h (k x)
    have h2 := h (k y)
    rw [fil_cons, if_pos rfl] at h1
    rw [fil_cons k (k y) y, if_pos rfl] at h2
    have m1 : x ∈ fil k (k x) (y :: b) := h1 ▸ List.mem_cons_self
    have m2 : y ∈ fil k (k y) (x :: a) := h2 ▸ List.mem_cons_self
    have k1 : k y ≤ k x := by
      rcases List.mem_cons.1 (mem_fil.1 m1).1 with e | e
      · rw [e]; exact Int.le_refl _
      · exact hb.head x e
    have k2 : k x ≤ k y := by
      rcases List.mem_cons.1 (mem_fil.1 m2).1 with e | e
      · rw [e]; exact Int.le_refl _
      · exact ha.head y e
    have e : k y = k x := by omega
    rw [fil_cons, if_pos e] at h1
    injection h1 with e1 e2
    subst e1
    rw [srt_uniq ha.tail hb.tail fun q => by
      have := h q
      rw [fil_cons, fil_cons] at this
      split at this
      · injection this
      · exact this]
/-- One more, behind all that don't stand behind it. -/
def inb (k : Int → Int) (x : Int) : List Int → List Int
  | [] => [x]
  | y :: l => if k x < k y then x :: y :: l else y :: inb k x l
theorem inb_perm (k : Int → Int) (x : Int) : ∀ l, (inb k x l).Perm (x :: l)
  | [] => List.Perm.refl _
  | y :: l => by
    unfold inb
    split
    · exact List.Perm.refl _
    · exact ((inb_perm k x l).cons y).trans (List.Perm.swap _ _ _)
theorem inb_len (k : Int → Int) (x : Int) (l : List Int) : (inb k x l).length = l.length + 1 := by simpa using (inb_perm k x l).length_eq
theorem inb_srt {k : Int → Int} {x : Int} : ∀ {l : List Int}, Srt k l → Srt k (inb k x l)
  | [], _ => by simp [inb, Srt]
  | y :: l, h => by
    unfold inb
    split
    · rename_i hx
      exact List.pairwise_cons.2 ⟨fun z hz => by
        rcases List.mem_cons.1 hz with rfl | hz
        · omega
        · have := h.head z hz; omega, h⟩
    · rename_i hx
      refine List.pairwise_cons.2 ⟨fun z hz => ?_, inb_srt h.tail⟩
      rcases List.mem_cons.1 ((inb_perm k x l).subset hz) with rfl | hz
      · omega
      · exact h.head z hz
theorem fil_none {k : Int → Int} {q : Int} {l : List Int} (h : ∀ x ∈ l, k x ≠ q) : fil k q l = [] := by
  unfold fil
  rw [List.filter_eq_nil_iff]
  intro x hx
  simpa using h x hx
theorem inb_fil {k : Int → Int} {x : Int} (q : Int) : ∀ {l : List Int}, Srt k l → fil k q (inb k x l) = fil k q (l ++ [x])
  | [], _ => rfl
  | y :: l, h => by
    unfold inb
    split
    · rename_i hx
      rw [fil_append, fil_cons, fil_cons k q x []]
      by_cases e : k x = q
      · rw [if_pos e, if_pos e]
        have hn : fil k q (y :: l) = [] := fil_none (fun z hz => by
          rcases List.mem_cons.1 hz with rfl | hz
          · omega
          · have := h.head z hz; omega)
        rw [hn]; rfl
      · rw [if_neg e, if_neg e]; simp [fil]
    · rw [List.cons_append, fil_cons, fil_cons k q y (l ++ [x]), inb_fil q h.tail]
/-- Put in order one by one. -/
def isort (k : Int → Int) (l : List Int) : List Int := l.foldl (fun o x => inb k x o) []
theorem fold_srt {k : Int → Int} : ∀ {l o : List Int}, Srt k o → Srt k (l.foldl (fun o x => inb k x o) o)
  | [], _, h => h
  | x :: l, o, h => by rw [List.foldl_cons]; exact fold_srt (l := l) (o := inb k x o) (inb_srt h)
theorem fold_fil {k : Int → Int} (q : Int) : ∀ {l o : List Int}, Srt k o → fil k q (l.foldl (fun o x => inb k x o) o) = fil k q (o ++ l)
  | [], o, _ => by simp
  | x :: l, o, h => by
    rw [List.foldl_cons, fold_fil q (inb_srt h), fil_append, inb_fil q h, ← fil_append, List.append_assoc]; rfl
theorem fold_perm (k : Int → Int) : ∀ (l o : List Int), (l.foldl (fun o x => inb k x o) o).Perm (o ++ l)
  | [], o => by simp
  | x :: l, o => by
    rw [List.foldl_cons]
    refine (fold_perm k l (inb k x o)).trans ?_
    have h1 := (inb_perm k x o).append_right l
    have h2 : (x :: o ++ l).Perm (o ++ x :: l) := List.perm_middle.symm
    exact h1.trans h2
theorem isort_srt (k : Int → Int) (l : List Int) : Srt k (isort k l) := fold_srt (by simp [Srt])
theorem isort_fil (k : Int → Int) (q : Int) (l : List Int) : fil k q (isort k l) = fil k q l := by
  have := fold_fil (k := k) q (l := l) (o := []) (by simp [Srt])
  simpa [isort] using this
theorem isort_perm (k : Int → Int) (l : List Int) : (isort k l).Perm l := by simpa [isort] using fold_perm k l []
theorem isort_len (k : Int → Int) (l : List Int) : (isort k l).length = l.length := (isort_perm k l).length_eq
theorem isort_snoc (k : Int → Int) (l : List Int) (x : Int) : isort k (l ++ [x]) = inb k x (isort k l) := by simp [isort]
/-- What is in order, and has for each key the same as l has, is l put in order. -/
theorem isort_eq {k : Int → Int} {s l : List Int} (h : Srt k s) (hf : ∀ q, fil k q s = fil k q l) : s = isort k l :=
  srt_uniq h (isort_srt k l) fun q => by rw [hf q, isort_fil]
theorem isort_id {k : Int → Int} {l : List Int} (h : Srt k l) : isort k l = l := (isort_eq h fun _ => rfl).symm
theorem srt_iff {k : Int → Int} {l : List Int} : Srt k l ↔ l = isort k l := ⟨fun h => (isort_id h).symm, fun h => h ▸ isort_srt k l⟩
/-- In order, told by neighbours. -/
theorem srt_step {k : Int → Int} {l : List Int} : Srt k l ↔ ∀ i, i + 1 < l.length → k (l.getD i 0) ≤ k (l.getD (i + 1) 0) := by
  constructor
  · intro h i hi
    have := List.pairwise_iff_getElem.1 h i (i + 1) (by omega) hi (by omega)
    simpa [List.getD, hi, (by omega : i < l.length)] using this
  · intro h
    unfold Srt
    rw [List.pairwise_iff_getElem]
    intro i j hi hj hij
    have key : ∀ d, i + d < l.length → k (l.getD i 0) ≤ k (l.getD (i + d) 0) := by
      intro d
      induction d with
      | zero => intro _; exact Int.le_refl _
      | succ d ih => intro hd; exact Int.le_trans (ih (by omega)) (by have := h (i + d) (by omega); rwa [Nat.add_assoc] at this)
    have := key (j - i) (by omega)
    rw [show i + (j - i) = j by omega] at this
    simpa [List.getD, hi, hj] using this
/-- Two lists merged: of the second one only what stands ahead. -/
def mrg (k : Int → Int) : List Int → List Int → List Int
  | [], b => b
  | a, [] => a
  | x :: a, y :: b => if k y < k x then y :: mrg k (x :: a) b else x :: mrg k a (y :: b)
termination_by a b => a.length + b.length
theorem mrg_nil_right (k : Int → Int) (a : List Int) : mrg k a [] = a := by cases a <;> simp [mrg]
theorem mrg_perm (k : Int → Int) : ∀ (n : Nat) (a b : List Int), a.length + b.length ≤ n → (mrg k a b).Perm (a ++ b)
  | _, [], b, _ => by simp [mrg]
  | _, x :: a, [], _ => by simp [mrg]
  | 0, x :: a, y :: b, h => by simp at h
  | n + 1, x :: a, y :: b, h => by
    simp only [List.length_cons] at h
    unfold mrg
    split
    · have := mrg_perm k n (x :: a) b (by simp only [List.length_cons]; omega)
      exact (this.cons y).trans (List.perm_middle.symm)
    · have := mrg_perm k n a (y :: b) (by simp only [List.length_cons]; omega)
      exact this.cons x
theorem mrg_srt {k : Int → Int} : ∀ (n : Nat) (a b : List Int), a.length + b.length ≤ n → Srt k a → Srt k b → Srt k (mrg k a b)
  | _, [], b, _, _, hb => by simpa [mrg] using hb
  | _, x :: a, [], _, ha, _ => by simpa [mrg] using ha
  | 0, x :: a, y :: b, h, _, _ => by simp at h
  | n + 1, x :: a, y :: b, h, ha, hb => by
    simp only [List.length_cons] at h
    unfold mrg
    split
    · rename_i hyx
      refine List.pairwise_cons.2 ⟨fun z hz => ?_, mrg_srt n (x :: a) b (by simp only [List.length_cons]; omega) ha hb.tail⟩
      rcases List.mem_append.1 ((mrg_perm k _ _ _ (Nat.le_refl _)).subset hz) with hz | hz
      · rcases List.mem_cons.1 hz with rfl | hz
        · omega
        · have := ha.head z hz; omega
      · exact hb.head z hz
    · rename_i hyx
      refine List.pairwise_cons.2 ⟨fun z hz => ?_, mrg_srt n a (y :: b) (by simp only [List.length_cons]; omega) ha.tail hb⟩
      rcases List.mem_append.1 ((mrg_perm k _ _ _ (Nat.le_refl _)).subset hz) with hz | hz
      · exact ha.head z hz
      · rcases List.mem_cons.1 hz with rfl | hz
        · omega
        · have := hb.head z hz; omega
theorem mrg_fil {k : Int → Int} (q : Int) : ∀ (n : Nat) (a b : List Int), a.length + b.length ≤ n → Srt k a → fil k q (mrg k a b) = fil k q (a ++ b)
  | _, [], b, _, _ => by simp [mrg]
  | _, x :: a, [], _, _ => by simp [mrg]
  | 0, x :: a, y :: b, h, _ => by simp at h
  | n + 1, x :: a, y :: b, h, ha => by
    simp only [List.length_cons] at h
    unfold mrg
    split
    · rename_i hyx
      rw [fil_cons, mrg_fil q n (x :: a) b (by simp only [List.length_cons]; omega) ha, fil_append, fil_append, fil_cons k q y b]
      by_cases e : k y = q
      · rw [if_pos e, if_pos e]
        have hn : fil k q (x :: a) = [] := fil_none (fun z hz => by
          rcases List.mem_cons.1 hz with rfl | hz
          · omega
          · have := ha.head z hz; omega)
        rw [hn]; rfl
      · rw [if_neg e, if_neg e]
    · rw [fil_cons, mrg_fil q n a (y :: b) (by simp only [List.length_cons]; omega) ha.tail, List.cons_append, fil_cons]
/-- Merged lists in order are both, put in order. -/
theorem mrg_eq {k : Int → Int} {a b : List Int} (ha : Srt k a) (hb : Srt k b) : mrg k a b = isort k (a ++ b) :=
  isort_eq (mrg_srt _ a b (Nat.le_refl _) ha hb) fun q => mrg_fil q _ a b (Nat.le_refl _) ha
/-- Each half put in order, and merged, is the whole put in order. -/
theorem mrg_halves (k : Int → Int) (a b : List Int) : mrg k (isort k a) (isort k b) = isort k (a ++ b) :=
  isort_eq (mrg_srt _ _ _ (Nat.le_refl _) (isort_srt k a) (isort_srt k b)) fun q => by
    rw [mrg_fil q _ _ _ (Nat.le_refl _) (isort_srt k a), fil_append, fil_append, isort_fil, isort_fil]
/-- One of each: what has the key of the one ahead of it goes. -/
def onc (k : Int → Int) : Option Int → List Int → List Int
  | _, [] => []
  | p, x :: l => if p = some (k x) then onc k (some (k x)) l else x :: onc k (some (k x)) l
theorem onc_len (k : Int → Int) : ∀ (p : Option Int) (l : List Int), (onc k p l).length ≤ l.length
  | _, [] => Nat.le_refl _
  | p, x :: l => by
    unfold onc
    have := onc_len k (some (k x)) l
    split <;> simp <;> omega
/-- The first place at which v, or what stands behind it, is. -/
def low (k : Int → Int) (v : Int) : List Int → Nat
  | [] => 0
  | x :: l => if k x < v then low k v l + 1 else 0
theorem low_le (k : Int → Int) (v : Int) : ∀ l, low k v l ≤ l.length
  | [] => Nat.le_refl _
  | x :: l => by
    unfold low
    have := low_le k v l
    split <;> simp <;> omega
/-- It is the only place that has all that stand ahead of v ahead of it, and what is there, if anything, doesn't stand ahead of v. -/
theorem low_uniq {k : Int → Int} {v : Int} : ∀ {l : List Int} {i : Nat}, i ≤ l.length → (∀ j, j < i → k (l.getD j 0) < v) → (i < l.length → v ≤ k (l.getD i 0)) → i = low k v l
  | [], i, h, _, _ => by simp at h; simp [low, h]
  | x :: l, 0, _, _, h => by
    have := h (by simp)
    simp only [List.getD_cons_zero] at this
    simp [low, Int.not_lt.2 this]
  | x :: l, i + 1, h, h1, h2 => by
    have h0 := h1 0 (by omega)
    simp only [List.getD_cons_zero] at h0
    simp only [low, if_pos h0]
    have := @low_uniq k v l i (by simpa using h) (fun j hj => by simpa using h1 (j + 1) (by omega)) (fun hi => by simpa using h2 (by simpa using hi))
    omega
theorem low_before {k : Int → Int} {v : Int} : ∀ {l : List Int} {j : Nat}, j < low k v l → k (l.getD j 0) < v
  | [], j, h => by simp [low] at h
  | x :: l, j, h => by
    unfold low at h
    split at h
    · rename_i hx
      cases j with
      | zero => simpa using hx
      | succ j => simpa using @low_before k v l j (by omega)
    · omega
theorem low_at {k : Int → Int} {v : Int} : ∀ {l : List Int}, low k v l < l.length → v ≤ k (l.getD (low k v l) 0)
  | [], h => by simp at h
  | x :: l, h => by
    unfold low at h ⊢
    split
    · rename_i hx
      rw [if_pos hx] at h
      simpa using @low_at k v l (by simpa using h)
    · rename_i hx
      simpa using hx
theorem low_after {k : Int → Int} {v : Int} {l : List Int} (hs : Srt k l) {j : Nat} (hj : low k v l ≤ j) (hl : j < l.length) : v ≤ k (l.getD j 0) := by
  have h1 := low_at (k := k) (v := v) (l := l) (by omega)
  rcases Nat.eq_or_lt_of_le hj with e | e
  · rw [← e]; exact h1
  · have := List.pairwise_iff_getElem.1 hs (low k v l) j (by omega) hl e
    have e1 : l.getD (low k v l) 0 = l[low k v l] := by simp [List.getD, (by omega : low k v l < l.length)]
    have e2 : l.getD j 0 = l[j] := by simp [List.getD, hl]
    rw [e1] at h1
    rw [e2]
    omega
/-- Those that are the same to none of g. -/
def les (k : Int → Int) (g l : List Int) : List Int := l.filter fun x => ! g.any fun y => k y == k x
theorem les_cons (k : Int → Int) (g : List Int) (x : Int) (l : List Int) : les k g (x :: l) = if g.any (fun y => k y == k x) then les k g l else x :: les k g l := by
  unfold les
  rw [List.filter_cons]
  cases h : g.any (fun y => k y == k x) <;> simp
/-- Of lists in order: what of g stands ahead of all of l plays no part. -/
theorem les_skip {k : Int → Int} {y : Int} {g l : List Int} (h : ∀ x ∈ l, k y < k x) : les k (y :: g) l = les k g l := by
  unfold les
  refine List.filter_congr fun x hx => ?_
  have := h x hx
  rw [List.any_cons]
  have e : (k y == k x) = false := by simpa using (by omega : k y ≠ k x)
  rw [e, Bool.false_or]
end Go.Proofs.Ytblnpabgakmghaa
