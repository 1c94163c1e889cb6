/- Package lex over the loaded program: pieces, an iterator: one token behind the other. -/
import Derived.Test.YtpgcfnpnpmpkeaaD6
import Derived.Test.YtpgcfnpnpmpkeaaC7
namespace Go.Proofs.Ytpgcfnpnpmpkeaa
open Go.RowKit Go.Shelf
attribute [local go_sem] Oper.semAt_some
theorem tw_at {p : Int → Bool} : ∀ {l : List Int} {j : Nat}, j < tw p l → p (l.getD j 0) = true
  | [], j, h => by rw [tw_nil] at h; omega
  | c :: l, j, h => by
    rw [tw_cons] at h
    by_cases hc : p c = true
    · rw [if_pos hc] at h
      cases j with
      | zero => simpa using hc
      | succ j => simpa using tw_at (l := l) (j := j) (by omega)
    · rw [if_neg hc] at h; omega
theorem tw_end {p : Int → Bool} : ∀ {l : List Int}, tw p l < l.length → p (l.getD (tw p l) 0) = false
  | [], h => by simp at h
  | c :: l, h => by
    by_cases hc : p c = true
    · have e : tw p (c :: l) = tw p l + 1 := by rw [tw_cons, if_pos hc]
      rw [e] at h ⊢
      simpa using tw_end (l := l) (by simpa using h)
    · have e : tw p (c :: l) = 0 := by rw [tw_cons, if_neg hc]
      rw [e]
      simpa using hc
theorem At9.skip {b : List Int} {i : Nat} {pre : List Tk} (h : At9 b i pre) : At9 b (i + tw bkB (b.drop i)) pre := by
  have key : ∀ n, n ≤ tw bkB (b.drop i) → At9 b (i + n) pre := by
    intro n
    induction n with
    | zero => intro _; exact h
    | succ n ih =>
      intro hn
      have h1 := tw_at (p := bkB) (l := b.drop i) (j := n) (by omega)
      rw [getD_dropS] at h1
      have h2 := tw_le bkB (b.drop i)
      rw [List.length_drop] at h2
      exact (ih (by omega)).blank (by have := h.le; omega) h1
  exact key _ (Nat.le_refl _)
theorem skip_end {b : List Int} {i : Nat} (h : i + tw bkB (b.drop i) < b.length) : bkB (b.getD (i + tw bkB (b.drop i)) 0) = false := by
  have h1 := tw_end (p := bkB) (l := b.drop i) (by rw [List.length_drop]; omega)
  rwa [getD_dropS] at h1
theorem fs_le {b : List Int} {i : Nat} (h : i < b.length) : 1 ≤ fsL b i ∧ i + fsL b i ≤ b.length := by
  unfold fsL
  rw [drop_cons h]
  have h1 := tk1_pos (b.getD i 0) (b.drop (i + 1))
  have h2 := tk1_le (b.getD i 0) (b.drop (i + 1))
  rw [List.length_drop] at h2
  omega
/-- Whether what begins there is a right token. -/
def okB (b : List Int) (i : Nat) : Bool := decide (kdI (b.getD i 0) ≠ 0) && (decide (kdI (b.getD i 0) ≠ 2) || rgtB ((b.drop i).take (fsL b i)))
theorem ok_yes {b : List Int} {i : Nat} (h : i < b.length) (ho : okB b i = true) : tk1 (b.drop i) = (kdI (b.getD i 0), fsL b i) ∧ kdI (b.getD i 0) ≠ 0 := by
  refine ⟨Prod.ext ?_ rfl, ?_⟩
  · unfold okB fsL at ho
    rw [drop_cons h] at ho ⊢
    simp only [tk1_cons] at ho ⊢
    unfold kdI at ho ⊢
    cases hl : ltB (b.getD i 0) with
    | true => simp
    | false =>
      cases h2 : sgB (b.getD i 0) with
      | true => rw [hl, h2] at ho; simpa using ho
      | false => simp
  · unfold okB at ho
    intro e
    rw [e] at ho
    simp at ho
theorem ok_no {b : List Int} {i : Nat} (h : i < b.length) (ho : okB b i = false) : (tk1 (b.drop i)).1 = 0 := by
  unfold okB fsL at ho
  rw [drop_cons h] at ho ⊢
  simp only [tk1_cons] at ho ⊢
  unfold kdI at ho
  cases hl : ltB (b.getD i 0) with
  | true => rw [hl] at ho; simp at ho
  | false =>
    cases h2 : sgB (b.getD i 0) with
    | true => rw [hl, h2] at ho; simpa using ho
    | false =>
      rw [hl, h2] at ho
      simp only [Bool.false_eq_true, if_false] at ho ⊢
      by_cases q1 : b.getD i 0 = 40
      · rw [if_pos q1] at ho; simp at ho
      · by_cases q2 : b.getD i 0 = 41
        · rw [if_neg q1, if_pos q2] at ho; simp at ho
        · by_cases q3 : b.getD i 0 = 44
          · rw [if_neg q1, if_neg q2, if_pos q3] at ho; simp at ho
          · rw [if_neg q1, if_neg q2, if_neg q3]
/-- What a round of pieces is handed: a token, and whether it is right. -/
abbrev Pc := Tk × Bool
def encP (x : Pc) : Array Value := #[.agg #[.int .i64 (x.1.1 : Nat), .int .i64 (x.1.2.1 : Nat), .int .i64 (x.1.2.2 : Nat)], .bool x.2]
/-- All right so far. -/
def AllR (pre : List Pc) : Prop := ∀ y ∈ pre, y.2 = true
/-- What comes next. -/
def NxP (b : List Int) (pre : List Pc) (x : Pc) : Prop :=
  AllR pre → (x.2 = true → ∃ rest, (tks b 0).1 = pre.map (·.1) ++ x.1 :: rest) ∧ (x.2 = false → tks b 0 = (pre.map (·.1), some x.1.2.1))
/-- Where the scanning stands. -/
def StP (b : List Int) (i : Nat) (pre : List Pc) : Prop := i ≤ b.length ∧ (AllR pre → At9 b i (pre.map (·.1)) ∧ (i < b.length → bkB (b.getD i 0) = false))
theorem StP.start (b : List Int) : StP b (tw bkB b) [] := by
  have h1 := tw_le bkB b
  refine ⟨h1, fun _ => ?_⟩
  have h2 := (At9.start b).skip
  have h3 := skip_end (b := b) (i := 0)
  rw [List.drop_zero, Nat.zero_add] at h2 h3
  exact ⟨h2, h3⟩
theorem AllR.snoc {pre : List Pc} {x : Pc} (h : AllR (pre ++ [x])) : AllR pre ∧ x.2 = true :=
  ⟨fun y hy => h y (List.mem_append_left _ hy), h x (by simp)⟩
theorem At9.head {b : List Int} {i : Nat} {pre : List Tk} (h : At9 b i pre) {k n : Nat} (hi : i < b.length) (hb : bkB (b.getD i 0) = false) (h0 : tk1 (b.drop i) = (k, n)) (hk : k ≠ 0) : ∃ rest, (tks b 0).1 = pre ++ (k, i, i + n) :: rest := by
  have h1 := (h.next hi hb h0 hk).list
  rw [List.append_assoc] at h1
  exact ⟨_, h1⟩
theorem StP.nx {b : List Int} {i : Nat} {pre : List Pc} (h : StP b i pre) (hi : i < b.length) : NxP b pre ((kdI (b.getD i 0), i, i + fsL b i), okB b i) := fun ha => by
  obtain ⟨h1, h2⟩ := h.2 ha
  refine ⟨fun ho => ?_, fun ho => h1.wrong hi (h2 hi) (ok_no hi ho)⟩
  obtain ⟨h3, h4⟩ := ok_yes hi ho
  exact h1.head hi (h2 hi) h3 h4
theorem StP.next {b : List Int} {i : Nat} {pre : List Pc} (h : StP b i pre) (hi : i < b.length) : StP b (i + fsL b i + tw bkB (b.drop (i + fsL b i))) (pre ++ [((kdI (b.getD i 0), i, i + fsL b i), okB b i)]) := by
  have h5 := fs_le hi
  have h6 := tw_le bkB (b.drop (i + fsL b i))
  rw [List.length_drop] at h6
  refine ⟨by omega, fun ha => ?_⟩
  obtain ⟨ha, ho⟩ := ha.snoc
  obtain ⟨h1, h2⟩ := h.2 ha
  obtain ⟨h3, h4⟩ := ok_yes hi ho
  have h7 := h1.next hi (h2 hi) h3 h4
  rw [List.map_append]
  exact ⟨h7.skip, skip_end⟩
theorem StP.fin {b : List Int} {i : Nat} {pre : List Pc} (h : StP b i pre) (hi : ¬ i < b.length) : AllR pre → tks b 0 = (pre.map (·.1), none) := fun ha => (h.2 ha).1.fin hi
/-- The block of what lies in the box ow. -/
def Ow (ow : Option Nat) (W : World) (k : Nat) : Prop := ∃ b v, ow = some b ∧ W.cell? ⟨b, 0, none⟩ = some v ∧ v.ownBlock = some k
/-- All that lies at N and behind it is as it was, but for the block of what lies in the box ow; and the blocks Z. -/
structure KpO (ow : Option Nat) (N : Nat) (Z : List Nat) (A B : World) : Prop where
  size : A.heap.size ≤ B.heap.size
  keep : ∀ z ∈ Z, B.heap[z]? = A.heap[z]?
  rest : ∀ k, N ≤ k → k < A.heap.size → ¬ Ow ow A k → B.heap[k]? = A.heap[k]?
  own : ∀ k, Ow ow B k → Ow ow A k ∨ A.heap.size ≤ k
  lt : (∀ k, Ow ow A k → k < A.heap.size) → ∀ k, Ow ow B k → k < B.heap.size
theorem KpO.trans {ow : Option Nat} {N : Nat} {Z : List Nat} {A B C : World} (h : KpO ow N Z A B) (k : KpO ow N Z B C) : KpO ow N Z A C where
  size := Nat.le_trans h.size k.size
  keep := fun z hz => (k.keep z hz).trans (h.keep z hz)
  rest := fun q hq hl ho => by
    refine (k.rest q hq (Nat.lt_of_lt_of_le hl h.size) (fun h1 => ?_)).trans (h.rest q hq hl ho)
    rcases h.own q h1 with h2 | h2
    · exact ho h2
    · omega
  own := fun q hq => by
    rcases k.own q hq with h1 | h1
    · exact h.own q h1
    · exact Or.inr (Nat.le_trans h.size h1)
  lt := fun h1 => k.lt (h.lt h1)
theorem Ow.gr {ow : Option Nat} {A B : World} (hb : ∀ b, ow = some b → b < A.heap.size) (hg : IsGr A B) {k : Nat} (h : Ow ow B k) : Ow ow A k := by
  obtain ⟨b, v, h1, h2, h3⟩ := h
  exact ⟨b, v, h1, ((hg.below.cell (p := ⟨b, 0, none⟩) (hb b h1)).symm.trans h2), h3⟩
end Go.Proofs.Ytpgcfnpnpmpkeaa
