/- The corners of the hull of points in order, by two bows: plain facts. -/
import Derived.Test.YtohhlhoijanjfaaU3
namespace Go.Proofs.Ytohhlhoijanjfaa

theorem mulz_or {x y : Int} (h : x * y = 0) (hx : x ≠ 0) : y = 0 := by
  rcases Int.mul_eq_zero.1 h with h | h
  · exact absurd h hx
  · exact h
/-- What is parallel to one vector is parallel. -/
theorem parV {u1 u2 w1 w2 v1 v2 : Int} (hu : ¬ (u1 = 0 ∧ u2 = 0)) (h1 : u1 * w2 - u2 * w1 = 0) (h2 : u1 * v2 - u2 * v1 = 0) : w1 * v2 - w2 * v1 = 0 := by
  have e1 : u1 * (w1 * v2 - w2 * v1) = 0 := by grind
  have e2 : u2 * (w1 * v2 - w2 * v1) = 0 := by grind
  by_cases h : u1 = 0
  · exact mulz_or e2 (fun x => hu ⟨h, x⟩)
  · exact mulz_or e1 h
/-- Does the way (x, y) go to the right, or straight up? -/
def posV (x y : Int) : Prop := 0 < x ∨ x = 0 ∧ 0 < y
/-- Of ways that go to the right: one that is no steeper than one that is no steeper .. -/
theorem steep {u1 u2 v1 v2 w1 w2 : Int} (hu : posV u1 u2) (hv : posV v1 v2) (hw : posV w1 w2) (h1 : 0 ≤ u1 * v2 - u2 * v1) (h2 : 0 ≤ v1 * w2 - v2 * w1) : 0 ≤ u1 * w2 - u2 * w1 ∧ (0 < u1 * v2 - u2 * v1 → 0 < u1 * w2 - u2 * w1) ∧ (0 < v1 * w2 - v2 * w1 → 0 < u1 * w2 - u2 * w1) := by
  have e : v1 * (u1 * w2 - u2 * w1) = u1 * (v1 * w2 - v2 * w1) + w1 * (u1 * v2 - u2 * v1) := by grind
  rcases hv with hv | ⟨rfl, hv⟩
  · have pos : ∀ z : Int, 0 < v1 * z → 0 < z := fun z h => by
      rcases (by omega : 0 < z ∨ z ≤ 0) with g | g
      · exact g
      · have := Int.mul_nonneg (show 0 ≤ v1 by omega) (show 0 ≤ -z by omega)
        have e' : v1 * -z = -(v1 * z) := by grind
        omega
    have u0 : 0 < u1 := by
      rcases hu with h | ⟨rfl, h⟩
      · exact h
      · have := Int.mul_pos h hv
        simp at h1
        omega
    rcases hw with hw | ⟨rfl, hw⟩
    · have p1 : 0 ≤ u1 * (v1 * w2 - v2 * w1) := Int.mul_nonneg (by omega) h2
      have p2 : 0 ≤ w1 * (u1 * v2 - u2 * v1) := Int.mul_nonneg (by omega) h1
      refine ⟨?_, fun h => ?_, fun h => ?_⟩
      · rcases (by omega : u1 * w2 - u2 * w1 < 0 ∨ 0 ≤ u1 * w2 - u2 * w1) with g | g
        · have := Int.mul_neg_of_pos_of_neg hv g
          omega
        · exact g
      · have := Int.mul_pos hw h
        exact pos _ (by omega)
      · have := Int.mul_pos u0 h
        exact pos _ (by omega)
    · have := Int.mul_pos u0 hw
      simp
      omega
  · have w0 : w1 = 0 ∧ 0 < w2 := by
      rcases hw with h | h
      · have := Int.mul_pos hv h
        simp at h2
        omega
      · exact h
    obtain ⟨rfl, w0⟩ := w0
    simp at h1 h2 ⊢
    have u0 : 0 ≤ u1 := by rcases hu with h | ⟨h, _⟩ <;> omega
    refine ⟨Int.mul_nonneg u0 (by omega), fun h => Int.mul_pos ?_ w0⟩
    rcases (by omega : u1 = 0 ∨ 0 < u1) with rfl | g
    · simp at h
    · exact g
/-- The turn of three points. -/
def tP (a b c : Int × Int) : Int := turnI a.1 a.2 b.1 b.2 c.1 c.2
/-- Does a come ahead of b, where s is 1 or, the other way about, -1? -/
def ltP (s : Int) (a b : Int × Int) : Prop := posV (s * (b.1 - a.1)) (s * (b.2 - a.2))
section
variable {s : Int} {a b c d p q k k' : Int × Int}
theorem ltP.trans (hs : s = 1 ∨ s = -1) (h : ltP s a b) (h' : ltP s b c) : ltP s a c := by
  unfold ltP posV at *
  rcases hs with rfl | rfl <;> omega
theorem ltP.irrefl (h : ltP s a a) : False := by
  unfold ltP posV at h
  simp at h
theorem ltP.ne (h : ltP s a b) : a ≠ b := fun e => (e ▸ h : ltP s b b).irrefl
/-- Three points one behind the other that turn to the left, and a fourth one that does. -/
theorem bow_far (hs : s = 1 ∨ s = -1) (h1 : ltP s a b) (h2 : ltP s b c) (h3 : ltP s c q) (t1 : 0 < tP a b c) (t2 : 0 ≤ tP b c q) : 0 < tP a b q := by
  unfold ltP at *
  unfold tP turnI at *
  rcases hs with rfl | rfl
  · have := (steep h1 h2 h3 (by grind) (by grind)).2.1 (by grind)
    grind
  · have := (steep h1 h2 h3 (by grind) (by grind)).2.1 (by grind)
    grind
theorem bow_back (hs : s = 1 ∨ s = -1) (h1 : ltP s a b) (h2 : ltP s b q) (hp : ltP s p b ∨ p = b) (t1 : 0 ≤ tP a b p) (t2 : 0 < tP a b q) : 0 ≤ tP b q p := by
  rcases hp with hp | rfl
  · unfold ltP at *
    unfold tP turnI at *
    rcases hs with rfl | rfl
    · have := (steep hp h1 h2 (by grind) (by grind)).1
      grind
    · have := (steep hp h1 h2 (by grind) (by grind)).1
      grind
  · unfold tP turnI; grind
theorem bow_pop1 (hs : s = 1 ∨ s = -1) (h1 : ltP s k' k) (h3 : ltP s k q) (hp : ltP s p q ∨ p = q) (t1 : 0 ≤ tP k q p) (t2 : tP k' k q ≤ 0) : 0 ≤ tP k' q p := by
  have h4 := h1.trans hs h3
  rcases hp with hp | rfl
  · unfold ltP at *
    unfold tP turnI at *
    rcases hs with rfl | rfl
    · have := (steep hp h3 h4 (by grind) (by grind)).1
      grind
    · have := (steep hp h3 h4 (by grind) (by grind)).1
      grind
  · unfold tP turnI; grind
theorem bow_pop2 (hs : s = 1 ∨ s = -1) (h1 : ltP s k' k) (h3 : ltP s k q) (hp : ltP s k' p ∨ p = k') (t1 : 0 ≤ tP k' k p) (t2 : tP k' k q ≤ 0) : 0 ≤ tP k' q p := by
  have h4 := h1.trans hs h3
  rcases hp with hp | rfl
  · unfold ltP at *
    unfold tP turnI at *
    rcases hs with rfl | rfl
    · have := (steep h4 h1 hp (by grind) (by grind)).1
      grind
    · have := (steep h4 h1 hp (by grind) (by grind)).1
      grind
  · unfold tP turnI; grind
end
/-- What is taken off the top of the stack, before q is put on it. -/
def popK (q : Int × Int) : List (Int × Int) → List (Int × Int)
  | b :: a :: st => if tP a b q ≤ 0 then popK q (a :: st) else b :: a :: st
  | st => st
/-- The stack, behind all points of a list. -/
def bowS : List (Int × Int) → List (Int × Int) → List (Int × Int)
  | [], st => st
  | q :: l, st => bowS l (q :: popK q st)
/-- The stack's sides have all of D to the left, and turn to the left; all of it is D's. -/
def ChainK (s : Int) (D : Int × Int → Prop) : List (Int × Int) → Prop
  | [] => True
  | [a] => D a
  | b :: a :: st => D b ∧ ltP s a b ∧ (∀ p, D p → 0 ≤ tP a b p) ∧ (∀ z, st.head? = some z → 0 < tP z a b) ∧ ChainK s D (a :: st)
section
variable {s : Int} {D D' : Int × Int → Prop} {a b q : Int × Int} {st : List (Int × Int)}
theorem ChainK.more (hs : s = 1 ∨ s = -1) : ∀ {st : List (Int × Int)} {a b : Int × Int}, ChainK s D (b :: a :: st) → ltP s b q → 0 ≤ tP a b q → ChainK s (fun p => D p ∨ p = q) (b :: a :: st)
  | st, a, b, h, hq, ht => by
    obtain ⟨h1, h2, h3, h4, h5⟩ := h
    refine ⟨Or.inl h1, h2, fun p hp => ?_, h4, ?_⟩
    · rcases hp with hp | rfl
      · exact h3 p hp
      · exact ht
    · match st, h4, h5 with
      | [], _, h5 => exact Or.inl h5
      | z :: st, h4, h5 =>
        have hz := h4 z rfl
        have hz2 := h5.2.1
        exact ChainK.more hs h5 (h2.trans hs hq) (Int.le_of_lt (bow_far hs hz2 h2 hq hz ht))
theorem ChainK.one (h : ChainK s D [a]) : ChainK s (fun p => D p ∨ p = q) [a] := Or.inl h
/-- Taking off: what is left is a chain still, its top ahead of q, with all that is behind it to the left of the way to q. -/
theorem popK_inv (hs : s = 1 ∨ s = -1) : ∀ (st : List (Int × Int)) (b : Int × Int), ChainK s D (b :: st) → ltP s b q → (∀ p, D p → ltP s p q) → (∀ p, D p → ltP s p b ∨ p = b ∨ ltP s b p) → (∀ p, D p → ∀ x ∈ st, ltP s p x ∨ p = x ∨ ltP s x p) → (∀ p, D p → (ltP s b p ∨ p = b) → 0 ≤ tP b q p) →
    ∃ t st', popK q (b :: st) = t :: st' ∧ ChainK s D (t :: st') ∧ ltP s t q ∧ (∀ p, D p → (ltP s t p ∨ p = t) → 0 ≤ tP t q p) ∧ (∀ z, st'.head? = some z → 0 < tP z t q) ∧ ((b :: st).getLast? = (t :: st').getLast?) ∧ (∀ p, D p → ltP s p t ∨ p = t ∨ ltP s t p)
  | [], b, h, hb, _, hc, _, hp => ⟨b, [], rfl, h, hb, hp, fun z hz => by simp at hz, rfl, hc⟩
  | a :: st, b, h, hb, hD, hc, hcs, hp => by
    unfold popK
    by_cases ht : tP a b q ≤ 0
    · rw [if_pos ht]
      obtain ⟨h1, h2, h3, h4, h5⟩ := h
      have := popK_inv hs st a h5 (h2.trans hs hb) hD (fun p hp' => hcs p hp' a (by simp)) (fun p hp' x hx => hcs p hp' x (by simp [hx])) (fun p hDp hap => by
        rcases hc p hDp with g | rfl | g
        · exact bow_pop2 hs h2 hb hap (h3 p hDp) ht
        · exact bow_pop1 hs h2 hb (Or.inl hb) (hp p hDp (Or.inr rfl)) ht
        · exact bow_pop1 hs h2 hb (Or.inl (hD p hDp)) (hp p hDp (Or.inl g)) ht)
      obtain ⟨t, st', e1, e2, e3, e4, e5, e6, e7⟩ := this
      exact ⟨t, st', e1, e2, e3, e4, e5, by simpa using e6, e7⟩
    · rw [if_neg ht]
      exact ⟨b, a :: st, rfl, h, hb, hp, fun z hz => by simp at hz; subst hz; omega, rfl, hc⟩
/-- Putting on. -/
theorem push_inv (hs : s = 1 ∨ s = -1) {f : Int × Int} {b : Int × Int} (h : ChainK s D (b :: st)) (hlast : (b :: st).getLast? = some f) (hf : ∀ p, D p → ltP s f p ∨ p = f) (hb : ∀ p, D p → ltP s p b ∨ p = b) (hq : ∀ p, D p → ltP s p q) (hbq : ltP s b q)
    (hall : ∀ p, D p → ∀ x, D x → ltP s p x ∨ p = x ∨ ltP s x p) (hmem : ∀ x ∈ b :: st, D x) :
    ∃ t st', popK q (b :: st) = t :: st' ∧ ChainK s (fun p => D p ∨ p = q) (q :: t :: st') ∧ (q :: t :: st').getLast? = some f := by
  obtain ⟨t, st', e1, e2, e3, e4, e5, e6, e7⟩ := popK_inv hs st b h hbq hq (fun p hp => (hb p hp).imp id Or.inl) (fun p hp x hx => hall p hp x (hmem x (by simp [hx]))) (fun p hp g => by
    rcases g with g | rfl
    · rcases hb p hp with g' | rfl
      · exact ((g.trans hs g').irrefl).elim
      · exact (g.irrefl).elim
    · unfold tP turnI; grind)
  have el : (t :: st').getLast? = some f := e6.symm.trans hlast
  refine ⟨t, st', e1, ⟨Or.inr rfl, e3, fun p hp => ?_, e5, ?_⟩, ?_⟩
  · rcases hp with hp | rfl
    · rcases e7 p hp with g | g | g
      · match st', e2, e5, el with
        | [], _, _, el =>
          simp at el
          subst el
          rcases hf p hp with g' | rfl
          · exact ((g.trans hs g').irrefl).elim
          · exact (g.irrefl).elim
        | z :: st', e2, e5, _ => exact bow_back hs e2.2.1 e3 (Or.inl g) (e2.2.2.1 p hp) (e5 z rfl)
      · exact e4 p hp (Or.inr g)
      · exact e4 p hp (Or.inl g)
    · unfold tP turnI; grind
  · match st', e2, e5 with
    | [], e2, _ => exact ChainK.one e2
    | z :: st', e2, e5 => exact ChainK.more hs e2 e3 (Int.le_of_lt (e5 z rfl))
  · simpa using el
end
section
variable {s : Int}
theorem ChainK.mem {D : Int × Int → Prop} : ∀ {st : List (Int × Int)}, ChainK s D st → ∀ x ∈ st, D x
  | [], _, x, hx => by simp at hx
  | [a], h, x, hx => by simp at hx; subst hx; exact h
  | b :: a :: st, h, x, hx => by
    rcases List.mem_cons.1 hx with rfl | hx
    · exact h.1
    · exact h.2.2.2.2.mem x hx
theorem pw_any {R : Int × Int → Int × Int → Prop} : ∀ {l : List (Int × Int)}, l.Pairwise R → ∀ p ∈ l, ∀ x ∈ l, R p x ∨ p = x ∨ R x p
  | [], _, p, hp, _, _ => by simp at hp
  | y :: l, h, p, hp, x, hx => by
    rw [List.pairwise_cons] at h
    rcases List.mem_cons.1 hp with hp1 | hp1
    · rcases List.mem_cons.1 hx with hx1 | hx1
      · exact Or.inr (Or.inl (hp1.trans hx1.symm))
      · exact Or.inl (hp1 ▸ h.1 x hx1)
    · rcases List.mem_cons.1 hx with hx1 | hx1
      · exact Or.inr (Or.inr (hx1 ▸ h.1 p hp1))
      · exact pw_any h.2 p hp1 x hx1
theorem bowS_inv (hs : s = 1 ∨ s = -1) {f : Int × Int} : ∀ (l done st : List (Int × Int)) (b : Int × Int), (done ++ l).Pairwise (ltP s) → done.head? = some f → done.getLast? = some b → ChainK s (· ∈ done) (b :: st) → (b :: st).getLast? = some f →
    ∃ t st', bowS l (b :: st) = t :: st' ∧ ChainK s (· ∈ done ++ l) (t :: st') ∧ (t :: st').getLast? = some f ∧ (done ++ l).getLast? = some t ∧ (l ≠ [] → st' ≠ [])
  | [], done, st, b, _, _, hl, hc, he => ⟨b, st, rfl, by simpa using hc, he, by simpa using hl, fun h => absurd rfl h⟩
  | q :: l, done, st, b, hw, hf, hl, hc, he => by
    have hw2 := List.pairwise_append.1 hw
    have hbm : b ∈ done := List.mem_of_getLast? hl
    have hq : ∀ p, p ∈ done → ltP s p q := fun p hp => hw2.2.2 p hp q (by simp)
    have hb : ∀ p, p ∈ done → ltP s p b ∨ p = b := fun p hp => by
      obtain ⟨i, hi⟩ := List.getLast?_eq_some_iff.1 hl
      rw [hi] at hp hw2
      rcases List.mem_append.1 hp with hp | hp
      · exact Or.inl ((List.pairwise_append.1 hw2.1).2.2 p hp b (by simp))
      · exact Or.inr (by simpa using hp)
    have hf' : ∀ p, p ∈ done → ltP s f p ∨ p = f := fun p hp => by
      match done, hf, hp, hw2.1 with
      | x :: d, hf, hp, h1 =>
        simp at hf
        subst hf
        rcases List.mem_cons.1 hp with rfl | hp
        · exact Or.inr rfl
        · exact Or.inl ((List.pairwise_cons.1 h1).1 p hp)
    obtain ⟨t, st', e1, e2, e3⟩ := push_inv hs hc he hf' hb hq (hq b hbm) (fun p hp x hx => pw_any hw2.1 p hp x hx) hc.mem
    have hD : (fun p => p ∈ done ∨ p = q) = (· ∈ done ++ [q]) := by
      funext p; simp
    rw [hD] at e2
    have := bowS_inv hs l (done ++ [q]) (t :: st') q (by simpa using hw) (by
      match done, hf with
      | x :: d, hf => simpa using hf) (by simp) e2 e3
    obtain ⟨t2, st2, g1, g2, g3, g4, g5⟩ := this
    refine ⟨t2, st2, by rw [bowS, e1]; exact g1, by simpa using g2, g3, by simpa using g4, fun _ => ?_⟩
    by_cases hl0 : l = []
    · subst hl0
      rw [bowS] at g1
      injection g1 with g1 g1'
      rw [← g1']
      simp
    · exact g5 hl0
/-- What bow makes of points in order. -/
def bowL (l : List (Int × Int)) : List (Int × Int) := (bowS l []).reverse
/-- The element at i. -/
abbrev el (l : List (Int × Int)) (i : Nat) : Int × Int := l.getD i (0, 0)
theorem el_app1 (l : List (Int × Int)) (b : Int × Int) {i : Nat} (h : i < l.length) : el (l ++ [b]) i = el l i := by
  simp [List.getElem?_append, h]
theorem el_app2 (l : List (Int × Int)) (b : Int × Int) : el (l ++ [b]) l.length = b := by
  simp
theorem ChainK.idx {D : Int × Int → Prop} : ∀ {st : List (Int × Int)}, ChainK s D st →
    (∀ i, i + 1 < st.length → ltP s (el st.reverse i) (el st.reverse (i + 1)) ∧ ∀ p, D p → 0 ≤ tP (el st.reverse i) (el st.reverse (i + 1)) p) ∧
    (∀ i, i + 2 < st.length → 0 < tP (el st.reverse i) (el st.reverse (i + 1)) (el st.reverse (i + 2)))
  | [], _ => ⟨fun i h => by simp at h, fun i h => by simp at h⟩
  | [a], _ => ⟨fun i h => by simp at h, fun i h => by simp at h⟩
  | b :: a :: st, h => by
    obtain ⟨h1, h2, h3, h4, h5⟩ := h
    obtain ⟨g1, g2⟩ := ChainK.idx h5
    have e : (b :: a :: st).reverse = (a :: st).reverse ++ [b] := by simp
    have ln : (a :: st).reverse.length = st.length + 1 := by simp
    have eb : el ((a :: st).reverse ++ [b]) (st.length + 1) = b := by
      have := el_app2 (a :: st).reverse b
      rwa [ln] at this
    have ea : el (a :: st).reverse st.length = a := by
      have : (a :: st).reverse = st.reverse ++ [a] := by simp
      rw [this]
      simp
    rw [e]
    refine ⟨fun i hi => ?_, fun i hi => ?_⟩
    · simp at hi
      rcases (by omega : i + 1 < st.length + 1 ∨ i = st.length) with hi | rfl
      · rw [el_app1 _ b (by rw [ln]; omega), el_app1 _ b (by rw [ln]; omega)]
        exact g1 i (by simpa using hi)
      · rw [el_app1 _ b (by rw [ln]; omega), eb, ea]
        exact ⟨h2, h3⟩
    · simp at hi
      rcases (by omega : i + 2 < st.length + 1 ∨ i + 1 = st.length) with hi | hi
      · rw [el_app1 _ b (by rw [ln]; omega), el_app1 _ b (by rw [ln]; omega), el_app1 _ b (by rw [ln]; omega)]
        exact g2 i (by simpa using hi)
      · have : i + 2 = st.length + 1 := by omega
        rw [el_app1 _ b (by rw [ln]; omega), el_app1 _ b (by rw [ln]; omega), this, eb, hi, ea]
        match st, h4, hi with
        | z :: st, h4, hi =>
          simp at hi
          subst hi
          have : (a :: z :: st).reverse = (z :: st).reverse ++ [a] := by simp
          rw [this, el_app1 _ a (by simp)]
          have e2 : (z :: st).reverse = st.reverse ++ [z] := by simp
          have e3 : el (z :: st).reverse st.length = z := by
            rw [e2]
            simp
          rw [e3]
          exact h4 z rfl
/-- What is known of a bow over points in order: at least two of them. -/
theorem bow_spec (hs : s = 1 ∨ s = -1) {l : List (Int × Int)} (hw : l.Pairwise (ltP s)) (h2 : 2 ≤ l.length) :
    ∃ m, (bowL l).length = m + 2 ∧ (∀ x ∈ bowL l, x ∈ l) ∧ el (bowL l) 0 = el l 0 ∧ el (bowL l) (m + 1) = el l (l.length - 1) ∧
    (∀ i, i + 1 < (bowL l).length → ltP s (el (bowL l) i) (el (bowL l) (i + 1)) ∧ ∀ p, p ∈ l → 0 ≤ tP (el (bowL l) i) (el (bowL l) (i + 1)) p) ∧
    (∀ i, i + 2 < (bowL l).length → 0 < tP (el (bowL l) i) (el (bowL l) (i + 1)) (el (bowL l) (i + 2))) := by
  match l, hw, h2 with
  | f :: g :: l, hw, _ =>
    obtain ⟨t, st, e1, e2, e3, e4, e5⟩ := bowS_inv hs (f := f) (g :: l) [f] [] f (by simpa using hw) rfl rfl (by simp [ChainK]) rfl
    have hne := e5 (by simp)
    have eB : bowL (f :: g :: l) = (t :: st).reverse := by
      unfold bowL
      rw [bowS]
      show (bowS (g :: l) [f]).reverse = _
      rw [e1]
    obtain ⟨g1, g2⟩ := e2.idx
    rw [eB]
    have hl : ∃ m, st.length = m + 1 := by
      match st, hne with
      | x :: r, _ => exact ⟨r.length, rfl⟩
    obtain ⟨m, hm⟩ := hl
    refine ⟨m, by simp [hm], fun x hx => ?_, ?_, ?_, fun i hi => ?_, fun i hi => g2 i (by simpa using hi)⟩
    · exact e2.mem x (List.mem_reverse.1 hx)
    · have : (t :: st).reverse.head? = some f := by rw [List.head?_reverse]; exact e3
      rw [List.head?_eq_getElem?] at this
      show ((t :: st).reverse).getD 0 (0, 0) = f
      rw [List.getD_eq_getElem?_getD, this]
      rfl
    · have h9 : (f :: g :: l).getLast? = some t := e4
      rw [List.getLast?_eq_getElem?] at h9
      have : el (t :: st).reverse (m + 1) = t := by
        have e : (t :: st).reverse = st.reverse ++ [t] := by simp
        rw [e]
        simp [← hm]
      rw [this]
      simp only [el, List.getD, h9, Option.getD_some]
    · have := g1 i (by simpa using hi)
      exact ⟨this.1, fun p hp => this.2 p (by simpa using hp)⟩
end
/-- What h must be, to be the corners of the hull of l. -/
def HullT (h l : List (Int × Int)) : Prop :=
  0 < h.length ∧ (∀ x ∈ h, x ∈ l) ∧ (∀ p ∈ l, ltP 1 (el h 0) p ∨ p = el h 0) ∧
  (∀ i, i < h.length → ∀ p ∈ l, 0 ≤ tP (el h i) (el h ((i + 1) % h.length)) p) ∧
  (2 < h.length → ∀ i, i < h.length → 0 < tP (el h i) (el h ((i + 1) % h.length)) (el h ((i + 2) % h.length))) ∧
  (h.length ≤ 2 → ∀ p ∈ l, tP (el h 0) (el h (h.length - 1)) p = 0 ∧ (ltP 1 p (el h (h.length - 1)) ∨ p = el h (h.length - 1))) ∧
  (h.length = 2 → el h 0 ≠ el h 1)
theorem hull_one (x : Int × Int) : HullT [x] [x] := by
  have z : tP x x x = 0 := by unfold tP turnI; grind
  refine ⟨by simp, fun y hy => hy, fun p hp => Or.inr (by simpa using hp), fun i hi p hp => ?_, fun h => by simp at h, fun _ p hp => ?_, fun h => by simp at h⟩
  · simp at hi hp
    subst hi hp
    simp [z]
  · simp at hp
    subst hp
    simp [z]
theorem ltP_turn {a b : Int × Int} : ltP (-1) a b ↔ ltP 1 b a := by
  unfold ltP posV
  omega
/-- Two sides that go back on one another: all lie on one line. -/
theorem fold_line {s : Int} (hs : s = 1 ∨ s = -1) {x m y p : Int × Int} (h1 : ltP s x m) (h2 : ltP s y m) (hz : tP x m y = 0) (g1 : 0 ≤ tP x m p) (g2 : 0 ≤ tP m y p) : tP x m p = 0 := by
  have key : ∀ u1 u2 v1 v2 z1 z2 : Int, posV u1 u2 → posV v1 v2 → u1 * v2 - u2 * v1 = 0 → 0 ≤ u1 * z2 - u2 * z1 → v1 * z2 - v2 * z1 ≤ 0 → u1 * z2 - u2 * z1 = 0 := by
    intro u1 u2 v1 v2 z1 z2 hu hv he k1 k2
    have e : v1 * (u1 * z2 - u2 * z1) = u1 * (v1 * z2 - v2 * z1) := by grind
    rcases hu with hu | ⟨rfl, hu⟩
    · have hv1 : 0 < v1 := by
        rcases hv with h | ⟨rfl, h⟩
        · exact h
        · have := Int.mul_pos hu h
          simp at he
          omega
      rcases (by omega : u1 * z2 - u2 * z1 = 0 ∨ 0 < u1 * z2 - u2 * z1) with h | h
      · exact h
      · have m1 := Int.mul_pos hv1 h
        have m2 := Int.mul_nonneg (show 0 ≤ u1 by omega) (show 0 ≤ -(v1 * z2 - v2 * z1) by omega)
        have e' : u1 * -(v1 * z2 - v2 * z1) = -(u1 * (v1 * z2 - v2 * z1)) := by grind
        omega
    · have hv1 : v1 = 0 := by
        have h0 : u2 * v1 = 0 := by grind
        rcases Int.mul_eq_zero.1 h0 with h | h <;> omega
      subst hv1
      have hv2 : 0 < v2 := by rcases hv with h | ⟨_, h⟩ <;> omega
      simp at k1 k2 ⊢
      rcases (by omega : z1 = 0 ∨ 0 < z1 ∨ z1 < 0) with h | h | h
      · rw [h]; simp
      · have := Int.mul_pos hu h; omega
      · have := Int.mul_neg_of_pos_of_neg hv2 h; omega
  unfold ltP at h1 h2
  unfold tP turnI at *
  rcases hs with rfl | rfl
  · have := key (m.1 - x.1) (m.2 - x.2) (m.1 - y.1) (m.2 - y.2) (p.1 - m.1) (p.2 - m.2) (by simpa using h1) (by simpa using h2) (by grind) (by grind) (by grind)
    grind
  · have := key (x.1 - m.1) (x.2 - m.2) (y.1 - m.1) (y.2 - m.2) (m.1 - p.1) (m.2 - p.2) (by rwa [show -1 * (m.1 - x.1) = x.1 - m.1 by omega, show -1 * (m.2 - x.2) = x.2 - m.2 by omega] at h1) (by rwa [show -1 * (m.1 - y.1) = y.1 - m.1 by omega, show -1 * (m.2 - y.2) = y.2 - m.2 by omega] at h2) (by grind) (by grind) (by grind)
    grind
theorem line_three {x m a b c : Int × Int} (hne : x ≠ m) (ha : tP x m a = 0) (hb : tP x m b = 0) (hc : tP x m c = 0) : tP a b c = 0 := by
  have hn : ¬ (m.1 - x.1 = 0 ∧ m.2 - x.2 = 0) := fun h => hne (Prod.ext (by omega) (by omega))
  unfold tP turnI at *
  have := parV (u1 := m.1 - x.1) (u2 := m.2 - x.2) (w1 := b.1 - a.1) (w2 := b.2 - a.2) (v1 := c.1 - a.1) (v2 := c.2 - a.2) hn (by grind) (by grind)
  grind
theorem el_hull {L U : List (Int × Int)} {a b : Nat} (hL : L.length = a + 1) (hU : U.length = b + 1) : (L.dropLast ++ U.dropLast).length = a + b ∧ (∀ i, i < a → el (L.dropLast ++ U.dropLast) i = el L i) ∧ (∀ i, i < b → el (L.dropLast ++ U.dropLast) (a + i) = el U i) := by
  have d : ∀ (l : List (Int × Int)) (i : Nat), i + 1 < l.length → el l.dropLast i = el l i := fun l i h => by
    show l.dropLast.getD i (0, 0) = l.getD i (0, 0)
    rw [List.getD_eq_getElem?_getD, List.getD_eq_getElem?_getD, List.getElem?_dropLast, if_pos (by omega)]
  have lL : L.dropLast.length = a := by simp [hL]
  refine ⟨by simp [hL, hU], fun i hi => ?_, fun i hi => ?_⟩
  · rw [← d L i (by omega)]
    show (L.dropLast ++ U.dropLast).getD i (0, 0) = L.dropLast.getD i (0, 0)
    rw [List.getD_eq_getElem?_getD, List.getD_eq_getElem?_getD, List.getElem?_append_left (by omega)]
  · rw [← d U i (by omega)]
    show (L.dropLast ++ U.dropLast).getD (a + i) (0, 0) = U.dropLast.getD i (0, 0)
    rw [List.getD_eq_getElem?_getD, List.getD_eq_getElem?_getD, List.getElem?_append_right (by omega), lL]
    congr 2
    omega
theorem el_mem {l : List (Int × Int)} {i : Nat} (h : i < l.length) : el l i ∈ l := by
  show l.getD i (0, 0) ∈ l
  rw [List.getD_eq_getElem?_getD, List.getElem?_eq_getElem h]
  exact List.getElem_mem h
/-- The corners of the hull of points in order, each of them once. -/
theorem hull_spec {l : List (Int × Int)} (hw : l.Pairwise (ltP 1)) (h2 : 2 ≤ l.length) : HullT ((bowL l).dropLast ++ (bowL l.reverse).dropLast) l := by
  have hr : l.reverse.Pairwise (ltP (-1)) := by
    rw [List.pairwise_reverse]
    exact hw.imp (fun h => ltP_turn.2 h)
  obtain ⟨a, hL, mL, fL, lL, eL, cL⟩ := bow_spec (Or.inl rfl) hw h2
  obtain ⟨b, hU, mU, fU, lU, eU, cU⟩ := bow_spec (Or.inr rfl) hr (by simpa using h2)
  generalize bowL l = L at *
  generalize bowL l.reverse = U at *
  have r0 : el l.reverse 0 = el l (l.length - 1) := by
    show l.reverse.getD 0 (0, 0) = l.getD (l.length - 1) (0, 0)
    rw [List.getD_eq_getElem?_getD, List.getD_eq_getElem?_getD, List.getElem?_reverse (by omega)]
    rfl
  have r1 : el l.reverse (l.reverse.length - 1) = el l 0 := by
    show l.reverse.getD (l.reverse.length - 1) (0, 0) = l.getD 0 (0, 0)
    rw [List.length_reverse, List.getD_eq_getElem?_getD, List.getD_eq_getElem?_getD, List.getElem?_reverse (by omega)]
    congr 2
    omega
  rw [r0] at fU
  rw [r1] at lU
  have jM : el L (a + 1) = el U 0 := lL.trans fU.symm
  have j0 : el U (b + 1) = el L 0 := lU.trans fL.symm
  obtain ⟨hn, hi1, hi2⟩ := el_hull (a := a + 1) (b := b + 1) hL hU
  generalize L.dropLast ++ U.dropLast = h at *
  have hz : el h 0 = el L 0 := hi1 0 (by omega)
  have hl' : ∀ p ∈ l, ltP 1 (el l 0) p ∨ p = el l 0 := fun p hp => by
    match l, hw, hp with
    | x :: t, hw, hp =>
      rcases List.mem_cons.1 hp with h | h
      · exact Or.inr h
      · exact Or.inl ((List.pairwise_cons.1 hw).1 p h)
  have mU' : ∀ x ∈ U, x ∈ l := fun x hx => by simpa using mU x hx
  -- the point behind that at i, and the next one
  have nx : ∀ i, i < h.length → el h ((i + 1) % h.length) = if i < a + 1 then el L (i + 1) else el U (i + 1 - (a + 1)) := fun i hi => by
    rw [hn] at hi ⊢
    rcases (by omega : i + 1 < a + 1 ∨ i + 1 = a + 1 ∨ (a + 1 ≤ i ∧ i + 1 < a + 1 + (b + 1)) ∨ i + 1 = a + 1 + (b + 1)) with g | g | g | g
    · rw [Nat.mod_eq_of_lt (by omega), if_pos (by omega), hi1 _ g]
    · rw [Nat.mod_eq_of_lt (by omega), if_pos (by omega), g, jM]
      exact hi2 0 (by omega)
    · rw [Nat.mod_eq_of_lt (by omega), if_neg (by omega), ← hi2 _ (by omega)]
      congr 1
      omega
    · rw [g, Nat.mod_self, if_neg (by omega), hz, ← j0]
      congr 1
      omega
  have at' : ∀ i, i < h.length → el h i = if i < a + 1 then el L i else el U (i - (a + 1)) := fun i hi => by
    rw [hn] at hi
    split
    · rename_i g; exact hi1 i g
    · rw [← hi2 _ (by omega)]
      congr 1
      omega
  have nn : 2 < h.length → ∀ i, i < h.length → el h ((i + 2) % h.length) = if i + 1 < a + 1 then el L (i + 2) else if i + 1 < a + 1 + (b + 1) then el U (i + 2 - (a + 1)) else el L 1 := fun h3 i hi => by
    by_cases g : i + 1 < h.length
    · have := nx (i + 1) g
      rw [this]
      rw [hn] at g
      by_cases g' : i + 1 < a + 1
      · rw [if_pos g', if_pos g']
      · rw [if_neg g', if_neg g', if_pos g]
    · have e : (i + 2) % h.length = 1 := by
        rw [show i + 2 = h.length + 1 by omega, Nat.add_mod_left, Nat.mod_eq_of_lt (by omega)]
      rw [e, if_neg (by omega), if_neg (by omega), at' 1 (by omega)]
      split
      · rfl
      · have : a = 0 := by omega
        subst this
        exact jM.symm
  have edge : ∀ i, i < h.length → ∀ p ∈ l, 0 ≤ tP (el h i) (el h ((i + 1) % h.length)) p := fun i hi p hp => by
    rw [nx i hi, at' i hi]
    rw [hn] at hi
    by_cases g : i < a + 1
    · rw [if_pos g, if_pos g]
      exact (eL i (by omega)).2 p hp
    · rw [if_neg g, if_neg g, show i + 1 - (a + 1) = i - (a + 1) + 1 by omega]
      exact (eU (i - (a + 1)) (by omega)).2 p (by simpa using hp)
  have flat : ∀ x m : Int × Int, x ≠ m → (∀ p ∈ l, tP x m p = 0) → ¬ 2 < h.length := fun x m hx hp g => by
    rw [hn] at g
    have on : ∀ p q r, p ∈ l → q ∈ l → r ∈ l → tP p q r = 0 := fun p q r hp' hq hr => line_three hx (hp p hp') (hp q hq) (hp r hr)
    rcases (by omega : 1 ≤ a ∨ 1 ≤ b) with g' | g'
    · have := cL 0 (by omega)
      rw [on _ _ _ (mL _ (el_mem (by omega))) (mL _ (el_mem (by omega))) (mL _ (el_mem (by omega)))] at this
      omega
    · have := cU 0 (by omega)
      rw [on _ _ _ (mU' _ (el_mem (by omega))) (mU' _ (el_mem (by omega))) (mU' _ (el_mem (by omega)))] at this
      omega
  refine ⟨by omega, fun x hx => ?_, ?_, edge, fun h3 i hi => ?_, fun h3 p hp => ?_, fun h3 => ?_⟩
  · obtain ⟨i, hi, rfl⟩ := List.getElem_of_mem hx
    have : h[i] = el h i := by simp [hi]
    rw [this, at' i hi]
    rw [hn] at hi
    split
    · exact mL _ (el_mem (by omega))
    · exact mU' _ (el_mem (by omega))
  · rw [hz, fL]
    exact hl'
  · have A := at' i hi
    have B := nx i hi
    have C := nn h3 i hi
    have hi' := hi
    rw [hn] at hi'
    rcases (by omega : i + 1 < a + 1 ∨ i = a ∨ (a + 1 ≤ i ∧ i + 1 < a + 1 + (b + 1)) ∨ i + 1 = a + 1 + (b + 1)) with g | g | g | g
    · rw [if_pos (by omega)] at A B
      rw [if_pos g] at C
      rw [A, B, C]
      exact cL i (by omega)
    · subst g
      rw [if_pos (by omega)] at A B
      rw [if_neg (by omega), if_pos (by omega), show i + 2 - (i + 1) = 1 by omega] at C
      rw [A, B, C]
      have k1 := eL i (by omega)
      have k2 := eU 0 (by omega)
      rw [← jM] at k2
      have ge := k1.2 (el U 1) (mU' _ (el_mem (by omega)))
      rcases (by omega : tP (el L i) (el L (i + 1)) (el U 1) = 0 ∨ 0 < tP (el L i) (el L (i + 1)) (el U 1)) with z | z
      · refine absurd h3 (flat _ _ k1.1.ne (fun p hp => ?_))
        exact fold_line (Or.inl rfl) k1.1 (ltP_turn.1 k2.1) z (k1.2 p hp) (k2.2 p (by simpa using hp))
      · exact z
    · rw [if_neg (by omega)] at A B
      rw [if_neg (by omega), if_pos (by omega)] at C
      rw [A, B, C, show i + 1 - (a + 1) = i - (a + 1) + 1 by omega, show i + 2 - (a + 1) = i - (a + 1) + 2 by omega]
      exact cU _ (by omega)
    · have hb : i - (a + 1) = b := by omega
      rw [if_neg (by omega)] at A B
      rw [if_neg (by omega), if_neg (by omega)] at C
      rw [A, B, C, show i + 1 - (a + 1) = b + 1 by omega, hb]
      have k1 := eU b (by omega)
      have k2 := eL 0 (by omega)
      rw [← j0] at k2
      have ge := k1.2 (el L 1) (by simpa using mL _ (el_mem (by omega)))
      rcases (by omega : tP (el U b) (el U (b + 1)) (el L 1) = 0 ∨ 0 < tP (el U b) (el U (b + 1)) (el L 1)) with z | z
      · refine absurd h3 (flat _ _ k1.1.ne (fun p hp => ?_))
        exact fold_line (Or.inr rfl) k1.1 (ltP_turn.2 k2.1) z (k1.2 p (by simpa using hp)) (k2.2 p hp)
      · exact z
  · have ha : a = 0 := by omega
    have hb : b = 0 := by omega
    subst ha hb
    have e1 := edge 0 (by omega) p hp
    have e2 := edge 1 (by omega) p hp
    rw [hn] at e1 e2 ⊢
    simp at e1 e2 ⊢
    have : tP (el h 1) (el h 0) p = - tP (el h 0) (el h 1) p := by unfold tP turnI; grind
    refine ⟨by simp at this; omega, ?_⟩
    have em : el h 1 = el l (l.length - 1) := by
      rw [at' 1 (by omega), if_neg (by omega)]
      exact fU
    have hg : ltP 1 p (el h 1) ∨ p = el h 1 := by
      rw [em]
      have hl9 : l.getLast? = some (el l (l.length - 1)) := by
        rw [List.getLast?_eq_getElem?]
        show _ = some (l.getD (l.length - 1) (0, 0))
        rw [List.getD_eq_getElem?_getD, List.getElem?_eq_getElem (by omega)]
        rfl
      obtain ⟨i, hi⟩ := List.getLast?_eq_some_iff.1 hl9
      generalize el l (l.length - 1) = m at *
      rw [hi] at hp hw
      rcases List.mem_append.1 hp with hp | hp
      · exact Or.inl ((List.pairwise_append.1 hw).2.2 p hp m (by simp))
      · exact Or.inr (by simpa using hp)
    simpa using hg
  · have ha : a = 0 := by omega
    subst ha
    have k := (eL 0 (by omega)).1
    have e1 := nx 0 (by omega)
    rw [h3] at e1
    simp only [Nat.zero_add] at e1
    rw [hz]
    have e1' : el h 1 = el L 1 := e1
    rw [e1']
    exact k.ne
end Go.Proofs.Ytohhlhoijanjfaa
