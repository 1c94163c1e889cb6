/- Sets as trees in plain words: of each number the one above it; sizes and least numbers at the tops. -/
import Derived.Test.YtchbnkapajnjgaaO1
namespace Go.Proofs.Ytchbnkapajnjgaa
/-- The trees u, with sizes z and least numbers m at their tops, are the sets of which x tells the least numbers. -/
structure Up (u z m x : List Int) : Prop where
  lu : u.length = x.length
  lz : z.length = x.length
  lm : m.length = x.length
  lea : Lea x
  up : ∃ d : Nat → Nat, ∀ i, i < x.length → ∃ j : Nat, u.getD i 0 = j ∧ j < x.length ∧ x.getD j 0 = x.getD i 0 ∧ (j = i ∨ d j < d i)
  one : ∀ r s : Nat, r < x.length → s < x.length → u.getD r 0 = r → u.getD s 0 = s → x.getD r 0 = x.getD s 0 → r = s
  sz : ∀ r : Nat, r < x.length → u.getD r 0 = r → z.getD r 0 = (siz x (x.getD r 0) x.length : Nat)
  ls : ∀ r : Nat, r < x.length → u.getD r 0 = r → m.getD r 0 = x.getD r 0
/-- r is the top of i. -/
structure Tp (u x : List Int) (i r : Nat) : Prop where
  lt : r < x.length
  top : u.getD r 0 = r
  same : x.getD r 0 = x.getD i 0
theorem Up.top {u z m x : List Int} (h : Up u z m x) {i : Nat} (hi : i < x.length) : ∃ r, Tp u x i r := by
  obtain ⟨d, hd⟩ := h.up
  obtain ⟨k, hk⟩ : ∃ k, d i ≤ k := ⟨_, Nat.le_refl _⟩
  induction k generalizing i with
  | zero =>
    obtain ⟨j, h1, h2, h3, h4⟩ := hd i hi
    obtain rfl : j = i := by omega
    exact ⟨j, h2, h1, h3⟩
  | succ k ih =>
    obtain ⟨j, h1, h2, h3, h4⟩ := hd i hi
    rcases h4 with rfl | h4
    · exact ⟨j, h2, h1, h3⟩
    · obtain ⟨r, q⟩ := ih h2 (by omega)
      exact ⟨r, q.lt, q.top, q.same.trans h3⟩
theorem getD_set {l : List Int} {i j : Nat} {v : Int} (hi : i < l.length) : (l.set j v).getD i 0 = if j = i then v else l.getD i 0 := by
  simp only [List.getD_eq_getElem?_getD, List.getElem?_set]
  by_cases e : j = i
  · subst e; simp [hi]
  · simp [e]
theorem jn_comm (x : List Int) (a b : Nat) : jn x b a = jn x a b := by
  unfold jn
  rw [Int.max_comm, Int.min_comm]
theorem siz_jn {x : List Int} {a b : Nat} (h : x.getD a 0 ≠ x.getD b 0) : ∀ M, M ≤ x.length → siz (jn x a b) (min (x.getD a 0) (x.getD b 0)) M = siz x (x.getD a 0) M + siz x (x.getD b 0) M
  | 0, _ => rfl
  | M + 1, hM => by
    unfold siz
    rw [siz_jn h M (by omega), jn_at (by omega)]
    split <;> split <;> split <;> (try split) <;> omega
theorem siz_jn' {x : List Int} {a b : Nat} {z : Int} (ha : z ≠ x.getD a 0) (hb : z ≠ x.getD b 0) : ∀ M, M ≤ x.length → siz (jn x a b) z M = siz x z M
  | 0, _ => rfl
  | M + 1, hM => by
    unfold siz
    rw [siz_jn' ha hb M (by omega), jn_at (by omega)]
    split <;> split <;> (try split) <;> omega
theorem cnt_jn {x : List Int} {a b : Nat} (h : x.getD a 0 ≠ x.getD b 0) (hl : Lea x) (ha : a < x.length) (hb : b < x.length) : ∀ M, M ≤ x.length → cntU (jn x a b) M + (if max (x.getD a 0) (x.getD b 0) < M then 1 else 0) = cntU x M
  | 0, _ => by
    obtain ⟨p, hp, _⟩ := hl.tail ha
    rw [hp, if_neg (by omega)]; rfl
  | M + 1, hM => by
    have ih := cnt_jn h hl ha hb M (by omega)
    unfold cntU
    rw [jn_at (by omega)]
    obtain ⟨p, hp, hp1, hp2⟩ := hl.tail ha
    obtain ⟨q, hq, hq1, hq2⟩ := hl.tail hb
    rw [hp, hq] at ih h ⊢
    obtain ⟨c, hc⟩ : ∃ c, cntU (jn x a b) M = c := ⟨_, rfl⟩
    obtain ⟨e, he⟩ : ∃ e, cntU x M = e := ⟨_, rfl⟩
    obtain ⟨y, hy⟩ : ∃ y, x.getD M 0 = y := ⟨_, rfl⟩
    have hx : max (p : Int) q = M → y = M := fun e => by
      rw [← hy]
      rcases Nat.le_total p q with h1 | h1
      · obtain rfl : q = M := by omega
        exact hq2
      · obtain rfl : p = M := by omega
        exact hp2
    have hyM : y ≤ M := hy ▸ (hl M (by omega)).2.1
    rw [hc, he] at ih
    rw [hc, he, hy]
    clear hc he hy hl hp hq hp1 hq1 hp2 hq2
    obtain ⟨t, ht⟩ : ∃ t, max (p : Int) q = t := ⟨_, rfl⟩
    obtain ⟨s, hs⟩ : ∃ s, min (p : Int) q = s := ⟨_, rfl⟩
    have h3 : s < t := by omega
    rw [ht] at ih hx
    rw [ht, hs]
    clear ht hs
    by_cases h1 : t < (M : Int)
    · rw [if_pos h1] at ih
      rw [if_pos (by omega : t < ((M + 1 : Nat) : Int))]
      by_cases hyt : y = t
      · rw [if_pos hyt, if_neg (by omega : ¬ s = (M : Int)), if_neg (by omega : ¬ y = (M : Int))]; omega
      · rw [if_neg hyt]
        split <;> omega
    · rw [if_neg h1] at ih
      by_cases h2 : t = (M : Int)
      · have h4 := hx h2
        rw [if_pos (by omega : y = t), if_neg (by omega : ¬ s = (M : Int)), if_pos (by omega : t < ((M + 1 : Nat) : Int)), if_pos h4]; omega
      · rw [if_neg (by omega : ¬ t < ((M + 1 : Nat) : Int)), if_neg (by omega : ¬ y = t)]
        split <;> omega
theorem cnt_pos {x : List Int} (hl : Lea x) {a : Nat} (ha : a < x.length) : 0 < cntU x x.length := by
  obtain ⟨p, hp, hp1, hp2⟩ := hl.tail ha
  have h1 : cntU x (p + 1) ≤ cntU x x.length := cntU_mono x (by omega)
  rw [cntU, if_pos hp2] at h1
  omega
/-- The tree of q is hung below p. -/
theorem Up.join {u z m x : List Int} {a b p q : Nat} (h : Up u z m x) (ha : a < x.length) (hb : b < x.length) (hp : Tp u x a p) (hq : Tp u x b q) (hne : x.getD a 0 ≠ x.getD b 0) :
    Up (u.set q p) (z.set p (z.getD p 0 + z.getD q 0)) (m.set p (min (m.getD p 0) (m.getD q 0))) (jn x a b) := by
  have hpq : p ≠ q := fun e => hne (by rw [← hp.same, ← hq.same, e])
  have hu : ∀ i, i < x.length → (u.set q p).getD i 0 = if q = i then (p : Int) else u.getD i 0 := fun i hi => getD_set (by rw [h.lu]; exact hi)
  have hz : ∀ i, i < x.length → (z.set p (z.getD p 0 + z.getD q 0)).getD i 0 = if p = i then z.getD p 0 + z.getD q 0 else z.getD i 0 := fun i hi => getD_set (by rw [h.lz]; exact hi)
  have hm : ∀ i, i < x.length → (m.set p (min (m.getD p 0) (m.getD q 0))).getD i 0 = if p = i then min (m.getD p 0) (m.getD q 0) else m.getD i 0 := fun i hi => getD_set (by rw [h.lm]; exact hi)
  -- a top behind it was one ahead, and isn't q
  have tops : ∀ r : Nat, r < x.length → (u.set q p).getD r 0 = r → q ≠ r ∧ u.getD r 0 = r := fun r hr e => by
    rw [hu r hr] at e
    by_cases hqr : q = r
    · rw [if_pos hqr] at e; omega
    · rw [if_neg hqr] at e; exact ⟨hqr, e⟩
  have jp : (jn x a b).getD p 0 = min (x.getD a 0) (x.getD b 0) := by rw [jn_at hp.lt, hp.same]; split <;> omega
  refine ⟨by rw [List.length_set, jn_len, h.lu], by rw [List.length_set, jn_len, h.lz], by rw [List.length_set, jn_len, h.lm], jn_lea h.lea ha hb, ?_, ?_, ?_, ?_⟩
  · obtain ⟨d, hd⟩ := h.up
    refine ⟨fun i => if x.getD i 0 = x.getD b 0 then d i + d p + 1 else d i, fun i hi => ?_⟩
    rw [jn_len] at hi ⊢
    by_cases hiq : q = i
    · subst hiq
      refine ⟨p, by rw [hu q hi, if_pos rfl], hp.lt, ?_, Or.inr ?_⟩
      · rw [jn_one hp.lt hi]; exact Or.inr ⟨Or.inl hp.same, Or.inr hq.same⟩
      · simp only
        rw [if_pos hq.same, if_neg (by rw [hp.same]; exact hne)]; omega
    · obtain ⟨j, h1, h2, h3, h4⟩ := hd i hi
      refine ⟨j, by rw [hu i hi, if_neg hiq, h1], h2, (jn_one h2 hi).2 (Or.inl h3), h4.imp id fun h5 => ?_⟩
      simp only
      rw [h3]
      split <;> omega
  · intro r s hr hs er es he
    rw [jn_len] at hr hs
    obtain ⟨r1, r2⟩ := tops r hr er
    obtain ⟨s1, s2⟩ := tops s hs es
    rcases (jn_one hr hs).1 he with e | ⟨e1, e2⟩
    · exact h.one r s hr hs r2 s2 e
    · have key : ∀ t : Nat, t < x.length → u.getD t 0 = t → q ≠ t → (x.getD t 0 = x.getD a 0 ∨ x.getD t 0 = x.getD b 0) → t = p := fun t ht et hqt e => by
        rcases e with e | e
        · exact h.one t p ht hp.lt et hp.top (e.trans hp.same.symm)
        · exact absurd (h.one t q ht hq.lt et hq.top (e.trans hq.same.symm)).symm hqt
      rw [key r hr r2 r1 e1, key s hs s2 s1 e2]
  · intro r hr er
    rw [jn_len] at hr ⊢
    obtain ⟨r1, r2⟩ := tops r hr er
    rw [hz r hr]
    by_cases hpr : p = r
    · subst hpr
      rw [if_pos rfl, jp, siz_jn hne _ (Nat.le_refl _), h.sz p hr r2, h.sz q hq.lt hq.top, hp.same, hq.same]
      omega
    · rw [if_neg hpr, h.sz r hr r2]
      have n1 : x.getD r 0 ≠ x.getD a 0 := fun e => hpr (h.one p r hp.lt hr hp.top r2 (hp.same.trans e.symm))
      have n2 : x.getD r 0 ≠ x.getD b 0 := fun e => r1 (h.one q r hq.lt hr hq.top r2 (hq.same.trans e.symm))
      have e : (jn x a b).getD r 0 = x.getD r 0 := by rw [jn_at hr, if_neg (by omega)]
      rw [e, siz_jn' n1 n2 _ (Nat.le_refl _)]
  · intro r hr er
    rw [jn_len] at hr
    obtain ⟨r1, r2⟩ := tops r hr er
    rw [hm r hr]
    by_cases hpr : p = r
    · subst hpr
      rw [if_pos rfl, jp, h.ls p hr r2, h.ls q hq.lt hq.top, hp.same, hq.same]
    · rw [if_neg hpr, h.ls r hr r2]
      have n1 : x.getD r 0 ≠ x.getD a 0 := fun e => hpr (h.one p r hp.lt hr hp.top r2 (hp.same.trans e.symm))
      have n2 : x.getD r 0 ≠ x.getD b 0 := fun e => r1 (h.one q r hq.lt hr hq.top r2 (hq.same.trans e.symm))
      rw [jn_at hr, if_neg (by omega)]
/-- Each number a tree by itself. -/
theorem Up.new (n : Nat) : Up (rng n) (List.replicate n 1) (rng n) (rng n) := by
  have e : ∀ r : Nat, r < n → siz (rng n) (r : Int) n = 1 := fun r hr => by
    have : ∀ M, M ≤ n → siz (rng n) (r : Int) M = if r < M then 1 else 0 := fun M => by
      induction M with
      | zero => intro _; rfl
      | succ M ih =>
        intro hM
        rw [siz, ih (by omega), rng_at (by omega)]
        split <;> split <;> (try split) <;> omega
    rw [this n (Nat.le_refl _), if_pos hr]
  refine ⟨rfl, by simp [rng_len], rfl, rng_lea n, ⟨fun _ => 0, fun i hi => ?_⟩, ?_, ?_, fun r _ _ => rfl⟩
  · rw [rng_len] at hi ⊢
    exact ⟨i, rng_at hi, hi, rfl, Or.inl rfl⟩
  · intro r s hr hs _ _ h
    rw [rng_len] at hr hs
    rw [rng_at hr, rng_at hs] at h
    omega
  · intro r hr _
    rw [rng_len] at hr ⊢
    rw [rng_at hr, e r hr]
    simp [List.getD, hr]
/-- How many are in one set, as its top has it: no more than there are. -/
theorem Up.two {u z m x : List Int} {a b p q : Nat} (h : Up u z m x) (hp : Tp u x a p) (hq : Tp u x b q) (hne : x.getD a 0 ≠ x.getD b 0) : ∃ i j : Nat, z.getD p 0 = i ∧ z.getD q 0 = j ∧ i + j ≤ x.length := by
  refine ⟨_, _, h.sz p hp.lt hp.top, h.sz q hq.lt hq.top, ?_⟩
  rw [hp.same, hq.same, ← siz_jn hne _ (Nat.le_refl _)]
  exact siz_le _ _ _
end Go.Proofs.Ytchbnkapajnjgaa
