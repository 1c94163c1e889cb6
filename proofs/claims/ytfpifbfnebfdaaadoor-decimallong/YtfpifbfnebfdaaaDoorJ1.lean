/- Decimal numbers in plain words: how package decimal counts, takes a text apart, and lays a point. -/
import Derived.Test.YtfpifbfnebfdaaaDoorI9
namespace Go.Proofs.YtfpifbfnebfdaaaDoor
/-- One byte more, counted no further than 2^50. -/
def cn1 (n c : Int) : Int := if dgB c = true then (if 1125899906842624 < 10 * n + (c - 48) then 1125899906842624 else 10 * n + (c - 48)) else n
def cnF (n : Int) (l : List Int) : Int := l.foldl cn1 n
theorem cnF_cons (n c : Int) (l : List Int) : cnF n (c :: l) = cnF (cn1 n c) l := rfl
theorem cnF_snoc (n c : Int) (l : List Int) : cnF n (l ++ [c]) = cn1 (cnF n l) c := by simp [cnF]
theorem cn1_range {n c : Int} (h : 0 ≤ n ∧ n ≤ 1125899906842624) : 0 ≤ cn1 n c ∧ cn1 n c ≤ 1125899906842624 := by
  unfold cn1
  split
  · rename_i hd
    have := dg_range hd
    split <;> omega
  · exact h
theorem cnF_range : ∀ (l : List Int) {n : Int}, 0 ≤ n ∧ n ≤ 1125899906842624 → 0 ≤ cnF n l ∧ cnF n l ≤ 1125899906842624
  | [], _, h => h
  | _ :: l, _, h => cnF_range l (cn1_range h)
theorem dvF_ge : ∀ {l : List Int}, Dgs l → ∀ {n : Int}, 0 ≤ n → n ≤ dvF n l
  | [], _, _, _ => Int.le_refl _
  | c :: l, h, n, hn => by
    have hc := dg_range (h c (by simp))
    have := dvF_ge (l := l) (fun x hx => h x (List.mem_cons_of_mem _ hx)) (n := n * 10 + (c - 48)) (by omega)
    rw [dvF_cons]; omega
theorem cnF_far : ∀ {l : List Int}, Dgs l → cnF 1125899906842624 l = 1125899906842624
  | [], _ => rfl
  | c :: l, h => by
    have hc := h c (by simp)
    have hr := dg_range hc
    rw [cnF_cons, show cn1 1125899906842624 c = 1125899906842624 by unfold cn1; rw [if_pos hc, if_pos (by omega)]]
    exact cnF_far (fun x hx => h x (List.mem_cons_of_mem _ hx))
theorem cnF_dgs : ∀ {l : List Int}, Dgs l → ∀ {n : Int}, 0 ≤ n → n ≤ 1125899906842624 → cnF n l = if 1125899906842624 < dvF n l then 1125899906842624 else dvF n l
  | [], _, n, _, h => by rw [dvF_nil, if_neg (by omega)]; rfl
  | c :: l, h, n, hn, h2 => by
    have hc := h c (by simp)
    have hr := dg_range hc
    have hl : Dgs l := fun x hx => h x (List.mem_cons_of_mem _ hx)
    rw [cnF_cons, dvF_cons, Int.mul_comm n 10]
    by_cases hb : 1125899906842624 < 10 * n + (c - 48)
    · rw [show cn1 n c = 1125899906842624 by unfold cn1; rw [if_pos hc, if_pos hb], cnF_far hl, if_pos]
      have := dvF_ge hl (n := 10 * n + (c - 48)) (by omega)
      omega
    · rw [show cn1 n c = 10 * n + (c - 48) by unfold cn1; rw [if_pos hc, if_neg hb]]
      exact cnF_dgs hl (by omega) (by omega)
theorem cnF_dvl {l : List Int} (h : Dgs l) : cnF 0 l = if 1125899906842624 < dvl l then 1125899906842624 else dvl l := cnF_dgs h (Int.le_refl _) (by omega)
theorem cnF_sign {c : Int} (h : dgB c = false) (l : List Int) : cnF 0 (c :: l) = cnF 0 l := by
  rw [cnF_cons, show cn1 0 c = 0 by unfold cn1; rw [h]; rfl]
/-- What stands ahead of the e, byte by byte: the digits, how many of them behind the point, whether the point has been. -/
def wh1 (x : List Int × Nat × Bool) (c : Int) : List Int × Nat × Bool :=
  if c = 46 then (x.1, x.2.1, true) else if dgB c = true then (x.1 ++ [c], (if x.2.2 = true then x.2.1 + 1 else x.2.1), x.2.2) else x
def whF (x : List Int × Nat × Bool) (l : List Int) : List Int × Nat × Bool := l.foldl wh1 x
theorem whF_snoc (x : List Int × Nat × Bool) (l : List Int) (c : Int) : whF x (l ++ [c]) = wh1 (whF x l) c := by simp [whF]
theorem whF_app (x : List Int × Nat × Bool) (l r : List Int) : whF x (l ++ r) = whF (whF x l) r := by simp [whF]
theorem whF_dgs : ∀ {l : List Int}, Dgs l → ∀ (a : List Int) (n : Nat) (b : Bool), whF (a, n, b) l = (a ++ l, (if b = true then n + l.length else n), b)
  | [], _, a, n, b => by simp [whF]
  | c :: l, h, a, n, b => by
    have hc := h c (by simp)
    have hr := dg_range hc
    rw [show whF (a, n, b) (c :: l) = whF (wh1 (a, n, b) c) l from rfl, show wh1 (a, n, b) c = (a ++ [c], (if b = true then n + 1 else n), b) by unfold wh1; rw [if_neg (by omega), if_pos hc],
      whF_dgs (fun x hx => h x (List.mem_cons_of_mem _ hx))]
    cases b
    · simp
    · simp; omega
theorem whF_lists (l : List Int) : ∀ (a : List Int) (n : Nat) (b : Bool), (whF (a, n, b) l).1.length ≤ a.length + l.length ∧ (whF (a, n, b) l).2.1 ≤ n + l.length := by
  induction l with
  | nil => intro a n b; simp [whF]
  | cons c l ih =>
    intro a n b
    rw [show whF (a, n, b) (c :: l) = whF (wh1 (a, n, b) c) l from rfl]
    obtain ⟨a', n', b', e⟩ : ∃ a' n' b', wh1 (a, n, b) c = (a', n', b') := ⟨_, _, _, rfl⟩
    have h1 : a'.length ≤ a.length + 1 ∧ n' ≤ n + 1 := by
      unfold wh1 at e
      split at e
      · injection e with e1 e2; injection e2 with e2 e3; subst e1 e2; simp
      · split at e
        · injection e with e1 e2; injection e2 with e2 e3; subst e1 e2; simp only [List.length_append, List.length_cons, List.length_nil]; split <;> omega
        · injection e with e1 e2; injection e2 with e2 e3; subst e1 e2; simp
    rw [e]
    obtain ⟨h2, h3⟩ := ih a' n' b'
    simp only [List.length_cons]
    omega
theorem whF_spl {b : List Int} {neg : Bool} {sg l1 dt l2 ep : List Int} {p : Int} (h : Spl b neg sg l1 dt l2 ep p) : ∃ t, whF ([], 0, false) (sg ++ (l1 ++ (dt ++ l2))) = (l1 ++ l2, l2.length, t) := by
  have hs : whF ([], 0, false) sg = ([], 0, false) := by
    rcases h.sign with ⟨rfl, _⟩ | ⟨rfl, _⟩ | ⟨rfl, _⟩ <;> rfl
  rw [whF_app, hs, whF_app, whF_dgs h.d1, whF_app]
  rcases h.dot with ⟨rfl, rfl⟩ | rfl
  · exact ⟨false, by simp [whF]⟩
  · refine ⟨true, ?_⟩
    rw [show whF (([] : List Int) ++ l1, (if false = true then 0 + l1.length else 0), false) [46] = (l1, 0, true) by simp [whF, wh1], whF_dgs h.d2]
    simp
/-- Without noughts ahead. -/
def hdZ (l : List Int) : List Int := l.dropWhile (fun c => c == 48)
theorem hdZ_spec : ∀ l : List Int, dvl (hdZ l) = dvl l ∧ ((hdZ l).getD 0 0 ≠ 48 ∨ hdZ l = []) ∧ (∃ z, l = List.replicate z 48 ++ hdZ l)
  | [] => ⟨rfl, Or.inr rfl, 0, rfl⟩
  | c :: l => by
    unfold hdZ
    rw [List.dropWhile_cons]
    by_cases h : c = 48
    · subst h
      obtain ⟨h1, h2, z, h3⟩ := hdZ_spec l
      rw [if_pos (by simp)]
      refine ⟨?_, h2, z + 1, ?_⟩
      · rw [dvl_cons]; unfold hdZ at h1; rw [h1]; omega
      · rw [List.replicate_succ, List.cons_append]; unfold hdZ at h3; rw [← h3]
    · rw [if_neg (by simpa using h)]
      exact ⟨rfl, Or.inl (by simpa using h), 0, rfl⟩
theorem dvl_pos {l : List Int} (h : Dgs l) (hn : l ≠ []) (h0 : l.getD 0 0 ≠ 48) : 0 < dvl l := by
  cases l with
  | nil => exact absurd rfl hn
  | cons c l =>
    have hc := dg_range (h c (by simp))
    have hb := dvl_bound (l := l) (fun x hx => h x (List.mem_cons_of_mem _ hx))
    have h1 : c ≠ 48 := by simpa using h0
    rw [dvl_cons]
    have : 1 * 10 ^ l.length ≤ (c - 48) * 10 ^ l.length := Int.mul_le_mul_of_nonneg_right (by omega) (by have := ten_pos l.length; omega)
    have := ten_pos l.length
    omega
theorem dvl_mod {l : List Int} (c : Int) (h : Dgs (l ++ [c])) (hc : c ≠ 48) : ¬ ∃ k, dvl (l ++ [c]) = k * 10 := fun ⟨k, hk⟩ => by
  have := dg_range (h c (by simp))
  rw [dvl_snoc] at hk
  omega
theorem getD_last (l : List Int) (c : Int) : (l ++ [c]).getD ((l ++ [c]).length - 1) 0 = c := by simp
theorem snoc_of {l : List Int} (h : l ≠ []) : ∃ a c, l = a ++ [c] := ⟨l.dropLast, l.getLast h, (List.dropLast_concat_getLast h).symm⟩
/-- The digits without noughts ahead or behind, and how many were behind. -/
theorem trim_spec {L : List Int} (h : Dgs L) : (dvl L = 0 ∧ hdZ (trimZ L) = []) ∨ (0 < dvl L ∧ Dgs (hdZ (trimZ L)) ∧ hdZ (trimZ L) ≠ [] ∧ (hdZ (trimZ L)).getD 0 0 ≠ 48 ∧ (hdZ (trimZ L)).getD ((hdZ (trimZ L)).length - 1) 0 ≠ 48 ∧ (trimZ L).length ≤ L.length ∧ dvl (hdZ (trimZ L)) * 10 ^ (L.length - (trimZ L).length) = dvl L) := by
  obtain ⟨z, hz, hl⟩ := trimZ_spec L
  obtain ⟨h1, h2, z2, h3⟩ := hdZ_spec (trimZ L)
  have hlen : L.length = (trimZ L).length + z := by
    have := congrArg List.length hz
    simpa using this
  have hv : dvl L = dvl (hdZ (trimZ L)) * 10 ^ z := by
    conv => lhs; rw [hz]
    rw [dvl_zeros, h1]
  have hd : Dgs (hdZ (trimZ L)) := fun c hc => h c (by rw [hz, h3]; simp [hc])
  by_cases hn : hdZ (trimZ L) = []
  · refine Or.inl ⟨?_, hn⟩
    rw [hv, hn]; simp [dvl, dvF]
  · have hp := dvl_pos hd hn (h2.resolve_right hn)
    refine Or.inr ⟨?_, hd, hn, h2.resolve_right hn, ?_, by omega, ?_⟩
    · rw [hv]; exact Int.mul_pos hp (ten_pos z)
    · obtain ⟨a, c, hac⟩ := snoc_of hn
      rw [hac, getD_last]
      refine hl c (List.replicate z2 48 ++ a).reverse ?_
      rw [h3, hac, ← List.append_assoc, List.reverse_append]; rfl
    · rw [hv, show L.length - (trimZ L).length = z by omega]
/-- The power that stands behind the e, as it is counted. -/
def wrI (l : List Int) : Int := if l.getD 0 0 = 45 then - cnF 0 l else cnF 0 l
theorem wrI_spl {b : List Int} {neg : Bool} {sg l1 dt l2 ep : List Int} {p : Int} (h : Spl b neg sg l1 dt l2 ep p) : (-1125899906842624 ≤ p ∧ p ≤ 1125899906842624 ∧ wrI ep.tail = p) ∨ (p < -1125899906842624 ∧ wrI ep.tail = -1125899906842624) ∨ (1125899906842624 < p ∧ wrI ep.tail = 1125899906842624) := by
  rcases h.pow with ⟨rfl, rfl⟩ | ⟨e, es, l3, he, rfl, hn, hd, hs⟩
  · exact Or.inl ⟨by omega, by omega, rfl⟩
  · have hb := (dvl_bound hd).1
    have hc := cnF_dvl hd
    rw [List.tail_cons]
    rcases hs with ⟨rfl | rfl, rfl⟩ | ⟨rfl, rfl⟩
    · have h45 : ¬ l3.getD 0 0 = 45 := by
        cases l3 with
        | nil => exact absurd rfl hn
        | cons c l3 => have := dg_range (hd c (by simp)); simp; omega
      rw [List.nil_append]; unfold wrI; rw [if_neg h45, hc]
      split
      · exact Or.inr (Or.inr ⟨by assumption, rfl⟩)
      · exact Or.inl ⟨by omega, by omega, rfl⟩
    · rw [List.cons_append, List.nil_append]; unfold wrI; rw [if_neg (by simp), cnF_sign (by decide), hc]
      split
      · exact Or.inr (Or.inr ⟨by assumption, rfl⟩)
      · exact Or.inl ⟨by omega, by omega, rfl⟩
    · rw [List.cons_append, List.nil_append]; unfold wrI; rw [if_pos (by simp), cnF_sign (by decide), hc]
      split
      · exact Or.inr (Or.inl ⟨by omega, rfl⟩)
      · exact Or.inl ⟨by omega, by omega, rfl⟩
/-- So many digits, of that number: one list. -/
theorem padN_uniq : ∀ (k : Nat) {B : List Int}, Dgs B → B.length = k → B = padN k (dvl B).toNat
  | 0, B, _, h => by rw [List.eq_nil_of_length_eq_zero h]; rfl
  | k + 1, B, hd, h => by
    obtain ⟨a, c, rfl⟩ := snoc_of (l := B) (fun e => by rw [e] at h; simp at h)
    have hc := dg_range (hd c (by simp))
    have ha : Dgs a := fun x hx => hd x (List.mem_append_left _ hx)
    have hb := (dvl_bound ha).1
    have e1 : (dvl (a ++ [c])).toNat / 10 = (dvl a).toNat := by rw [dvl_snoc]; omega
    have e2 : (((dvl (a ++ [c])).toNat % 10 : Nat) : Int) = c - 48 := by rw [dvl_snoc]; omega
    unfold padN
    rw [e1, e2, ← padN_uniq k ha (by simpa using h)]
    congr 2; omega
/-- The digits of a number without noughts ahead: one list. -/
theorem dgsF_uniq : ∀ (f : Nat) {A : List Int}, Dgs A → A ≠ [] → (A.length = 1 ∨ A.getD 0 0 ≠ 48) → A.length ≤ f → A = dgsF f (dvl A).toNat
  | 0, A, _, hn, _, h => absurd (List.eq_nil_of_length_eq_zero (Nat.le_zero.1 h)) hn
  | f + 1, A, hd, hn, h0, h => by
    obtain ⟨a, c, rfl⟩ := snoc_of hn
    have hc := dg_range (hd c (by simp))
    have ha : Dgs a := fun x hx => hd x (List.mem_append_left _ hx)
    have hb := (dvl_bound ha).1
    unfold dgsF
    by_cases ha0 : a = []
    · subst ha0
      have e : dvl ([] ++ [c]) = c - 48 := by rw [dvl_snoc]; simp [dvl, dvF]
      rw [e, if_pos (by omega)]
      simp; omega
    · have h1 : a.getD 0 0 ≠ 48 := by
        rcases h0 with h0 | h0
        · have := List.length_pos_iff.2 ha0
          rw [List.length_append, List.length_cons, List.length_nil] at h0; omega
        · cases a with
          | nil => exact absurd rfl ha0
          | cons x a => simpa using h0
      have hp := dvl_pos ha ha0 h1
      have e1 : (dvl (a ++ [c])).toNat / 10 = (dvl a).toNat := by rw [dvl_snoc]; omega
      have e2 : (((dvl (a ++ [c])).toNat % 10 : Nat) : Int) = c - 48 := by rw [dvl_snoc]; omega
      rw [if_neg (by rw [dvl_snoc]; omega), e1, e2, ← dgsF_uniq f ha ha0 (Or.inr h1) (by rw [List.length_append, List.length_cons, List.length_nil] at h; omega)]
      congr 2; omega
/-- Digits with at least one more than fine of them, cut so that fine of them stand behind. -/
theorem cut_spec {P : List Int} {m k : Nat} (hd : Dgs P) (hv : dvl P = (m : Int)) (hk : k < P.length) (h0 : P.length = k + 1 ∨ P.getD 0 0 ≠ 48) (h25 : P.length ≤ 25) : P.take (P.length - k) = dgsN (m / 10 ^ k) ∧ P.drop (P.length - k) = padN k (m % 10 ^ k) := by
  have hA : Dgs (P.take (P.length - k)) := hd.take _
  have hB : Dgs (P.drop (P.length - k)) := fun c hc => hd c (List.mem_of_mem_drop hc)
  have hBl : (P.drop (P.length - k)).length = k := by rw [List.length_drop]; omega
  have hAl : (P.take (P.length - k)).length = P.length - k := by rw [List.length_take]; omega
  have hs : dvl P = dvl (P.take (P.length - k)) * 10 ^ k + dvl (P.drop (P.length - k)) := by
    have := dvl_app (P.take (P.length - k)) (P.drop (P.length - k))
    rw [List.take_append_drop, hBl] at this
    exact this
  have hb := dvl_bound hB
  rw [hBl] at hb
  have ha := (dvl_bound hA).1
  have hg : P.getD 0 0 = (P.take (P.length - k)).getD 0 0 := by
    simp only [List.getD_eq_getElem?_getD]
    rw [List.getElem?_take_of_lt (by omega)]
  generalize hAe : P.take (P.length - k) = A at *
  generalize hBe : P.drop (P.length - k) = B at *
  have hq : (10 : Int) ^ k = ((10 ^ k : Nat) : Int) := by simp
  rw [hq] at hs hb
  have hpos : 0 < 10 ^ k := Nat.pow_pos (by omega)
  generalize 10 ^ k = q at *
  obtain ⟨x, hx⟩ := Int.eq_ofNat_of_zero_le ha
  obtain ⟨y, hy⟩ := Int.eq_ofNat_of_zero_le hb.1
  rw [hx, hy, hv] at hs
  have hyq : y < q := by rw [hy] at hb; omega
  have hm : m = x * q + y := by exact_mod_cast hs
  have hx2 : m / q = x := by
    rw [hm, Nat.mul_comm, Nat.mul_add_div hpos, Nat.div_eq_of_lt hyq, Nat.add_zero]
  have hy2 : m % q = y := by
    rw [hm, Nat.mul_comm, Nat.mul_add_mod, Nat.mod_eq_of_lt hyq]
  constructor
  · rw [hx2]
    have := dgsF_uniq 25 hA (fun e => by rw [e] at hAl; simp at hAl; omega) (by rcases h0 with h0 | h0; exact Or.inl (by omega); exact Or.inr (hg ▸ h0)) (by omega)
    rw [hx] at this
    exact this
  · rw [hy2]
    have := padN_uniq k hB hBl
    rw [hy] at this
    exact this
end Go.Proofs.YtfpifbfnebfdaaaDoor
