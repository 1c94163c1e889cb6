/- Decimal numbers in plain words: how package decimal counts, takes a text apart, and lays a point. Package decimal over the loaded program: unit, digit, count. Package decimal over the loaded program: halves, written. Package decimal over the loaded program: whole. Package decimal over the loaded program: Digits. Package decimal over the loaded program: Scale. Package decimal over the loaded program: Text. What package decimal answers, proved. -/
import Derived.Test.YtfpifbfnebfdaaaDoorI9
import Derived.Test.YtfpifbfnebfdaaaDoorS12
import Derived.Test.YtfpifbfnebfdaaaDoorC2
import Derived.Test.YtfpifbfnebfdaaaDoorShelf4
import Derived.Test.YtfpifbfnebfdaaaDoorDA
import Derived.Test.YtfpifbfnebfdaaaDoorI10
import Derived.Test.YtfpifbfnebfdaaaDoorI14
import Derived.Lib.OthersKept
import Derived.WalkKit
import Derived.BigCall
import Derived.BigQuiet
import Derived.Laws.Concat
namespace Go.Proofs.YtfpifbfnebfdaaaDoor
/-- One byte more, counted no further than 2^50. -/
def cn1 (n c : Int) : Int := if dgB c = true then (if 1125899906842624 < 10 * n + (c - 48) then 1125899906842624 else 10 * n + (c - 48)) else n
def cnF (n : Int) (l : List Int) : Int := l.foldl cn1 n
theorem cnF_cons (n c : Int) (l : List Int) : cnF n (c :: l) = cnF (cn1 n c) l := rfl
theorem cnF_snoc (n c : Int) (l : List Int) : cnF n (l ++ [c]) = cn1 (cnF n l) c := by simp [cnF]
theorem cn1_range {n c : Int} (h : 0 ≤ n ∧ n ≤ 1125899906842624) : 0 ≤ cn1 n c ∧ cn1 n c ≤ 1125899906842624 := by
  unfold cn1
  split
  · rename_i hd
    have := dg_range hd
    split <;> omega
  · exact h
theorem cnF_range : ∀ (l : List Int) {n : Int}, 0 ≤ n ∧ n ≤ 1125899906842624 → 0 ≤ cnF n l ∧ cnF n l ≤ 1125899906842624
  | [], _, h => h
  | _ :: l, _, h => cnF_range l (cn1_range h)
theorem dvF_ge : ∀ {l : List Int}, Dgs l → ∀ {n : Int}, 0 ≤ n → n ≤ dvF n l
  | [], _, _, _ => Int.le_refl _
  | c :: l, h, n, hn => by
    have hc := dg_range (h c (by simp))
    have := dvF_ge (l := l) (fun x hx => h x (List.mem_cons_of_mem _ hx)) (n := n * 10 + (c - 48)) (by omega)
    rw [dvF_cons]; omega
theorem cnF_far : ∀ {l : List Int}, Dgs l → cnF 1125899906842624 l = 1125899906842624
  | [], _ => rfl
  | c :: l, h => by
    have hc := h c (by simp)
    have hr := dg_range hc
    rw [cnF_cons, show cn1 1125899906842624 c = 1125899906842624 by unfold cn1; rw [if_pos hc, if_pos (by omega)]]
    exact cnF_far (fun x hx => h x (List.mem_cons_of_mem _ hx))
theorem cnF_dgs : ∀ {l : List Int}, Dgs l → ∀ {n : Int}, 0 ≤ n → n ≤ 1125899906842624 → cnF n l = if 1125899906842624 < dvF n l then 1125899906842624 else dvF n l
  | [], _, n, _, h => by rw [dvF_nil, if_neg (by omega)]; rfl
  | c :: l, h, n, hn, h2 => by
    have hc := h c (by simp)
    have hr := dg_range hc
    have hl : Dgs l := fun x hx => h x (List.mem_cons_of_mem _ hx)
    rw [cnF_cons, dvF_cons, Int.mul_comm n 10]
    by_cases hb : 1125899906842624 < 10 * n + (c - 48)
    · rw [show cn1 n c = 1125899906842624 by unfold cn1; rw [if_pos hc, if_pos hb], cnF_far hl, if_pos]
      have := dvF_ge hl (n := 10 * n + (c - 48)) (by omega)
      omega
    · rw [show cn1 n c = 10 * n + (c - 48) by unfold cn1; rw [if_pos hc, if_neg hb]]
      exact cnF_dgs hl (by omega) (by omega)
theorem cnF_dvl {l : List Int} (h : Dgs l) : cnF 0 l = if 1125899906842624 < dvl l then 1125899906842624 else dvl l := cnF_dgs h (Int.le_refl _) (by omega)
theorem cnF_sign {c : Int} (h : dgB c = false) (l : List Int) : cnF 0 (c :: l) = cnF 0 l := by
  rw [cnF_cons, show cn1 0 c = 0 by unfold cn1; rw [h]; rfl]
/-- What stands ahead of the e, byte by byte: the digits, how many of them behind the point, whether the point has been. -/
def wh1 (x : List Int × Nat × Bool) (c : Int) : List Int × Nat × Bool :=
  if c = 46 then (x.1, x.2.1, true) else if dgB c = true then (x.1 ++ [c], (if x.2.2 = true then x.2.1 + 1 else x.2.1), x.2.2) else x
def whF (x : List Int × Nat × Bool) (l : List Int) : List Int × Nat × Bool := l.foldl wh1 x
theorem whF_snoc (x : List Int × Nat × Bool) (l : List Int) (c : Int) : whF x (l ++ [c]) = wh1 (whF x l) c := by simp [whF]
theorem whF_app (x : List Int × Nat × Bool) (l r : List Int) : whF x (l ++ r) = whF (whF x l) r := by simp [whF]
theorem whF_dgs : ∀ {l : List Int}, Dgs l → ∀ (a : List Int) (n : Nat) (b : Bool), whF (a, n, b) l = (a ++ l, (if b = true then n + l.length else n), b)
  | [], _, a, n, b => by simp [whF]
  | c :: l, h, a, n, b => by
    have hc := h c (by simp)
    have hr := dg_range hc
    rw [show whF (a, n, b) (c :: l) = whF (wh1 (a, n, b) c) l from rfl, show wh1 (a, n, b) c = (a ++ [c], (if b = true then n + 1 else n), b) by unfold wh1; rw [if_neg (by omega), if_pos hc],
      whF_dgs (fun x hx => h x (List.mem_cons_of_mem _ hx))]
    cases b
    · simp
    · simp; omega
theorem whF_lists (l : List Int) : ∀ (a : List Int) (n : Nat) (b : Bool), (whF (a, n, b) l).1.length ≤ a.length + l.length ∧ (whF (a, n, b) l).2.1 ≤ n + l.length := by
  induction l with
  | nil => intro a n b; simp [whF]
  | cons c l ih =>
    intro a n b
    rw [show whF (a, n, b) (c :: l) = whF (wh1 (a, n, b) c) l from rfl]
    obtain ⟨a', n', b', e⟩ : ∃ a' n' b', wh1 (a, n, b) c = (a', n', b') := ⟨_, _, _, rfl⟩
    have h1 : a'.length ≤ a.length + 1 ∧ n' ≤ n + 1 := by
      unfold wh1 at e
      split at e
      · injection e with e1 e2; injection e2 with e2 e3; subst e1 e2; simp
      · split at e
        · injection e with e1 e2; injection e2 with e2 e3; subst e1 e2; simp only [List.length_append, List.length_cons, List.length_nil]; split <;> omega
        · injection e with e1 e2; injection e2 with e2 e3; subst e1 e2; simp
    rw [e]
    obtain ⟨h2, h3⟩ := ih a' n' b'
    simp only [List.length_cons]
    omega
theorem whF_spl {b : List Int} {neg : Bool} {sg l1 dt l2 ep : List Int} {p : Int} (h : Spl b neg sg l1 dt l2 ep p) : ∃ t, whF ([], 0, false) (sg ++ (l1 ++ (dt ++ l2))) = (l1 ++ l2, l2.length, t) := by
  have hs : whF ([], 0, false) sg = ([], 0, false) := by
    rcases h.sign with ⟨rfl, _⟩ | ⟨rfl, _⟩ | ⟨rfl, _⟩ <;> rfl
  rw [whF_app, hs, whF_app, whF_dgs h.d1, whF_app]
  rcases h.dot with ⟨rfl, rfl⟩ | rfl
  · exact ⟨false, by simp [whF]⟩
  · refine ⟨true, ?_⟩
    rw [show whF (([] : List Int) ++ l1, (if false = true then 0 + l1.length else 0), false) [46] = (l1, 0, true) by simp [whF, wh1], whF_dgs h.d2]
    simp
/-- Without noughts ahead. -/
def hdZ (l : List Int) : List Int := l.dropWhile (fun c => c == 48)
theorem hdZ_spec : ∀ l : List Int, dvl (hdZ l) = dvl l ∧ ((hdZ l).getD 0 0 ≠ 48 ∨ hdZ l = []) ∧ (∃ z, l = List.replicate z 48 ++ hdZ l)
  | [] => ⟨rfl, Or.inr rfl, 0, rfl⟩
  | c :: l => by
    unfold hdZ
    rw [List.dropWhile_cons]
    by_cases h : c = 48
    · subst h
      obtain ⟨h1, h2, z, h3⟩ := hdZ_spec l
      rw [if_pos (by simp)]
      refine ⟨?_, h2, z + 1, ?_⟩
      · rw [dvl_cons]; unfold hdZ at h1; rw [h1]; omega
      · rw [List.replicate_succ, List.cons_append]; unfold hdZ at h3; rw [← h3]
    · rw [if_neg (by simpa using h)]
      exact ⟨rfl, Or.inl (by simpa using h), 0, rfl⟩
theorem dvl_pos {l : List Int} (h : Dgs l) (hn : l ≠ []) (h0 : l.getD 0 0 ≠ 48) : 0 < dvl l := by
  cases l with
  | nil => exact absurd rfl hn
  | cons c l =>
    have hc := dg_range (h c (by simp))
    have hb := dvl_bound (l := l) (fun x hx => h x (List.mem_cons_of_mem _ hx))
    have h1 : c ≠ 48 := by simpa using h0
    rw [dvl_cons]
    have : 1 * 10 ^ l.length ≤ (c - 48) * 10 ^ l.length := Int.mul_le_mul_of_nonneg_right (by omega) (by have := ten_pos l.length; omega)
    have := ten_pos l.length
    omega
theorem dvl_mod {l : List Int} (c : Int) (h : Dgs (l ++ [c])) (hc : c ≠ 48) : ¬ ∃ k, dvl (l ++ [c]) = k * 10 := fun ⟨k, hk⟩ => by
  have := dg_range (h c (by simp))
  rw [dvl_snoc] at hk
  omega
theorem getD_last (l : List Int) (c : Int) : (l ++ [c]).getD ((l ++ [c]).length - 1) 0 = c := by simp
theorem snoc_of {l : List Int} (h : l ≠ []) : ∃ a c, l = a ++ [c] := ⟨l.dropLast, l.getLast h, (List.dropLast_concat_getLast h).symm⟩
/-- The digits without noughts ahead or behind, and how many were behind. -/
theorem trim_spec {L : List Int} (h : Dgs L) : (dvl L = 0 ∧ hdZ (trimZ L) = []) ∨ (0 < dvl L ∧ Dgs (hdZ (trimZ L)) ∧ hdZ (trimZ L) ≠ [] ∧ (hdZ (trimZ L)).getD 0 0 ≠ 48 ∧ (hdZ (trimZ L)).getD ((hdZ (trimZ L)).length - 1) 0 ≠ 48 ∧ (trimZ L).length ≤ L.length ∧ dvl (hdZ (trimZ L)) * 10 ^ (L.length - (trimZ L).length) = dvl L) := by
  obtain ⟨z, hz, hl⟩ := trimZ_spec L
  obtain ⟨h1, h2, z2, h3⟩ := hdZ_spec (trimZ L)
  have hlen : L.length = (trimZ L).length + z := by
    have := congrArg List.length hz
    simpa using this
  have hv : dvl L = dvl (hdZ (trimZ L)) * 10 ^ z := by
    conv => lhs; rw [hz]
    rw [dvl_zeros, h1]
  have hd : Dgs (hdZ (trimZ L)) := fun c hc => h c (by rw [hz, h3]; simp [hc])
  by_cases hn : hdZ (trimZ L) = []
  · refine Or.inl ⟨?_, hn⟩
    rw [hv, hn]; simp [dvl, dvF]
  · have hp := dvl_pos hd hn (h2.resolve_right hn)
    refine Or.inr ⟨?_, hd, hn, h2.resolve_right hn, ?_, by omega, ?_⟩
    · rw [hv]; exact Int.mul_pos hp (ten_pos z)
    · obtain ⟨a, c, hac⟩ := snoc_of hn
      rw [hac, getD_last]
      refine hl c (List.replicate z2 48 ++ a).reverse ?_
      rw [h3, hac, ← List.append_assoc, List.reverse_append]; rfl
    · rw [hv, show L.length - (trimZ L).length = z by omega]
/-- The power that stands behind the e, as it is counted. -/
def wrI (l : List Int) : Int := if l.getD 0 0 = 45 then - cnF 0 l else cnF 0 l
theorem wrI_spl {b : List Int} {neg : Bool} {sg l1 dt l2 ep : List Int} {p : Int} (h : Spl b neg sg l1 dt l2 ep p) : (-1125899906842624 ≤ p ∧ p ≤ 1125899906842624 ∧ wrI ep.tail = p) ∨ (p < -1125899906842624 ∧ wrI ep.tail = -1125899906842624) ∨ (1125899906842624 < p ∧ wrI ep.tail = 1125899906842624) := by
  rcases h.pow with ⟨rfl, rfl⟩ | ⟨e, es, l3, he, rfl, hn, hd, hs⟩
  · exact Or.inl ⟨by omega, by omega, rfl⟩
  · have hb := (dvl_bound hd).1
    have hc := cnF_dvl hd
    rw [List.tail_cons]
    rcases hs with ⟨rfl | rfl, rfl⟩ | ⟨rfl, rfl⟩
    · have h45 : ¬ l3.getD 0 0 = 45 := by
        cases l3 with
        | nil => exact absurd rfl hn
        | cons c l3 => have := dg_range (hd c (by simp)); simp; omega
      rw [List.nil_append]; unfold wrI; rw [if_neg h45, hc]
      split
      · exact Or.inr (Or.inr ⟨by assumption, rfl⟩)
      · exact Or.inl ⟨by omega, by omega, rfl⟩
    · rw [List.cons_append, List.nil_append]; unfold wrI; rw [if_neg (by simp), cnF_sign (by decide), hc]
      split
      · exact Or.inr (Or.inr ⟨by assumption, rfl⟩)
      · exact Or.inl ⟨by omega, by omega, rfl⟩
    · rw [List.cons_append, List.nil_append]; unfold wrI; rw [if_pos (by simp), cnF_sign (by decide), hc]
      split
      · exact Or.inr (Or.inl ⟨by omega, rfl⟩)
      · exact Or.inl ⟨by omega, by omega, rfl⟩
/-- So many digits, of that number: one list. -/
theorem padN_uniq : ∀ (k : Nat) {B : List Int}, Dgs B → B.length = k → B = padN k (dvl B).toNat
  | 0, B, _, h => by rw [List.eq_nil_of_length_eq_zero h]; rfl
  | k + 1, B, hd, h => by
    obtain ⟨a, c, rfl⟩ := snoc_of (l := B) (fun e => by rw [e] at h; simp at h)
    have hc := dg_range (hd c (by simp))
    have ha : Dgs a := fun x hx => hd x (List.mem_append_left _ hx)
    have hb := (dvl_bound ha).1
    have e1 : (dvl (a ++ [c])).toNat / 10 = (dvl a).toNat := by rw [dvl_snoc]; omega
    have e2 : (((dvl (a ++ [c])).toNat % 10 : Nat) : Int) = c - 48 := by rw [dvl_snoc]; omega
    unfold padN
    rw [e1, e2, ← padN_uniq k ha (by simpa using h)]
    congr 2; omega
/-- The digits of a number without noughts ahead: one list. -/
theorem dgsF_uniq : ∀ (f : Nat) {A : List Int}, Dgs A → A ≠ [] → (A.length = 1 ∨ A.getD 0 0 ≠ 48) → A.length ≤ f → A = dgsF f (dvl A).toNat
  | 0, A, _, hn, _, h => absurd (List.eq_nil_of_length_eq_zero (Nat.le_zero.1 h)) hn
  | f + 1, A, hd, hn, h0, h => by
    obtain ⟨a, c, rfl⟩ := snoc_of hn
    have hc := dg_range (hd c (by simp))
    have ha : Dgs a := fun x hx => hd x (List.mem_append_left _ hx)
    have hb := (dvl_bound ha).1
    unfold dgsF
    by_cases ha0 : a = []
    · subst ha0
      have e : dvl ([] ++ [c]) = c - 48 := by rw [dvl_snoc]; simp [dvl, dvF]
      rw [e, if_pos (by omega)]
      simp; omega
    · have h1 : a.getD 0 0 ≠ 48 := by
        rcases h0 with h0 | h0
        · have := List.length_pos_iff.2 ha0
          rw [List.length_append, List.length_cons, List.length_nil] at h0; omega
        · cases a with
          | nil => exact absurd rfl ha0
          | cons x a => simpa using h0
      have hp := dvl_pos ha ha0 h1
      have e1 : (dvl (a ++ [c])).toNat / 10 = (dvl a).toNat := by rw [dvl_snoc]; omega
      have e2 : (((dvl (a ++ [c])).toNat % 10 : Nat) : Int) = c - 48 := by rw [dvl_snoc]; omega
      rw [if_neg (by rw [dvl_snoc]; omega), e1, e2, ← dgsF_uniq f ha ha0 (Or.inr h1) (by rw [List.length_append, List.length_cons, List.length_nil] at h; omega)]
      congr 2; omega
/-- Digits with at least one more than fine of them, cut so that fine of them stand behind. -/
theorem cut_spec {P : List Int} {m k : Nat} (hd : Dgs P) (hv : dvl P = (m : Int)) (hk : k < P.length) (h0 : P.length = k + 1 ∨ P.getD 0 0 ≠ 48) (h25 : P.length ≤ 25) : P.take (P.length - k) = dgsN (m / 10 ^ k) ∧ P.drop (P.length - k) = padN k (m % 10 ^ k) := by
  have hA : Dgs (P.take (P.length - k)) := hd.take _
  have hB : Dgs (P.drop (P.length - k)) := fun c hc => hd c (List.mem_of_mem_drop hc)
  have hBl : (P.drop (P.length - k)).length = k := by rw [List.length_drop]; omega
  have hAl : (P.take (P.length - k)).length = P.length - k := by rw [List.length_take]; omega
  have hs : dvl P = dvl (P.take (P.length - k)) * 10 ^ k + dvl (P.drop (P.length - k)) := by
    have := dvl_app (P.take (P.length - k)) (P.drop (P.length - k))
    rw [List.take_append_drop, hBl] at this
    exact this
  have hb := dvl_bound hB
  rw [hBl] at hb
  have ha := (dvl_bound hA).1
  have hg : P.getD 0 0 = (P.take (P.length - k)).getD 0 0 := by
    simp only [List.getD_eq_getElem?_getD]
    rw [List.getElem?_take_of_lt (by omega)]
  generalize hAe : P.take (P.length - k) = A at *
  generalize hBe : P.drop (P.length - k) = B at *
  have hq : (10 : Int) ^ k = ((10 ^ k : Nat) : Int) := by simp
  rw [hq] at hs hb
  have hpos : 0 < 10 ^ k := Nat.pow_pos (by omega)
  generalize 10 ^ k = q at *
  obtain ⟨x, hx⟩ := Int.eq_ofNat_of_zero_le ha
  obtain ⟨y, hy⟩ := Int.eq_ofNat_of_zero_le hb.1
  rw [hx, hy, hv] at hs
  have hyq : y < q := by rw [hy] at hb; omega
  have hm : m = x * q + y := by exact_mod_cast hs
  have hx2 : m / q = x := by
    rw [hm, Nat.mul_comm, Nat.mul_add_div hpos, Nat.div_eq_of_lt hyq, Nat.add_zero]
  have hy2 : m % q = y := by
    rw [hm, Nat.mul_comm, Nat.mul_add_mod, Nat.mod_eq_of_lt hyq]
  constructor
  · rw [hx2]
    have := dgsF_uniq 25 hA (fun e => by rw [e] at hAl; simp at hAl; omega) (by rcases h0 with h0 | h0; exact Or.inl (by omega); exact Or.inr (hg ▸ h0)) (by omega)
    rw [hx] at this
    exact this
  · rw [hy2]
    have := padN_uniq k hB hBl
    rw [hy] at this
    exact this
end Go.Proofs.YtfpifbfnebfdaaaDoor
namespace Go.Proofs.YtfpifbfnebfdaaaDoor
open Go.RowKit Go.Shelf
attribute [local go_sem] Gr.size Gr.cell? Gr.frozen? Gr.setCell Gr.drew Gr.drewN Gr.of_drew Gr.of_drewN Gr.gr Gr.lt_of1 Gr.le_of1 Gr.lt_of2 Gr.le_of2 Gr.lt_of3 Gr.le_of3 Gr.lt_of4 Gr.le_of4 Gr.lt_of5 Gr.le_of5 Gr.lt_of6 Gr.le_of6 Gr.lt_of7 Gr.le_of7 Gr.lt_of8 Gr.le_of8 Gr.lt_of9 Gr.le_of9 Gr.lt_of10 Gr.le_of10 Gr.lt_of11 Gr.le_of11 Gr.lt_of12 Gr.le_of12 Gr.lt_of13 Gr.le_of13 Gr.lt_of14 Gr.le_of14 Gr.lt_of15 Gr.le_of15 Gr.lt_of16 Gr.le_of16 Gr.lt_of17 Gr.le_of17 Gr.lt_of18 Gr.le_of18 Gr.lt_of19 Gr.le_of19 Gr.lt_of20 Gr.le_of20 Gr.lt_of21 Gr.le_of21 Gr.lt_of22 Gr.le_of22 Gr.lt_of23 Gr.le_of23 Gr.lt_of24 Gr.le_of24
set_option maxRecDepth 20000 in set_option maxHeartbeats 2000000 in
theorem ddigit_any (c : Int) (w : World) : Calls Tryd.prog 38 #[.int .i32 c] w fun e w' => e = .returned (.bool (dgB c)) ∧ w' = w := by
  obtain ⟨b, hb⟩ : ∃ b, dgB c = b := ⟨_, rfl⟩
  rw [hb]
  unfold dgB at hb
  by_cases h : 48 ≤ c
  · have hb2 : decide (c ≤ 57) = b := by rw [← hb, decide_eq_true h]; rfl
    have h' : decide (48 ≤ c) = true := decide_eq_true h
    clear hb
    go_enter Tryd.func38, Tryd.ntmps38
    go_wp2_with fail
    go_ret
    first | exact ⟨rfl, rfl⟩ | (refine ⟨?_, rfl⟩; rw [← hb2]; rfl)
  · have hb2 : b = false := by rw [← hb, decide_eq_false h]; rfl
    subst hb2
    have h' : decide (48 ≤ c) = false := decide_eq_false h
    clear hb
    go_enter Tryd.func38, Tryd.ntmps38
    go_wp2_with fail
    go_ret
    exact ⟨rfl, rfl⟩
set_option maxRecDepth 20000 in set_option maxHeartbeats 2000000 in
theorem dunit_any (n : Int) (b : Bool) (hb : decide (0 ≤ n ∧ n ≤ 9) = b) (w : World) : Calls Tryd.prog 22 #[.int .i64 n] w fun e w' => e = .returned (.bool b) ∧ w' = w := by
  by_cases h : 0 ≤ n
  · have hb2 : decide (n ≤ 9) = b := by rw [← hb]; simp [h]
    have h' : decide (0 ≤ n) = true := decide_eq_true h
    clear hb
    go_enter Tryd.func22, Tryd.ntmps22
    go_wp2_with fail
    go_ret
    first | exact ⟨rfl, rfl⟩ | (refine ⟨?_, rfl⟩; rw [← hb2]; rfl)
  · have hb2 : b = false := by rw [← hb]; simp [h]
    subst hb2
    have h' : decide (0 ≤ n) = false := decide_eq_false h
    clear hb
    go_enter Tryd.func22, Tryd.ntmps22
    go_wp2_with fail
    go_ret
    exact ⟨rfl, rfl⟩
/-- Bytes below 128 alone. -/
def Asc (l : List Int) : Prop := ∀ c ∈ l, c < 128
theorem Asc.at {s : ByteArray} (h : Asc (bts s)) {i : Nat} (hi : i < s.size) : (s[i]'hi).toNat < 128 := by
  have h1 := bts_at hi
  have h2 : (bts s).getD i 0 ∈ bts s := by
    simp only [List.getD_eq_getElem?_getD, List.getElem?_eq_getElem (show i < (bts s).length by rw [bts_len]; exact hi), Option.getD_some]
    exact List.getElem_mem _
  have := h _ h2
  rw [h1] at this
  omega
theorem take_at {s : ByteArray} {i : Nat} (hi : i < s.size) : (bts s).take (i + 1) = (bts s).take i ++ [((s[i]'hi).toNat : Int)] := by
  rw [← bts_at hi, List.take_add_one, List.getD_eq_getElem?_getD, List.getElem?_eq_getElem (show i < (bts s).length by rw [bts_len]; exact hi)]
  rfl
set_option maxRecDepth 20000 in set_option maxHeartbeats 2000000 in
theorem dcount_any (s : ByteArray) (w : World) (hs : s.size ≤ 100000) (ha : Asc (bts s)) : Calls Tryd.prog 23 #[.string s] w fun e w' => e = .returned (.int .i64 (cnF 0 (bts s))) ∧ IsGr w w' := by
  have HS : Hid (s.size ≤ 100000 ∧ Asc (bts s)) := ⟨hs, ha⟩
  clear hs ha
  go_enter Tryd.func23, Tryd.ntmps23
  go_wp2_with fail
  go_loopg [3] s.size (fun r p3 wr => ∃ i, i + r = s.size ∧ p3 = .int .i64 (cnF 0 ((bts s).take i)) ∧ wr.heap[w.heap.size]? = some (.stringIter s i) ∧ Below w.heap.size w wr)
  case atStart =>
    exact ⟨0, by omega, rfl, by simpa using World.iter_heap w s 0, (Below.refl _ w).alloc (Nat.le_refl _) _⟩
  case round =>
    obtain ⟨i, hk, rfl, hit, hbw⟩ := hrel
    have hsz : w.heap.size < wr.heap.size := (Array.getElem?_eq_some_iff.1 hit).1
    obtain ⟨n, hn⟩ : ∃ n, cnF 0 ((bts s).take i) = n := ⟨_, rfl⟩
    have hr := cnF_range ((bts s).take i) (n := 0) (by omega)
    rw [hn] at hr ⊢
    by_cases hp : i < s.size
    · have hA := HS.out.2.at hp
      have hnx := fun ty => Lib.run_next_ascii_at (P := Tryd.prog) wr w.heap.size s i ty hit hp hA
      have hit2 := Lib.iterAt_heap wr w.heap.size s i (i + 1) hit
      have hbw2 := Lib.below_iterAt hbw (k := w.heap.size) (Nat.le_refl _) s (i + 1)
      have hT := take_at hp
      obtain ⟨c, hc⟩ : ∃ c : Int, ((s[i]'hp).toNat : Int) = c := ⟨_, rfl⟩
      rw [hc] at hnx hT
      have hcr : 0 ≤ c ∧ c < 128 := by omega
      have HC : Hid (cnF 0 ((bts s).take (i + 1)) = cn1 n c) := by show _ = _; rw [hT, cnF_snoc, hn]
      obtain ⟨W2, hW2⟩ : ∃ W2, wr.iterAt w.heap.size s (i + 1) = W2 := ⟨_, rfl⟩
      rw [hW2] at hnx hit2 hbw2
      clear hT hc hA hit hbw hW2 hn
      cases hd : dgB c with
      | true =>
        have hdr := dg_range hd
        obtain ⟨m, hm2⟩ : ∃ m, min (10 * n + (c - 48)) 1125899906842624 = m := ⟨_, rfl⟩
        have hm : (if 1125899906842624 < 10 * n + (c - 48) then 1125899906842624 else 10 * n + (c - 48)) = m := by rw [← hm2]; omega
        have HM : Hid (cnF 0 ((bts s).take (i + 1)) = m) := by show _ = _; rw [HC.out, ← hm]; unfold cn1; rw [if_pos hd]
        have e1 : IntKind.i64.wrap (10 * n) = 10 * n := by rw [IntKind.wrap_i64]; omega
        have e2 : IntKind.i32.wrap (c - 48) = c - 48 := by rw [IntKind.wrap_i32]; omega
        have e3 : IntKind.i64.wrap (c - 48) = c - 48 := by rw [IntKind.wrap_i64]; omega
        have e4 : IntKind.i64.wrap (10 * n + (c - 48)) = 10 * n + (c - 48) := by rw [IntKind.wrap_i64]; omega
        go_wp2_with fail
        refine (ddigit_any c _).mono ?_
        rintro e w2 ⟨rfl, rfl⟩
        rw [hd]
        go_wp2_with fail
        go_roundg (s.size - (i + 1))
        case measure => omega
        case rel =>
          refine ⟨i + 1, by omega, ?_, hit2, hbw2⟩
          rw [HM.out]
      | false =>
        go_wp2_with fail
        refine (ddigit_any c _).mono ?_
        rintro e w2 ⟨rfl, rfl⟩
        rw [hd]
        go_wp2_with fail
        go_roundg (s.size - (i + 1))
        case measure => omega
        case rel =>
          refine ⟨i + 1, by omega, ?_, hit2, hbw2⟩
          rw [HC.out]; unfold cn1; rw [hd]; rfl
    · have hnx := fun ty => Lib.run_next_end_at (P := Tryd.prog) wr w.heap.size s i ty hit hp
      go_wp2_with fail
      go_ret
      rw [← hn, List.take_of_length_le (by rw [bts_len]; omega)]
      exact ⟨rfl, IsGr.of_below hbw⟩
end Go.Proofs.YtfpifbfnebfdaaaDoor
namespace Go.Proofs.YtfpifbfnebfdaaaDoor
open Go.RowKit Go.Shelf
attribute [local go_sem] Gr.size Gr.cell? Gr.frozen? Gr.setCell Gr.drew Gr.drewN Gr.of_drew Gr.of_drewN Gr.gr Gr.lt_of1 Gr.le_of1 Gr.lt_of2 Gr.le_of2 Gr.lt_of3 Gr.le_of3 Gr.lt_of4 Gr.le_of4 Gr.lt_of5 Gr.le_of5 Gr.lt_of6 Gr.le_of6 Gr.lt_of7 Gr.le_of7 Gr.lt_of8 Gr.le_of8 Gr.lt_of9 Gr.le_of9 Gr.lt_of10 Gr.le_of10 Gr.lt_of11 Gr.le_of11 Gr.lt_of12 Gr.le_of12 Gr.lt_of13 Gr.le_of13 Gr.lt_of14 Gr.le_of14 Gr.lt_of15 Gr.le_of15 Gr.lt_of16 Gr.le_of16 Gr.lt_of17 Gr.le_of17 Gr.lt_of18 Gr.le_of18 Gr.lt_of19 Gr.le_of19 Gr.lt_of20 Gr.le_of20 Gr.lt_of21 Gr.le_of21 Gr.lt_of22 Gr.le_of22 Gr.lt_of23 Gr.le_of23 Gr.lt_of24 Gr.le_of24
/-- Where the e stands. -/
def idxI : List Int → Int
  | [] => -1
  | c :: l => if c = 101 ∨ c = 69 then 0 else if idxI l = -1 then -1 else idxI l + 1
theorem idx_eq : ∀ l : List UInt8, Lib.indexAny l [101, 69] = idxI (l.map fun b => (b.toNat : Int))
  | [] => rfl
  | b :: l => by
    have h : ([101, 69] : List UInt8).contains b = true ↔ ((b.toNat : Int) = 101 ∨ (b.toNat : Int) = 69) := by
      have e1 : (b = 101) ↔ ((b.toNat : Int) = 101) := by rw [← UInt8.toNat_inj]; simp; omega
      have e2 : (b = 69) ↔ ((b.toNat : Int) = 69) := by rw [← UInt8.toNat_inj]; simp; omega
      rw [← e1, ← e2]; simp
    rw [List.map_cons, Lib.indexAny, idxI, idx_eq l]
    by_cases h1 : (b.toNat : Int) = 101 ∨ (b.toNat : Int) = 69
    · rw [if_pos (h.2 h1), if_pos h1]
    · rw [if_neg (fun e => h1 (h.1 e)), if_neg h1]
      simp only [beq_iff_eq]
theorem idxI_none : ∀ {l : List Int}, (∀ c ∈ l, c ≠ 101 ∧ c ≠ 69) → idxI l = -1
  | [], _ => rfl
  | c :: l, h => by
    have := h c (by simp)
    rw [idxI, if_neg (by omega), idxI_none (fun x hx => h x (List.mem_cons_of_mem _ hx))]; rfl
theorem idxI_at {e : Int} (he : e = 101 ∨ e = 69) (r : List Int) : ∀ {l : List Int}, (∀ c ∈ l, c ≠ 101 ∧ c ≠ 69) → idxI (l ++ e :: r) = (l.length : Nat)
  | [], _ => by rw [List.nil_append, idxI, if_pos he]; rfl
  | c :: l, h => by
    have := h c (by simp)
    rw [List.cons_append, idxI, if_neg (by omega), idxI_at he r (fun x hx => h x (List.mem_cons_of_mem _ hx)), if_neg (by omega), List.length_cons]
    omega
/-- What stands ahead of the e. -/
theorem Spl.noe {b : List Int} {neg : Bool} {sg l1 dt l2 ep : List Int} {p : Int} (h : Spl b neg sg l1 dt l2 ep p) : ∀ c ∈ sg ++ (l1 ++ (dt ++ l2)), c ≠ 101 ∧ c ≠ 69 := fun c hc => by
  simp only [List.mem_append] at hc
  rcases hc with hc | hc | hc | hc
  · rcases h.sign with ⟨rfl, _⟩ | ⟨rfl, _⟩ | ⟨rfl, _⟩ <;> simp at hc <;> omega
  · have := dg_range (h.d1 c hc); omega
  · rcases h.dot with ⟨rfl, _⟩ | rfl <;> simp at hc; omega
  · have := dg_range (h.d2 c hc); omega
theorem Spl.asc {b : List Int} {neg : Bool} {sg l1 dt l2 ep : List Int} {p : Int} (h : Spl b neg sg l1 dt l2 ep p) : Asc b := fun c hc => by
  rw [h.eq] at hc
  simp only [List.mem_append] at hc
  rcases hc with hc | hc | hc | hc | hc
  · rcases h.sign with ⟨rfl, _⟩ | ⟨rfl, _⟩ | ⟨rfl, _⟩ <;> simp at hc <;> omega
  · have := dg_range (h.d1 c hc); omega
  · rcases h.dot with ⟨rfl, _⟩ | rfl <;> simp at hc; omega
  · have := dg_range (h.d2 c hc); omega
  · rcases h.pow with ⟨rfl, _⟩ | ⟨e, es, l3, he, rfl, _, hd, hs⟩
    · simp at hc
    · simp only [List.mem_cons, List.mem_append] at hc
      rcases hc with rfl | hc | hc
      · omega
      · rcases hs with ⟨rfl | rfl, _⟩ | ⟨rfl, _⟩ <;> simp at hc <;> omega
      · have := dg_range (hd c hc); omega
theorem asc_data {s : ByteArray} (h : Asc (bts s)) : ∀ (j : Nat) b, s.data.toList[j]? = some b → b.toNat < 128 := fun j b hb => by
  have : (b.toNat : Int) ∈ bts s := List.mem_map.2 ⟨b, List.mem_of_getElem? hb, rfl⟩
  have := h _ this
  omega
theorem asc_eE : ∀ (j : Nat) b, (ByteArray.mk #[101, 69]).data.toList[j]? = some b → b.toNat < 128 := fun j b hb => by
  have := List.mem_of_getElem? hb
  simp at this
  rcases this with rfl | rfl <;> decide
set_option maxRecDepth 20000 in set_option maxHeartbeats 2000000 in
theorem dhalves_any (s : ByteArray) (w : World) (hs : s.size ≤ 3000) (neg : Bool) (sg l1 dt l2 ep : List Int) (p : Int) (h : Spl (bts s) neg sg l1 dt l2 ep p) : Calls Tryd.prog 35 #[.string s] w fun e w' => ∃ s1 s2, e = .returned (.tuple #[.string s1, .string s2]) ∧ bts s1 = sg ++ (l1 ++ (dt ++ l2)) ∧ bts s2 = ep.tail ∧ IsGr w w' := by
  have CI := Tryd.strings_IndexAny_laid s { data := #[101, 69] } w (by omega) (by decide) (asc_data h.asc) asc_eE
  have e1 : Lib.indexAny s.data.toList (ByteArray.mk #[101, 69]).data.toList = idxI (bts s) := idx_eq _
  rw [e1] at CI
  have heq : bts s = (sg ++ (l1 ++ (dt ++ l2))) ++ ep := by rw [h.eq]; simp only [List.append_assoc]
  have hn := h.noe
  generalize sg ++ (l1 ++ (dt ++ l2)) = H at *
  rcases h.pow with ⟨rfl, _⟩ | ⟨e, es, l3, he, rfl, _⟩
  · rw [List.append_nil] at heq
    rw [heq, idxI_none hn] at CI
    clear h hs hn e1
    go_enter Tryd.func35, Tryd.ntmps35
    go_wp2_with fail
    refine CI.mono ?_
    rintro e w1 ⟨rfl, hb⟩
    go_wp2_with fail
    exact bodyPost_ret (v := .tuple #[.string s, .string { data := #[] }]) (by simp [results, Tryd.results35, go_sem]) rfl ⟨_, _, rfl, heq, rfl, IsGr.of_below hb⟩
  · rw [heq, idxI_at he _ hn] at CI
    have hlen : H.length + 1 ≤ s.size := by
      rw [← bts_len, heq, List.length_append, List.length_cons]; omega
    have b1 : bts (s.extract 0 H.length) = H := by rw [bts_extract, heq]; simp
    have b2 : bts (s.extract (H.length + 1) s.size) = es ++ l3 := by
      rw [bts_extract, List.take_of_length_le (by rw [List.length_drop, bts_len]; omega), heq]; simp
    obtain ⟨k, hk⟩ : ∃ k, H.length = k := ⟨_, rfl⟩
    rw [hk] at CI hlen b1 b2
    have q1 : (0 : Int) ≤ k := by omega
    have q2 : (k : Int) ≤ s.size := by omega
    have q3 : (k : Int) + 1 ≤ s.size := by omega
    have e2 : IntKind.i64.wrap ((k : Int) + 1) = (k : Int) + 1 := by rw [IntKind.wrap_i64]; omega
    have HB : Hid (bts (s.extract 0 k) = H ∧ bts (s.extract (k + 1) s.size) = es ++ l3) := ⟨b1, b2⟩
    clear h hs hn heq hk b1 b2 e1 he
    go_enter Tryd.func35, Tryd.ntmps35
    go_wp2_with fail
    refine CI.mono ?_
    clear CI
    rintro e w1 ⟨rfl, hb⟩
    go_upto_region 3 with fail
    go_quiet (fail)
    go_wp2_with fail
    exact bodyPost_ret (v := .tuple #[.string (s.extract 0 k), .string (s.extract (k + 1) s.size)]) (by simp [results, Tryd.results35, go_sem]) rfl ⟨_, _, rfl, HB.out.1, HB.out.2, (IsGr.of_below hb).trans (by with_reducible repeat (first | exact IsGr.refl _ | refine IsGr.gr ?_ _ _ | refine IsGr.alloc ?_ _ | refine IsGr.drew ?_ | refine IsGr.drewN ?_ _))⟩
theorem pre_eq : ∀ l : List UInt8, Lib.hasPrefix l [45] = decide ((l.map fun b => (b.toNat : Int)).getD 0 0 = 45)
  | [] => rfl
  | b :: l => by
    have e1 : (45 = b) ↔ ((b.toNat : Int) = 45) := by rw [← UInt8.toNat_inj]; simp; omega
    unfold Lib.hasPrefix
    by_cases h : (b.toNat : Int) = 45
    · rw [List.map_cons, List.getD_cons_zero, decide_eq_true h, ← e1.2 h]; rfl
    · rw [List.map_cons, List.getD_cons_zero, decide_eq_false h]
      have : (45 == b) = false := by rw [beq_eq_false_iff_ne]; exact fun e => h (e1.1 e)
      simp [List.isPrefixOf, this]
set_option maxRecDepth 20000 in set_option maxHeartbeats 2000000 in
theorem dwritten_any (s : ByteArray) (w : World) (hs : s.size ≤ 3000) (ha : Asc (bts s)) : Calls Tryd.prog 37 #[.string s] w fun e w' => e = .returned (.int .i64 (wrI (bts s))) ∧ IsGr w w' := by
  have CP := fun w => Tryd.strings_HasPrefix s { data := #[45] } w
  have e1 : Lib.hasPrefix s.data.toList (ByteArray.mk #[45]).data.toList = decide ((bts s).getD 0 0 = 45) := pre_eq _
  have CC := fun w => dcount_any s w (by omega) ha
  have hr := cnF_range (bts s) (n := 0) (by omega)
  have HW : Hid (wrI (bts s) = if (bts s).getD 0 0 = 45 then - cnF 0 (bts s) else cnF 0 (bts s)) := rfl
  obtain ⟨n, hn⟩ : ∃ n, cnF 0 (bts s) = n := ⟨_, rfl⟩
  rw [hn] at CC hr HW
  rw [e1] at CP
  have e2 : IntKind.i64.wrap (-n) = -n := by rw [IntKind.wrap_i64]; omega
  by_cases h45 : (bts s).getD 0 0 = 45
  · rw [decide_eq_true h45] at CP
    rw [if_pos h45] at HW
    clear e1 hn ha hs h45
    go_enter Tryd.func37, Tryd.ntmps37
    go_wp2_with fail
    refine (CP _).mono ?_
    rintro e w1 ⟨rfl, rfl⟩
    go_wp2_with fail
    refine (CC _).mono ?_
    rintro e w2 ⟨rfl, hg⟩
    go_wp2_with fail
    go_ret
    exact ⟨by rw [HW.out]; rfl, hg⟩
  · rw [decide_eq_false h45] at CP
    rw [if_neg h45] at HW
    clear e1 hn ha hs h45
    go_enter Tryd.func37, Tryd.ntmps37
    go_wp2_with fail
    refine (CP _).mono ?_
    rintro e w1 ⟨rfl, rfl⟩
    go_wp2_with fail
    refine (CC _).mono ?_
    rintro e w2 ⟨rfl, hg⟩
    go_wp2_with fail
    go_ret
    exact ⟨by rw [HW.out]; rfl, hg⟩
end Go.Proofs.YtfpifbfnebfdaaaDoor
namespace Go.Proofs.YtfpifbfnebfdaaaDoor
open Go.RowKit Go.Shelf
attribute [local go_sem] Gr.size Gr.cell? Gr.frozen? Gr.setCell Gr.drew Gr.drewN Gr.of_drew Gr.of_drewN Gr.gr Gr.lt_of1 Gr.le_of1 Gr.lt_of2 Gr.le_of2 Gr.lt_of3 Gr.le_of3 Gr.lt_of4 Gr.le_of4 Gr.lt_of5 Gr.le_of5 Gr.lt_of6 Gr.le_of6 Gr.lt_of7 Gr.le_of7 Gr.lt_of8 Gr.le_of8 Gr.lt_of9 Gr.le_of9 Gr.lt_of10 Gr.le_of10 Gr.lt_of11 Gr.le_of11 Gr.lt_of12 Gr.le_of12 Gr.lt_of13 Gr.le_of13 Gr.lt_of14 Gr.le_of14 Gr.lt_of15 Gr.le_of15 Gr.lt_of16 Gr.le_of16 Gr.lt_of17 Gr.le_of17 Gr.lt_of18 Gr.le_of18 Gr.lt_of19 Gr.le_of19 Gr.lt_of20 Gr.le_of20 Gr.lt_of21 Gr.le_of21 Gr.lt_of22 Gr.le_of22 Gr.lt_of23 Gr.le_of23 Gr.lt_of24 Gr.le_of24
/-- Digits as a builder's cells. -/
def dcs (X : List Int) : List Value := X.map fun z => Value.int .u8 z
theorem dcs_snoc (X : List Int) (c : Int) : dcs (X ++ [c]) = dcs X ++ [.int .u8 c] := by simp [dcs]
theorem dcs_len (X : List Int) : (dcs X).length = X.length := by simp [dcs]
/-- Digits as bytes. -/
def u8s (X : List Int) : List UInt8 := X.map fun z => UInt8.ofNat z.toNat
theorem dcs_bytes {X : List Int} (h : ∀ c ∈ X, 0 ≤ c ∧ c < 256) : dcs X = Lib.byteCells (u8s X) := by
  unfold dcs u8s Lib.byteCells
  rw [List.map_map]
  refine List.map_congr_left fun c hc => ?_
  have := h c hc
  simp
  omega
theorem u8s_back {X : List Int} (h : ∀ c ∈ X, 0 ≤ c ∧ c < 256) : (u8s X).map (fun b => (b.toNat : Int)) = X := by
  unfold u8s
  rw [List.map_map]
  refine (List.map_congr_left (g := id) fun c hc => ?_).trans (List.map_id _)
  have := h c hc
  simp
  omega
theorem bts_mk (l : List UInt8) : bts { data := l.toArray } = l.map fun b => (b.toNat : Int) := rfl
theorem size_mk (l : List UInt8) : ({ data := l.toArray } : ByteArray).size = l.length := by rw [← bts_len, bts_mk, List.length_map]
theorem drop48 : ∀ l : List UInt8, (l.dropWhile (· == 48)).map (fun b => (b.toNat : Int)) = (l.map fun b => (b.toNat : Int)).dropWhile (fun c => c == 48)
  | [] => rfl
  | b :: l => by
    have e1 : (b = 48) ↔ ((b.toNat : Int) = 48) := by rw [← UInt8.toNat_inj]; simp; omega
    rw [List.map_cons, List.dropWhile_cons, List.dropWhile_cons]
    by_cases h : (b.toNat : Int) = 48
    · rw [if_pos (by simpa using e1.2 h), if_pos (by simpa using h), drop48 l]
    · rw [if_neg (by simpa using fun e => h (e1.1 e)), if_neg (by simpa using h), List.map_cons]
theorem trimR_bts (l : List UInt8) : (Lib.trimRightB l 48).map (fun b => (b.toNat : Int)) = trimZ (l.map fun b => (b.toNat : Int)) := by
  unfold Lib.trimRightB trimZ
  rw [List.map_reverse, drop48, List.map_reverse]
theorem trimL_bts (l : List UInt8) : (Lib.trimLeftB l 48).map (fun b => (b.toNat : Int)) = hdZ (l.map fun b => (b.toNat : Int)) := drop48 l
theorem rune_cells {c : Int} (h : 0 ≤ c ∧ c < 128) : Lib.runeCells c = [.int .u8 c] := by
  unfold Lib.runeCells
  rw [Lib.encodeRuneZ_one (by omega) (by omega)]; rfl
set_option maxRecDepth 20000 in set_option maxHeartbeats 2000000 in
theorem dwhole_any (s : ByteArray) (w : World) (hs : s.size ≤ 3000) (b : List Int) (neg : Bool) (sg l1 dt l2 ep : List Int) (p : Int) (h : Spl b neg sg l1 dt l2 ep p) (hb : bts s = sg ++ (l1 ++ (dt ++ l2))) : Calls Tryd.prog 36 #[.string s] w fun e w' => ∃ d z, e = .returned (.tuple #[.string d, .int .i64 z]) ∧ bts d = hdZ (trimZ (l1 ++ l2)) ∧ z = ((l1 ++ l2).length : Int) - (trimZ (l1 ++ l2)).length - (l2.length : Nat) ∧ IsGr w w' := by
  obtain ⟨t, ht⟩ := whF_spl h
  rw [← hb] at ht
  have hasc : Asc (bts s) := fun c hc => by
    refine h.asc c ?_
    rw [h.eq]
    rw [hb] at hc
    simp only [List.mem_append] at hc ⊢
    rcases hc with hc | hc | hc | hc
    · exact Or.inl hc
    · exact Or.inr (Or.inl hc)
    · exact Or.inr (Or.inr (Or.inl hc))
    · exact Or.inr (Or.inr (Or.inr (Or.inl hc)))
  have hL : Dgs (l1 ++ l2) := h.d1.app h.d2
  have HS : Hid (s.size ≤ 3000 ∧ Asc (bts s) ∧ whF ([], 0, false) (bts s) = (l1 ++ l2, l2.length, t) ∧ Dgs (l1 ++ l2)) := ⟨hs, hasc, ht, hL⟩
  clear h hb ht hs hasc hL
  obtain ⟨L, hLe⟩ : ∃ L, l1 ++ l2 = L := ⟨_, rfl⟩
  obtain ⟨m, hm⟩ : ∃ m, l2.length = m := ⟨_, rfl⟩
  rw [hLe, hm] at HS ⊢
  clear hLe hm
  go_enter Tryd.func36, Tryd.ntmps36
  go_wp2_with fail
  go_loopg [5, 6] s.size (fun r p5 p6 wr => ∃ (i : Nat) (X : List Int) (n : Nat) (pt : Bool), i + r = s.size ∧ Hid (whF ([], 0, false) ((bts s).take i) = (X, n, pt)) ∧ p5 = .int .i64 (n : Int) ∧ p6 = .bool pt ∧ Lib.IsBuilderF 75 5 w.heap.size w.heap.size (dcs X) wr ∧ wr.heap[w.heap.size + 1]? = some (.stringIter s i) ∧ Below w.heap.size w wr)
  case atStart =>
    refine ⟨0, [], 0, false, by omega, rfl, rfl, rfl, (Lib.IsBuilderF.of (Lib.fresh_isBuilder 75 5 w)).alloc _, ?_, ((Below.refl _ w).alloc (Nat.le_refl _) _).alloc (by simp) _⟩
    have := World.iter_heap (w.alloc (.cells #[.pointer none, .slice none 0 0] 75)) s 0
    simpa using this
  case round =>
    obtain ⟨i, X, n, pt, hk, HX, rfl, rfl, hI, hit, hbw⟩ := hrel
    have hsz : w.heap.size + 1 < wr.heap.size := (Array.getElem?_eq_some_iff.1 hit).1
    by_cases hp : i < s.size
    · have hA := HS.out.2.1.at hp
      have hnx := fun ty => Lib.run_next_ascii_at (P := Tryd.prog) wr (w.heap.size + 1) s i ty hit hp hA
      have hit2 := Lib.iterAt_heap wr (w.heap.size + 1) s i (i + 1) hit
      have hI2 := hI.iterAt hit (i + 1)
      have hbw2 := Lib.below_iterAt hbw (k := w.heap.size + 1) (by omega) s (i + 1)
      have hsz2 : w.heap.size ≤ (wr.iterAt (w.heap.size + 1) s (i + 1)).heap.size := by rw [Lib.iterAt_size]; omega
      have hT := take_at hp
      have hlen := whF_lists ((bts s).take i) [] 0 false
      rw [HX.out] at hlen
      have hti : ((bts s).take i).length ≤ s.size := by rw [List.length_take, bts_len]; omega
      simp only [List.length_nil, Nat.zero_add] at hlen
      obtain ⟨c, hc⟩ : ∃ c : Int, ((s[i]'hp).toNat : Int) = c := ⟨_, rfl⟩
      rw [hc] at hnx hT
      have hcr : 0 ≤ c ∧ c < 128 := by omega
      have HC : Hid (whF ([], 0, false) ((bts s).take (i + 1)) = wh1 (X, n, pt) c) := by show _ = _; rw [hT, whF_snoc, HX.out]
      obtain ⟨W2, hW2⟩ : ∃ W2, wr.iterAt (w.heap.size + 1) s (i + 1) = W2 := ⟨_, rfl⟩
      rw [hW2] at hnx hit2 hbw2 hI2 hsz2
      have hln : n ≤ 3000 ∧ X.length ≤ 3000 := by have := HS.out.1; omega
      clear hT hc hA hit hbw hW2 HX hI hlen hti
      by_cases h46 : c = 46
      · subst h46
        go_wp2_with fail
        go_roundg (s.size - (i + 1))
        case measure => omega
        case rel =>
          exact ⟨i + 1, X, n, true, by omega, HC.out, rfl, rfl, hI2, hit2, hbw2⟩
      · have q46 : (c == 46) = false := by simpa using h46
        cases hd : dgB c with
        | true =>
          have e1 : IntKind.i64.wrap ((n : Int) + 1) = (n : Int) + 1 := by rw [IntKind.wrap_i64]; omega
          have CW := Tryd.Builder_WriteRune_k w.heap.size w.heap.size _ c (by omega) (by omega) _ hI2 (by rw [dcs_len]; omega) hsz2
          rw [rune_cells hcr, ← dcs_snoc] at CW
          cases pt with
          | true =>
            have HC' : Hid (whF ([], 0, false) ((bts s).take (i + 1)) = (X ++ [c], n + 1, true)) := by show _ = _; rw [HC.out]; unfold wh1; rw [if_neg h46, if_pos hd]; rfl
            clear h46 HC
            go_wp2_with fail
            refine (ddigit_any c _).mono ?_
            rintro e w2 ⟨rfl, rfl⟩
            rw [hd]
            go_wp2_with fail
            refine CW.mono ?_
            clear CW
            rintro e w3 ⟨rfl, hB, hb3, hk3⟩
            go_wp2_with fail
            go_roundg (s.size - (i + 1))
            case measure => omega
            case rel =>
              exact ⟨i + 1, X ++ [c], n + 1, true, by omega, HC'.out, rfl, rfl, Or.inr hB, hk3.iter hit2 (by omega), hbw2.trans hb3⟩
          | false =>
            have HC' : Hid (whF ([], 0, false) ((bts s).take (i + 1)) = (X ++ [c], n, false)) := by show _ = _; rw [HC.out]; unfold wh1; rw [if_neg h46, if_pos hd]; rfl
            clear h46 HC
            go_wp2_with fail
            refine (ddigit_any c _).mono ?_
            rintro e w2 ⟨rfl, rfl⟩
            rw [hd]
            go_wp2_with fail
            refine CW.mono ?_
            clear CW
            rintro e w3 ⟨rfl, hB, hb3, hk3⟩
            go_wp2_with fail
            go_roundg (s.size - (i + 1))
            case measure => omega
            case rel =>
              exact ⟨i + 1, X ++ [c], n, false, by omega, HC'.out, rfl, rfl, Or.inr hB, hk3.iter hit2 (by omega), hbw2.trans hb3⟩
        | false =>
          have HC' : Hid (whF ([], 0, false) ((bts s).take (i + 1)) = (X, n, pt)) := by show _ = _; rw [HC.out]; unfold wh1; rw [if_neg h46, hd]; rfl
          clear h46 HC
          go_wp2_with fail
          refine (ddigit_any c _).mono ?_
          rintro e w2 ⟨rfl, rfl⟩
          rw [hd]
          go_wp2_with fail
          go_roundg (s.size - (i + 1))
          case measure => omega
          case rel =>
            exact ⟨i + 1, X, n, pt, by omega, HC'.out, rfl, rfl, hI2, hit2, hbw2⟩
    · have hnx := fun ty => Lib.run_next_end_at (P := Tryd.prog) wr (w.heap.size + 1) s i ty hit hp
      have hX : X = L ∧ n = m := by
        have h1 := HX.out
        rw [List.take_of_length_le (by rw [bts_len]; omega), HS.out.2.2.1] at h1
        injection h1 with h1 h2
        injection h2 with h2 h3
        exact ⟨h1.symm, h2.symm⟩
      obtain ⟨rfl, rfl⟩ := hX
      have hrg : ∀ c ∈ X, 0 ≤ c ∧ c < 256 := fun c hc => by have := dg_range (HS.out.2.2.2 c hc); omega
      have hlen := whF_lists (bts s) [] 0 false
      rw [HS.out.2.2.1] at hlen
      simp only [List.length_nil, Nat.zero_add, bts_len] at hlen
      have hln : n ≤ 3000 ∧ X.length ≤ 3000 := by have := HS.out.1; omega
      rw [dcs_bytes hrg] at hI
      have CS := Tryd.Builder_String_any_k w.heap.size w.heap.size (u8s X) _ hI (by omega)
      have hR : bts { data := (Lib.trimRightB (ByteArray.mk (u8s X).toArray).data.toList 48).toArray } = trimZ X := by
        rw [bts_mk, trimR_bts]
        rw [show (ByteArray.mk (u8s X).toArray).data.toList = u8s X from rfl, u8s_back hrg]
      have hR2 : ({ data := (Lib.trimRightB (ByteArray.mk (u8s X).toArray).data.toList 48).toArray } : ByteArray).size = (trimZ X).length := by rw [← bts_len, hR]
      have htl : (trimZ X).length ≤ X.length := by
        obtain ⟨z, hz, _⟩ := trimZ_spec X
        have := congrArg List.length hz
        rw [List.length_append] at this; omega
      have CR := fun w => Tryd.strings_TrimRight_one { data := (u8s X).toArray } 48 (by decide) w (by rw [size_mk]; unfold u8s; rw [List.length_map]; omega)
      obtain ⟨kp, hkp⟩ : ∃ kp, ({ data := (Lib.trimRightB (ByteArray.mk (u8s X).toArray).data.toList 48).toArray } : ByteArray) = kp := ⟨_, rfl⟩
      rw [hkp] at CR hR hR2
      have CL := fun w => Tryd.strings_TrimLeft_one kp 48 (by decide) w
      have hD : bts { data := (Lib.trimLeftB kp.data.toList 48).toArray } = hdZ (trimZ X) := by
        rw [bts_mk, trimL_bts, ← hR]; rfl
      obtain ⟨dd, hdd⟩ : ∃ dd, ({ data := (Lib.trimLeftB kp.data.toList 48).toArray } : ByteArray) = dd := ⟨_, rfl⟩
      rw [hdd] at CL hD
      have CN := fun w' (hw : Lib.IsBuilderF 75 5 w.heap.size w.heap.size (Lib.byteCells (u8s X)) w') => Tryd.Builder_Len_f w.heap.size w.heap.size (Lib.byteCells (u8s X)) w' hw
      rw [← dcs_bytes hrg, dcs_len] at CN
      have HD : Hid (bts dd = hdZ (trimZ X)) := hD
      have e1 : IntKind.i64.wrap ((X.length : Int) - kp.size) = (X.length : Int) - kp.size := by rw [IntKind.wrap_i64]; omega
      have e2 : IntKind.i64.wrap ((X.length : Int) - kp.size - n) = (X.length : Int) - kp.size - n := by rw [IntKind.wrap_i64]; omega
      clear HX hrg hlen hR hkp hD hdd
      go_wp2_with fail
      refine CS.mono ?_
      clear CS
      rintro e w1 ⟨rfl, hI1, hb1, hk1⟩
      go_wp2_with fail
      refine (CR _).mono ?_
      clear CR
      rintro e w2 ⟨rfl, hw2⟩
      obtain rfl := hw2.symm
      go_wp2_with fail
      refine (CL _).mono ?_
      clear CL
      rintro e w3 ⟨rfl, hw3⟩
      obtain rfl := hw3.symm
      go_wp2_with fail
      refine (CN _ (dcs_bytes (fun c hc => by have := dg_range (HS.out.2.2.2 c hc); omega) ▸ hI1)).mono ?_
      rintro e w4 ⟨rfl, hw4⟩
      obtain rfl := hw4.symm
      go_wp2_with fail
      exact bodyPost_ret (v := .tuple #[.string dd, .int .i64 ((X.length : Int) - (trimZ X).length - n)]) (by simp [results, Tryd.results36, go_sem]) rfl ⟨dd, _, rfl, HD.out, rfl, IsGr.of_below (hbw.trans hb1)⟩
end Go.Proofs.YtfpifbfnebfdaaaDoor
namespace Go.Proofs.YtfpifbfnebfdaaaDoor
open Go.RowKit Go.Shelf
attribute [local go_sem] Gr.size Gr.cell? Gr.frozen? Gr.setCell Gr.drew Gr.drewN Gr.of_drew Gr.of_drewN Gr.gr Gr.lt_of1 Gr.le_of1 Gr.lt_of2 Gr.le_of2 Gr.lt_of3 Gr.le_of3 Gr.lt_of4 Gr.le_of4 Gr.lt_of5 Gr.le_of5 Gr.lt_of6 Gr.le_of6 Gr.lt_of7 Gr.le_of7 Gr.lt_of8 Gr.le_of8 Gr.lt_of9 Gr.le_of9 Gr.lt_of10 Gr.le_of10 Gr.lt_of11 Gr.le_of11 Gr.lt_of12 Gr.le_of12 Gr.lt_of13 Gr.le_of13 Gr.lt_of14 Gr.le_of14 Gr.lt_of15 Gr.le_of15 Gr.lt_of16 Gr.le_of16 Gr.lt_of17 Gr.le_of17 Gr.lt_of18 Gr.le_of18 Gr.lt_of19 Gr.le_of19 Gr.lt_of20 Gr.le_of20 Gr.lt_of21 Gr.le_of21 Gr.lt_of22 Gr.le_of22 Gr.lt_of23 Gr.le_of23 Gr.lt_of24 Gr.le_of24
theorem sgI_pos {neg : Bool} {x : Int} (h : 0 < x) : sgI neg x ≠ 0 ∧ neg = decide (sgI neg x < 0) ∧ ((sgI neg x).natAbs : Int) = x := by
  unfold sgI
  cases neg
  · rw [if_neg (by simp)]
    exact ⟨by omega, (decide_eq_false (by omega)).symm, by omega⟩
  · rw [if_pos rfl]
    exact ⟨by omega, (decide_eq_true (by omega)).symm, by omega⟩
/-- A power, told no further than 2^40. -/
def clI (z : Int) : Int := if z < -1099511627776 then -1099511627776 else if 1099511627776 < z then 1099511627776 else z
theorem Spl.first {b : List Int} {neg : Bool} {sg l1 dt l2 ep : List Int} {p : Int} (h : Spl b neg sg l1 dt l2 ep p) : 0 < b.length ∧ (b.getD 0 0 == 45) = neg := by
  have hb := h.eq
  rcases h.sign with ⟨rfl, rfl⟩ | ⟨rfl, rfl⟩ | ⟨rfl, rfl⟩
  · rw [List.nil_append] at hb
    rw [hb]
    cases l1 with
    | cons c l1 =>
      have := dg_range (h.d1 c (by simp))
      refine ⟨by simp, ?_⟩
      simp; omega
    | nil =>
      rcases h.dot with ⟨rfl, rfl⟩ | rfl
      · exact absurd rfl h.some
      · exact ⟨by simp, rfl⟩
  · rw [hb]; exact ⟨by simp, rfl⟩
  · rw [hb]; exact ⟨by simp, rfl⟩
set_option maxRecDepth 20000 in set_option maxHeartbeats 2000000 in
theorem ddigits_no (s : ByteArray) (w : World) (hs : s.size ≤ 3000) (hr : rgtB (bts s) = false) : Calls Tryd.prog 19 #[.string s] w fun e w' => e = .returned (.tuple #[.string { data := #[] }, .int .i64 0, .bool false, .bool false]) ∧ IsGr w w' := by
  have CR := lright_any s w (by omega)
  rw [hr] at CR
  clear hs hr
  go_enter Tryd.func19, Tryd.ntmps19
  go_wp2_with fail
  refine CR.mono ?_
  rintro e w1 ⟨rfl, hg⟩
  go_wp2_with fail
  exact bodyPost_ret (v := .tuple #[.string { data := #[] }, .int .i64 0, .bool false, .bool false]) (by simp [results, Tryd.results19, go_sem]) rfl ⟨rfl, hg⟩
set_option maxRecDepth 20000 in set_option maxHeartbeats 2000000 in
theorem ddigits_ok (s : ByteArray) (w : World) (M E : Int) (hs : s.size ≤ 3000) (hN : NumIs (bts s) M E) : Calls Tryd.prog 19 #[.string s] w fun e w' => ∃ d p below, e = .returned (.tuple #[.string d, .int .i64 p, .bool below, .bool true]) ∧ DgR M E (bts d) p below ∧ d.size ≤ s.size ∧ IsGr w w' := by
  obtain ⟨neg, sg, l1, dt, l2, ep, p, h, hM, hE⟩ := hN
  have hL : Dgs (l1 ++ l2) := h.d1.app h.d2
  have hlen := congrArg List.length h.eq
  simp only [List.length_append, bts_len] at hlen
  have hepl : ep.tail.length ≤ ep.length := by rw [List.length_tail]; omega
  have hasc := h.asc
  have CR := lright_any s w (by omega)
  rw [h.right] at CR
  have CH := fun w => dhalves_any s w hs neg sg l1 dt l2 ep p h
  have CW := fun s1 (hb : bts s1 = sg ++ (l1 ++ (dt ++ l2))) w => dwhole_any s1 w (by rw [← bts_len, hb]; simp only [List.length_append]; omega) (bts s) neg sg l1 dt l2 ep p h hb
  have CN : ∀ s2, bts s2 = ep.tail → ∀ w, Calls Tryd.prog 37 #[.string s2] w fun e w' => e = .returned (.int .i64 (wrI ep.tail)) ∧ IsGr w w' := fun s2 hb w => by
    have := dwritten_any s2 w (by rw [← bts_len, hb]; omega) (by rw [hb]; intro c hc; refine hasc c ?_; rw [h.eq]; simp only [List.mem_append]; exact Or.inr (Or.inr (Or.inr (Or.inr (List.mem_of_mem_tail hc)))))
    rw [hb] at this; exact this
  have hwr := wrI_spl h
  obtain ⟨hf0, hneg⟩ := h.first
  rw [bts_len] at hf0
  have hat := bts_at hf0
  have hts := trim_spec hL
  have htl : (trimZ (l1 ++ l2)).length ≤ (l1 ++ l2).length := by
    obtain ⟨z, hz, _⟩ := trimZ_spec (l1 ++ l2)
    have := congrArg List.length hz
    rw [List.length_append (bs := List.replicate z 48)] at this; omega
  have hll : (l1 ++ l2).length = l1.length + l2.length := List.length_append
  rw [hat] at hneg
  obtain ⟨c0, hc0⟩ : ∃ c0 : Int, ((s[0]'hf0).toNat : Int) = c0 := ⟨_, rfl⟩
  rw [hc0] at hneg hat
  obtain ⟨L, hLe⟩ : ∃ L, l1 ++ l2 = L := ⟨_, rfl⟩
  obtain ⟨k2, hk2⟩ : ∃ k2, l2.length = k2 := ⟨_, rfl⟩
  rw [hLe] at hM hts htl hll CW
  rw [hk2] at hE hll CW
  have hwq : -1125899906842624 ≤ wrI ep.tail ∧ wrI ep.tail ≤ 1125899906842624 := by omega
  obtain ⟨q, hq⟩ : ∃ q, wrI ep.tail = q := ⟨_, rfl⟩
  obtain ⟨z, hz⟩ : ∃ z, (L.length : Int) - (trimZ L).length - (k2 : Nat) = z := ⟨_, rfl⟩
  have hf0' : (0 : Int) < s.size := by omega
  rcases hts with ⟨t1, t2⟩ | ⟨t1, t2, t3, t4, t5, -, t6⟩
  · have HR : Hid (DgR M E [] 0 false) := Or.inl ⟨by rw [hM, t1]; unfold sgI; split <;> rfl, rfl, rfl, rfl⟩
    clear hL hlen hepl hasc h hwr hat hneg hM hE hLe hk2 hwq hq hll htl CN t1 hc0
    go_enter Tryd.func19, Tryd.ntmps19
    go_wp2_with fail
    refine CR.mono ?_
    clear CR
    rintro e w1 ⟨rfl, hg1⟩
    go_wp2_with fail
    refine (CH _).mono ?_
    clear CH
    rintro e w2 ⟨s1, s2, rfl, hb1, hb2, hg2⟩
    have HG2 : Hid (IsGr w w2) := hg1.trans hg2
    clear hg1 hg2
    go_wp2_with fail
    refine (CW s1 hb1 _).mono ?_
    clear CW
    rintro e w3 ⟨d, z3, rfl, hd, hz3, hg3⟩
    rw [t2] at hd
    obtain rfl : d = { data := #[] } := bts_inj hd
    clear hd hz3 hb1 hb2 hz
    go_wp2_with fail
    exact bodyPost_ret (v := .tuple #[.string { data := #[] }, .int .i64 0, .bool false, .bool true]) (by simp [results, Tryd.results19, go_sem]) rfl ⟨_, _, _, rfl, HR.out, Nat.zero_le _, HG2.out.trans hg3⟩
  · have e1 : IntKind.i64.wrap (z + q) = z + q := by rw [IntKind.wrap_i64]; omega
    have hp : clI (E + (L.length - (trimZ L).length : Nat)) = clI (z + q) := by
      unfold clI
      repeat' split
      all_goals omega
    have HR : Hid (DgR M E (hdZ (trimZ L)) (clI (z + q)) neg) := by
      obtain ⟨m1, m2, m3⟩ := sgI_pos (neg := neg) t1
      rw [← hM] at m1 m2 m3
      refine Or.inr ⟨m1, t2, t3, t4, t5, m2, L.length - (trimZ L).length, by rw [t6, m3], ?_⟩
      rw [← hp]; rfl
    have hdl : (hdZ (trimZ L)).length ≤ s.size := by
      obtain ⟨_, _, z2, h3⟩ := hdZ_spec (trimZ L)
      have := congrArg List.length h3
      rw [List.length_append] at this
      omega
    have hdp : 0 < (hdZ (trimZ L)).length := List.length_pos_iff.2 t3
    have HMX : Hid (clI (z + q) = max (-1099511627776) (min (z + q) 1099511627776)) := by show _ = _; unfold clI; omega
    rw [HMX.out] at HR
    rw [hz] at CW
    rw [hq] at CN
    clear hL hlen hepl hasc h hwr hat hM hE hLe hk2 hwq hq hll htl t1 t2 t3 t4 t5 t6 hp
    go_enter Tryd.func19, Tryd.ntmps19
    go_wp2_with fail
    refine CR.mono ?_
    clear CR
    rintro e w1 ⟨rfl, hg1⟩
    go_wp2_with fail
    refine (CH _).mono ?_
    clear CH
    rintro e w2 ⟨s1, s2, rfl, hb1, hb2, hg2⟩
    have HG2 : Hid (IsGr w w2) := hg1.trans hg2
    clear hg1 hg2
    go_wp2_with fail
    refine (CW s1 hb1 _).mono ?_
    clear CW
    rintro e w3 ⟨d, z3, rfl, hd, hz3, hg3⟩
    obtain rfl := hz3
    have HG3 : Hid (IsGr w w3) := HG2.out.trans hg3
    have hds : d.size = (hdZ (trimZ L)).length := by rw [← bts_len, hd]
    have HD : Hid (bts d = hdZ (trimZ L) ∧ d.size ≤ s.size) := ⟨hd, by omega⟩
    have hne := emp_ne (s := d) (by omega)
    clear hd hds hdl hdp HG2 hg3
    go_wp2_with fail
    refine (CN s2 hb2 _).mono ?_
    rintro e w4 ⟨rfl, hg4⟩
    have HG4 : Hid (IsGr w w4) := HG3.out.trans hg4
    clear hg4 HG3 CN HMX hb1 hb2
    go_upto_region 8 with fail
    go_quiet (fail)
    go_wp2_with fail
    exact bodyPost_ret (v := .tuple #[.string d, .int .i64 (max (-1099511627776) (min (z3 + q) 1099511627776)), .bool neg, .bool true]) (by simp [results, Tryd.results19, go_sem]) rfl ⟨_, _, _, rfl, by rw [HD.out.1]; exact HR.out, HD.out.2, HG4.out.trans (by with_reducible repeat (first | exact IsGr.refl _ | refine IsGr.gr ?_ _ _ | refine IsGr.alloc ?_ _ | refine IsGr.drew ?_ | refine IsGr.drewN ?_ _))⟩
end Go.Proofs.YtfpifbfnebfdaaaDoor
namespace Go.Proofs.YtfpifbfnebfdaaaDoor
open Go.RowKit Go.Shelf
attribute [local go_sem] Gr.size Gr.cell? Gr.frozen? Gr.setCell Gr.drew Gr.drewN Gr.of_drew Gr.of_drewN Gr.gr Gr.lt_of1 Gr.le_of1 Gr.lt_of2 Gr.le_of2 Gr.lt_of3 Gr.le_of3 Gr.lt_of4 Gr.le_of4 Gr.lt_of5 Gr.le_of5 Gr.lt_of6 Gr.le_of6 Gr.lt_of7 Gr.le_of7 Gr.lt_of8 Gr.le_of8 Gr.lt_of9 Gr.le_of9 Gr.lt_of10 Gr.le_of10 Gr.lt_of11 Gr.le_of11 Gr.lt_of12 Gr.le_of12 Gr.lt_of13 Gr.le_of13 Gr.lt_of14 Gr.le_of14 Gr.lt_of15 Gr.le_of15 Gr.lt_of16 Gr.le_of16 Gr.lt_of17 Gr.le_of17 Gr.lt_of18 Gr.le_of18 Gr.lt_of19 Gr.le_of19 Gr.lt_of20 Gr.le_of20 Gr.lt_of21 Gr.le_of21 Gr.lt_of22 Gr.le_of22 Gr.lt_of23 Gr.le_of23 Gr.lt_of24 Gr.le_of24
theorem pow_split (a b : Nat) : (10 : Int) ^ (a + b) = 10 ^ a * 10 ^ b := Int.pow_add ..
/-- A number whose last digit would stand behind the unit is no whole count. -/
theorem sc_fine {M E fine p : Int} {d : List Int} {below : Bool} (h : DgR M E d p below) (hf : 0 ≤ fine ∧ fine ≤ 9) (hq : p + fine < 0) : ∀ k, ¬ UnitIs M (E + fine) k := fun k hk => by
  rcases h with ⟨_, _, rfl, _⟩ | ⟨hM, hd, hn, h0, hl, hb, t, ht, hp⟩
  · omega
  · have hE : E + t + fine < 0 := by
      split at hp
      · omega
      · split at hp <;> omega
    rcases hk with ⟨h1, _⟩ | ⟨h1, h2⟩
    · omega
    · obtain ⟨r, hr⟩ : ∃ r, (-(E + fine)).toNat = t + 1 + r := ⟨(-(E + fine)).toNat - (t + 1), by omega⟩
      obtain ⟨a, c, hac⟩ := snoc_of hn
      rw [hac, getD_last] at hl
      rw [hac] at hd
      refine dvl_mod c hd hl ⟨(k.natAbs : Int) * 10 ^ r, ?_⟩
      rw [hr] at h2
      have h3 : (M.natAbs : Int) = (k.natAbs : Int) * 10 ^ (t + 1 + r) := by
        rw [← h2, Int.natAbs_mul, Int.natAbs_pow]
        simp
      rw [← ht, hac, pow_split, pow_split, show (10 : Int) ^ 1 = 10 from rfl] at h3
      refine Int.eq_of_mul_eq_mul_right (a := 10 ^ t) (by have := ten_pos t; omega) ?_
      rw [h3]
      generalize (10 : Int) ^ t = x
      generalize (10 : Int) ^ r = y
      rw [Int.mul_assoc, Int.mul_assoc, Int.mul_assoc]
      congr 1
      rw [Int.mul_left_comm x 10 y, Int.mul_left_comm y 10 x, Int.mul_comm x y]
theorem sgI_mul (b : Bool) (x y : Int) : sgI b (x * y) = sgI b x * y := by
  unfold sgI; split
  · rw [Int.neg_mul]
  · rfl
theorem ten_far (n : Nat) (h : 1099511627776 ≤ n) : (1099511627775 : Int) < 10 ^ n := by
  have h1 : n < 10 ^ n := Nat.lt_pow_self (by omega)
  have h2 : ((10 ^ n : Nat) : Int) = (10 : Int) ^ n := by simp
  rw [← h2]; omega
/-- Any other number is so many units: what the multiplication tells of it. -/
theorem sc_unit {M E fine p : Int} {d : List Int} {below : Bool} (h : DgR M E d p below) (hf : 0 ≤ fine ∧ fine ≤ 9) (hq : 0 ≤ p + fine) :
    ∃ k, UnitIs M (E + fine) k ∧ 0 ≤ dvl d ∧ (dvl d * 10 ^ (p + fine).toNat ≤ MxU → k = sgI below (dvl d * 10 ^ (p + fine).toNat)) ∧ (MxU < dvl d * 10 ^ (p + fine).toNat → k < -MxU ∨ MxU < k) := by
  rcases h with ⟨rfl, rfl, rfl, rfl⟩ | ⟨hM, hd, hn, h0, hl, hb, t, ht, hp⟩
  · refine ⟨0, ?_, Int.le_refl _, fun _ => ?_, fun h => ?_⟩
    · rcases Int.lt_or_le (E + fine) 0 with h | h
      · exact Or.inr ⟨h, by rw [Int.zero_mul]⟩
      · exact Or.inl ⟨h, by rw [Int.zero_mul]⟩
    · simp [dvl, dvF, sgI]
    · simp [dvl, dvF, MxU] at h
  · have hv := dvl_pos hd hn h0
    have hE : 0 ≤ E + t + fine := by
      split at hp
      · omega
      · split at hp <;> omega
    have hu : UnitIs M (E + fine) (sgI below (dvl d * 10 ^ (E + t + fine).toNat)) := by
      have hMs : M = sgI below (dvl d * 10 ^ t) := by
        rw [ht, hb]; unfold sgI
        by_cases h : M < 0
        · rw [decide_eq_true h, if_pos rfl]; omega
        · rw [decide_eq_false h, if_neg (by simp)]; omega
      rcases Int.lt_or_le (E + fine) 0 with h | h
      · refine Or.inr ⟨h, ?_⟩
        rw [← sgI_mul, Int.mul_assoc, ← pow_split, show (E + t + fine).toNat + (-(E + fine)).toNat = t by omega, hMs]
      · refine Or.inl ⟨h, ?_⟩
        rw [hMs, ← sgI_mul, Int.mul_assoc, ← pow_split, show t + (E + fine).toNat = (E + t + fine).toNat by omega]
    have hbig : ∀ x : Int, MxU < x → sgI below x < -MxU ∨ MxU < sgI below x := fun x hx => by
      unfold sgI; split <;> omega
    by_cases hc : 1099511627776 < E + t
    · have hp2 : p = 1099511627776 := by rw [hp, if_neg (by omega), if_pos hc]
      have far : ∀ n : Nat, 1099511627776 ≤ n → MxU < dvl d * 10 ^ n := fun n hn => by
        have h1 := ten_far n hn
        have h2 : 1 * 10 ^ n ≤ dvl d * 10 ^ n := Int.mul_le_mul_of_nonneg_right (by omega) (by have := ten_pos n; omega)
        unfold MxU; omega
      have hG := far (p + fine).toNat (by omega)
      refine ⟨_, hu, by omega, fun h => absurd h (by omega), fun _ => hbig _ (far _ (by omega))⟩
    · have hp2 : p = E + t := by
        rw [if_neg (c := 1099511627776 < E + t) hc] at hp
        split at hp <;> omega
      rw [← show p + fine = E + t + fine by omega] at hu
      exact ⟨_, hu, by omega, fun _ => rfl, fun h => hbig _ h⟩
set_option maxRecDepth 20000 in set_option maxHeartbeats 2000000 in
theorem dscale_no (s : ByteArray) (fine : Int) (w : World) (hs : s.size ≤ 3000) (hr : rgtB (bts s) = false) : Calls Tryd.prog 8 #[.string s, .int .i64 fine] w fun e w' => e = .returned (.tuple #[.int .i64 0, .int .i64 10]) ∧ IsGr w w' := by
  have CD := ddigits_no s w hs hr
  clear hs hr
  go_enter Tryd.func8, Tryd.ntmps8
  go_wp2_with fail
  refine CD.mono ?_
  rintro e w1 ⟨rfl, hg⟩
  go_wp2_with fail
  exact bodyPost_ret (v := .tuple #[.int .i64 0, .int .i64 10]) (by simp [results, Tryd.results8, go_sem]) rfl ⟨rfl, hg⟩
set_option maxRecDepth 20000 in set_option maxHeartbeats 2000000 in
theorem dscale_out (s : ByteArray) (fine : Int) (w : World) (M E : Int) (hs : s.size ≤ 3000) (hN : NumIs (bts s) M E) (hf : ¬ (0 ≤ fine ∧ fine ≤ 9)) : Calls Tryd.prog 8 #[.string s, .int .i64 fine] w fun e w' => ∃ n err, e = .returned (.tuple #[.int .i64 n, .int .i64 err]) ∧ ScR M E fine n err ∧ IsGr w w' := by
  have CD := ddigits_ok s w M E hs hN
  have CU := fun w => dunit_any fine false (decide_eq_false hf) w
  have HR : Hid (ScR M E fine 0 10) := Or.inl ⟨by omega, rfl, rfl⟩
  clear hs hN hf
  go_enter Tryd.func8, Tryd.ntmps8
  go_wp2_with fail
  refine CD.mono ?_
  rintro e w1 ⟨d, p, below, rfl, -, -, hg⟩
  go_wp2_with fail
  refine (CU _).mono ?_
  rintro e w2 ⟨rfl, hw⟩
  obtain rfl := hw.symm
  go_wp2_with fail
  exact bodyPost_ret (v := .tuple #[.int .i64 0, .int .i64 10]) (by simp [results, Tryd.results8, go_sem]) rfl ⟨_, _, rfl, HR.out, hg⟩
set_option maxRecDepth 20000 in set_option maxHeartbeats 2000000 in
theorem dscale_in (s : ByteArray) (fine : Int) (w : World) (M E : Int) (hs : s.size ≤ 3000) (hN : NumIs (bts s) M E) (hf : 0 ≤ fine ∧ fine ≤ 9) : Calls Tryd.prog 8 #[.string s, .int .i64 fine] w fun e w' => ∃ n err, e = .returned (.tuple #[.int .i64 n, .int .i64 err]) ∧ ScR M E fine n err ∧ IsGr w w' := by
  have CD := ddigits_ok s w M E hs hN
  have CU := fun w => dunit_any fine true (decide_eq_true hf) w
  have HF : Hid (0 ≤ fine ∧ fine ≤ 9) := hf
  have HS : Hid (s.size ≤ 3000) := hs
  clear hs hN
  go_enter Tryd.func8, Tryd.ntmps8
  go_wp2_with fail
  refine CD.mono ?_
  clear CD
  rintro e w1 ⟨d, p, below, rfl, hr, hsz, hg⟩
  have HG : Hid (IsGr w w1) := hg
  clear hg
  have hpr : -1099511627776 ≤ p ∧ p ≤ 1099511627776 := by
    rcases hr with ⟨_, _, rfl, _⟩ | ⟨_, _, _, _, _, _, t, _, hp⟩
    · omega
    · split at hp
      · omega
      · split at hp <;> omega
  have e1 : IntKind.i64.wrap (p + fine) = p + fine := by rw [IntKind.wrap_i64]; omega
  by_cases hq : p + fine < 0
  · have HR : Hid (ScR M E fine 0 22) := Or.inr ⟨hf.1, hf.2, Or.inr ⟨sc_fine hr hf hq, rfl, rfl⟩⟩
    clear hr hsz hpr hf
    go_wp2_with fail
    refine (CU _).mono ?_
    rintro e w2 ⟨rfl, hw⟩
    obtain rfl := hw.symm
    go_wp2_with fail
    exact bodyPost_ret (v := .tuple #[.int .i64 0, .int .i64 22]) (by simp [results, Tryd.results8, go_sem]) rfl ⟨_, _, rfl, HR.out, HG.out⟩
  · obtain ⟨k, hk, hv0, hk1, hk2⟩ := sc_unit hr hf (by omega)
    have hdg : Dgs (bts d) := by
      rcases hr with ⟨_, h, _⟩ | ⟨_, h, _⟩
      · rw [h]; exact Dgs.nil
      · exact h
    have hasc : Asc (bts d) := fun c hc => by have := dg_range (hdg c hc); omega
    have CC := fun w => dcount_any d w (by have := HS.out; omega) hasc
    have hcn := cnF_dvl hdg
    have hcr := cnF_range (bts d) (n := 0) (by omega)
    obtain ⟨n0, hn0⟩ : ∃ n0, cnF 0 (bts d) = n0 := ⟨_, rfl⟩
    rw [hn0] at CC hcn hcr
    obtain ⟨v, hv⟩ : ∃ v, dvl (bts d) = v := ⟨_, rfl⟩
    obtain ⟨r0, hr0⟩ : ∃ r0, (p + fine).toNat = r0 := ⟨_, rfl⟩
    rw [hv] at hcn hv0 hk1 hk2
    rw [hr0] at hk1 hk2
    obtain ⟨G, hG⟩ : ∃ G, v * 10 ^ r0 = G := ⟨_, rfl⟩
    rw [hG] at hk1 hk2
    have HRR : Hid (p + fine = (r0 : Int)) := by show _ = _; omega
    have HLR : Hid (r0 ≤ 1099511627785) := by show _ ≤ _; omega
    have H0 : Hid ((G ≤ MxU → n0 * 10 ^ r0 = G) ∧ (MxU < G → MxU < n0 * 10 ^ r0)) := by
      have hp1 := ten_pos r0
      rw [← hG, hcn]
      generalize (10 : Int) ^ r0 = x at *
      split
      · have h2 : v * 1 ≤ v * x := Int.mul_le_mul_of_nonneg_left (show 1 ≤ x by omega) hv0
        exact ⟨fun h => by unfold MxU at h; omega, fun _ => by unfold MxU; omega⟩
      · exact ⟨fun _ => rfl, fun h => h⟩
    have HK : Hid (UnitIs M (E + fine) k ∧ (G ≤ MxU → k = sgI below G) ∧ (MxU < G → k < -MxU ∨ MxU < k)) := ⟨hk, hk1, hk2⟩
    clear hr hsz hpr hdg hasc hcn hv hr0 hG hk hk1 hk2 hv0 hn0
    go_wp2_with fail
    refine (CU _).mono ?_
    clear CU
    rintro e w2 ⟨rfl, hw⟩
    obtain rfl := hw.symm
    go_wp2_with fail
    refine (CC _).mono ?_
    clear CC
    rintro e w2 ⟨rfl, hg2⟩
    have HG2 : Hid (IsGr w w2) := HG.out.trans hg2
    clear hg2 HG
    go_wp2_with fail
    go_loopg [7, 10] r0 (fun r p7 p10 wr => wr = w2 ∧ ∃ pw n, p7 = .int .i64 pw ∧ p10 = .int .i64 n ∧ pw + fine = (r : Int) ∧ 0 ≤ n ∧ n ≤ 11000000000000000 ∧ r ≤ 1099511627785 ∧ Hid ((G ≤ MxU → n * 10 ^ r = G) ∧ (MxU < G → MxU < n * 10 ^ r)))
    case atStart => exact ⟨rfl, p, n0, rfl, rfl, HRR.out, hcr.1, by omega, HLR.out, H0⟩
    case round =>
      obtain ⟨hw, pw, n, rfl, rfl, hpw, hn0, hn1, hr1, HN⟩ := hrel
      obtain rfl := hw.symm
      have e2 : IntKind.i64.wrap (pw + fine) = pw + fine := by rw [IntKind.wrap_i64]; omega
      have e3 : IntKind.i64.wrap (n * 10) = n * 10 := by rw [IntKind.wrap_i64]; omega
      have e4 : IntKind.i64.wrap (pw - 1) = pw - 1 := by rw [IntKind.wrap_i64]; omega
      have e5 : IntKind.i64.wrap (-n) = -n := by rw [IntKind.wrap_i64]; omega
      by_cases hm : n ≤ 1099511627775
      · cases gk with
        | succ r =>
          have HP : Hid (pw - 1 + fine = (r : Int)) := by show _ = _; omega
          have q1 : 0 < pw + fine := by omega
          have HN' : Hid ((G ≤ MxU → n * 10 * 10 ^ r = G) ∧ (MxU < G → MxU < n * 10 * 10 ^ r)) := by
            have h := HN.out
            rw [Int.pow_succ, Int.mul_comm (10 ^ r) 10, ← Int.mul_assoc] at h
            exact h
          clear HN hpw e1 hq
          go_wp2_with fail
          go_roundg r
          case measure => omega
          case rel => exact ⟨rfl, pw - 1, n * 10, rfl, rfl, HP.out, by omega, by omega, by omega, HN'⟩
        | zero =>
          have q1 : ¬ 0 < pw + fine := by omega
          have q2 : ¬ 1099511627775 < n := by omega
          have hGn : n = G := by
            have h := HN.out
            rw [Int.pow_zero, Int.mul_one] at h
            rcases Int.lt_or_le MxU G with h1 | h1
            · have := h.2 h1; unfold MxU at this; omega
            · exact h.1 h1
          have hkn : k = sgI below n := by
            rw [hGn]; exact HK.out.2.1 (by unfold MxU; omega)
          have HR : Hid (ScR M E fine (sgI below n) 0) := by
            refine Or.inr ⟨HF.out.1, HF.out.2, Or.inl ⟨k, HK.out.1, Or.inl ⟨?_, ?_, hkn.symm, rfl⟩⟩⟩
            · rw [hkn]; unfold sgI MxU; split <;> omega
            · rw [hkn]; unfold sgI MxU; split <;> omega
          clear HN hpw e1 hq hGn hkn HK
          cases below with
          | true =>
            go_wp2_with fail
            exact bodyPost_ret (v := .tuple #[.int .i64 (-n), .int .i64 0]) (by simp [results, Tryd.results8, go_sem]) rfl ⟨_, _, rfl, HR.out, HG2.out⟩
          | false =>
            go_wp2_with fail
            exact bodyPost_ret (v := .tuple #[.int .i64 n, .int .i64 0]) (by simp [results, Tryd.results8, go_sem]) rfl ⟨_, _, rfl, HR.out, HG2.out⟩
      · have q2 : 1099511627775 < n := by omega
        have HR : Hid (ScR M E fine 0 23) := by
          refine Or.inr ⟨HF.out.1, HF.out.2, Or.inl ⟨k, HK.out.1, Or.inr ⟨HK.out.2.2 ?_, rfl, rfl⟩⟩⟩
          rcases Int.lt_or_le MxU G with h1 | h1
          · exact h1
          · have h2 := HN.out.1 h1
            have h3 : n * 1 ≤ n * 10 ^ gk := Int.mul_le_mul_of_nonneg_left (by have := ten_pos gk; omega) hn0
            unfold MxU at *
            omega
        by_cases q1 : 0 < pw + fine
        · clear HN hpw e1 hq HK
          go_wp2_with fail
          exact bodyPost_ret (v := .tuple #[.int .i64 0, .int .i64 23]) (by simp [results, Tryd.results8, go_sem]) rfl ⟨_, _, rfl, HR.out, HG2.out⟩
        · clear HN hpw e1 hq HK
          go_wp2_with fail
          exact bodyPost_ret (v := .tuple #[.int .i64 0, .int .i64 23]) (by simp [results, Tryd.results8, go_sem]) rfl ⟨_, _, rfl, HR.out, HG2.out⟩
end Go.Proofs.YtfpifbfnebfdaaaDoor
namespace Go.Proofs.YtfpifbfnebfdaaaDoor
open Go.RowKit Go.Shelf
attribute [local go_sem] Gr.size Gr.cell? Gr.frozen? Gr.setCell Gr.drew Gr.drewN Gr.of_drew Gr.of_drewN Gr.gr Gr.lt_of1 Gr.le_of1 Gr.lt_of2 Gr.le_of2 Gr.lt_of3 Gr.le_of3 Gr.lt_of4 Gr.le_of4 Gr.lt_of5 Gr.le_of5 Gr.lt_of6 Gr.le_of6 Gr.lt_of7 Gr.le_of7 Gr.lt_of8 Gr.le_of8 Gr.lt_of9 Gr.le_of9 Gr.lt_of10 Gr.le_of10 Gr.lt_of11 Gr.le_of11 Gr.lt_of12 Gr.le_of12 Gr.lt_of13 Gr.le_of13 Gr.lt_of14 Gr.le_of14 Gr.lt_of15 Gr.le_of15 Gr.lt_of16 Gr.le_of16 Gr.lt_of17 Gr.le_of17 Gr.lt_of18 Gr.le_of18 Gr.lt_of19 Gr.le_of19 Gr.lt_of20 Gr.le_of20 Gr.lt_of21 Gr.le_of21 Gr.lt_of22 Gr.le_of22 Gr.lt_of23 Gr.le_of23 Gr.lt_of24 Gr.le_of24
theorem catT (a b : ByteArray) (h : a.size + b.size ≤ 100000) : ∀ w, (Op.stringOp .add a b).run Tryd.prog w = .ok (.string (a ++ b)) w := fun w => run_string_add_sum (P := Tryd.prog) w a b (by omega)
theorem btT_app (a b : ByteArray) : bts (a ++ b) = bts a ++ bts b := by
  unfold bts
  rw [← List.map_append]; simp [ByteArray.data_append]
/-- The digits of a whole number, as the library writes them. -/
theorem dec_spec : ∀ (f m : Nat), m < 10 ^ f → 0 < f → ∃ D, (Lib.decDigits m).map (fun b => (b.toNat : Int)) = D ∧ Dgs D ∧ dvl D = (m : Int) ∧ D ≠ [] ∧ (D.length = 1 ∨ D.getD 0 0 ≠ 48) ∧ D.length ≤ f ∧ (0 < m → D.getD 0 0 ≠ 48)
  | 0, _, _, h => absurd h (by omega)
  | f + 1, m, hm, _ => by
    have hb : ∀ r : Nat, r < 10 → ((UInt8.ofNat (48 + r)).toNat : Int) = 48 + (r : Int) := fun r hr => by
      simp; omega
    by_cases h : m < 10
    · refine ⟨[48 + (m : Int)], ?_, ?_, ?_, by simp, Or.inl rfl, by simp, fun h0 => by simp; omega⟩
      · rw [Lib.decDigits, dif_pos h, List.map_cons, List.map_nil, hb m h]
      · intro c hc; simp at hc; exact dg_of (by omega)
      · simp [dvl, dvF]; omega
    · have hf : 0 < f := by
        rcases Nat.eq_zero_or_pos f with h0 | h0
        · subst h0; simp at hm; omega
        · exact h0
      obtain ⟨D, h1, h2, h3, h4, h5, h6, h7⟩ := dec_spec f (m / 10) (by rw [Nat.pow_succ] at hm; omega) hf
      have hg : (D ++ [48 + ((m % 10 : Nat) : Int)]).getD 0 0 = D.getD 0 0 := by
        cases D with
        | nil => exact absurd rfl h4
        | cons x D => rfl
      have hn := h7 (by omega)
      refine ⟨D ++ [48 + ((m % 10 : Nat) : Int)], ?_, h2.app (fun c hc => by simp at hc; exact dg_of (by omega)), ?_, by simp, Or.inr (hg ▸ hn), by simp; omega, fun _ => hg ▸ hn⟩
      · rw [Lib.decDigits, dif_neg h, List.map_append, h1, List.map_cons, List.map_nil, hb _ (by omega)]
      · rw [dvl_snoc, h3]; omega
theorem itoa_cut (n : Int) : Lib.trimPrefix (Lib.itoa n) [45] = Lib.decDigits n.natAbs ∧ Lib.hasPrefix (Lib.itoa n) [45] = decide (n < 0) := by
  unfold Lib.itoa
  by_cases h : n < 0
  · rw [if_pos h, decide_eq_true h]
    have hp : Lib.hasPrefix (45 :: Lib.decDigits n.natAbs) [45] = true := by simp [Lib.hasPrefix]
    exact ⟨by unfold Lib.trimPrefix; rw [hp, if_pos rfl]; rfl, hp⟩
  · rw [if_neg h, decide_eq_false h, show n.toNat = n.natAbs by omega]
    have hp : Lib.hasPrefix (Lib.decDigits n.natAbs) [45] = false := by
      rw [pre_eq]
      obtain ⟨D, h1, h2, _, h4, _⟩ := dec_spec (n.natAbs + 1) n.natAbs (Nat.lt_trans (Nat.lt_succ_self _) (Nat.lt_pow_self (by omega))) (by omega)
      rw [h1]
      refine decide_eq_false ?_
      cases D with
      | nil => exact absurd rfl h4
      | cons x D => have := dg_range (h2 x (by simp)); simp; omega
    exact ⟨by unfold Lib.trimPrefix; rw [hp, if_neg (by simp)], hp⟩
theorem rep_bts (c : Nat) : (Lib.repeatL [48] c).map (fun b => (b.toNat : Int)) = List.replicate c 48 := by
  induction c with
  | zero => rfl
  | succ c ih => rw [Lib.repeatL, List.map_append, ih, List.replicate_succ]; rfl
theorem dvl_reps (c : Nat) (l : List Int) : dvl (List.replicate c 48 ++ l) = dvl l := by
  induction c with
  | zero => rfl
  | succ c ih => rw [List.replicate_succ, List.cons_append, dvl_cons, ih]; omega
set_option maxRecDepth 20000 in set_option maxHeartbeats 2000000 in
theorem dtext_out (n fine : Int) (w : World) (hf : ¬ (0 ≤ fine ∧ fine ≤ 9)) : Calls Tryd.prog 18 #[.int .i64 n, .int .i64 fine] w fun e w' => e = .returned (.string (strOfNums (textU n fine))) ∧ IsGr w w' := by
  have CU := fun w => dunit_any fine false (decide_eq_false hf) w
  have HE : Hid (strOfNums (textU n fine) = { data := #[] }) := by
    show _ = _
    unfold textU; rw [if_pos (by omega)]; decide +kernel
  clear hf
  go_enter Tryd.func18, Tryd.ntmps18
  go_wp2_with fail
  refine (CU _).mono ?_
  rintro e w2 ⟨rfl, hw⟩
  obtain rfl := hw.symm
  go_wp2_with fail
  go_ret
  rw [HE.out]
  exact ⟨rfl, IsGr.refl _⟩

set_option maxRecDepth 20000 in set_option maxHeartbeats 2000000 in
theorem dtext_in (n fine : Int) (w : World) (HTB : TabW w) (hn : I64 n) (hf : 0 ≤ fine ∧ fine ≤ 9) : Calls Tryd.prog 18 #[.int .i64 n, .int .i64 fine] w fun e w' => e = .returned (.string (strOfNums (textU n fine))) ∧ IsGr w w' := by
  have CU := fun w => dunit_any fine true (decide_eq_true hf) w
  have hn1 : n.natAbs < 10 ^ 20 := by unfold I64 at hn; omega
  have hn2 : -9223372036854775808 ≤ n ∧ n ≤ 9223372036854775807 := by unfold I64 at hn; omega
  have CI := Tryd.strconv_Itoa n hn2.1 hn2.2 w HTB
  have CP := fun w => Tryd.strings_CutPrefix { data := (Lib.itoa n).toArray } { data := #[45] } w
  obtain ⟨h1, h2⟩ := itoa_cut n
  have h3 : Lib.trimPrefix (ByteArray.mk (Lib.itoa n).toArray).data.toList (ByteArray.mk #[45]).data.toList = Lib.decDigits n.natAbs := h1
  have h4 : Lib.hasPrefix (ByteArray.mk (Lib.itoa n).toArray).data.toList (ByteArray.mk #[45]).data.toList = decide (n < 0) := h2
  rw [h3, h4] at CP
  obtain ⟨D, d1, d2, d3, d4, d5, d6, -⟩ := dec_spec 20 n.natAbs hn1 (by omega)
  have hD : bts { data := (Lib.decDigits n.natAbs).toArray } = D := d1
  obtain ⟨S, hS⟩ : ∃ S, ({ data := (Lib.decDigits n.natAbs).toArray } : ByteArray) = S := ⟨_, rfl⟩
  rw [hS] at CP hD
  obtain ⟨S0, hS0⟩ : ∃ S0, ({ data := (Lib.itoa n).toArray } : ByteArray) = S0 := ⟨_, rfl⟩
  rw [hS0] at CP CI
  have HF : Hid (0 ≤ fine ∧ fine ≤ 9) := hf
  have HN : Hid (n.natAbs < 10 ^ 20 ∧ I64 n) := ⟨hn1, hn⟩
  have hsz : S.size = D.length := by rw [← bts_len, hD]
  have hs20 : S.size ≤ 20 := by omega
  have hs0 : 0 < S.size := by have := List.length_pos_iff.2 d4; omega
  have HE : Hid (∀ s : ByteArray, bts s = (if n < 0 then [45] else []) ++ (dgsN (n.natAbs / 10 ^ fine.toNat) ++ ((if frcU n fine = [] then [] else [46]) ++ frcU n fine)) → s = strOfNums (textU n fine)) := by
    intro s hs
    refine bts_inj ?_
    rw [hs, bts_of (textU_bytes n fine hn1).1]
    unfold textU
    rw [if_neg (show ¬ (fine < 0 ∨ 9 < fine) by omega)]
  obtain ⟨b, hb⟩ : ∃ b, decide (n < 0) = b := ⟨_, rfl⟩
  rw [hb] at CP
  have HB : Hid (decide (n < 0) = b) := hb
  by_cases hl : (S.size : Int) ≤ fine
  · obtain ⟨c, hc⟩ : ∃ c : Nat, c = fine.toNat + 1 - S.size := ⟨_, rfl⟩
    have hc2 : fine + 1 - (S.size : Int) = (c : Int) := by omega
    have e1 : IntKind.i64.wrap (fine + 1) = fine + 1 := by rw [IntKind.wrap_i64]; omega
    have e2 : IntKind.i64.wrap (fine + 1 - (S.size : Int)) = (c : Int) := by rw [IntKind.wrap_i64]; omega
    have h10 : ({ data := #[48] } : ByteArray).size = 1 := rfl
    have CR := fun w => Tryd.strings_Repeat { data := #[48] } c w (by omega) (by rw [h10]; omega)
    have hZ : bts { data := (Lib.repeatL (ByteArray.mk #[48]).data.toList c).toArray } = List.replicate c 48 := rep_bts c
    obtain ⟨Z, hZe⟩ : ∃ Z, ({ data := (Lib.repeatL (ByteArray.mk #[48]).data.toList c).toArray } : ByteArray) = Z := ⟨_, rfl⟩
    rw [hZe] at CR hZ
    have hZs : Z.size = c := by rw [← bts_len, hZ, List.length_replicate]
    have hcat := catT Z S (by omega)
    have HP : Hid (Dgs (bts (Z ++ S)) ∧ dvl (bts (Z ++ S)) = (n.natAbs : Int) ∧ fine.toNat < (Z ++ S).size ∧ ((bts (Z ++ S)).length = fine.toNat + 1 ∨ (bts (Z ++ S)).getD 0 0 ≠ 48) ∧ (Z ++ S).size ≤ 25) := by
      have hz2 : (Z ++ S).size = fine.toNat + 1 := by rw [ByteArray.size_append]; omega
      refine ⟨?_, ?_, by omega, Or.inl (by rw [bts_len, hz2]), by omega⟩
      · rw [btT_app, hZ, hD]
        intro x hx
        rcases List.mem_append.1 hx with h | h
        · rw [List.eq_of_mem_replicate h]; rfl
        · exact d2 x h
      · rw [btT_app, hZ, hD, dvl_reps, d3]
    obtain ⟨PS, hPS⟩ : ∃ PS, Z ++ S = PS := ⟨_, rfl⟩
    rw [hPS] at HP hcat
    clear h1 h2 h3 h4 d1 d2 d3 d4 d5 d6 hD hS hS0 hn1 hn2 hn hb HTB hsz hZ hZe hc hPS hs0 h10 hZs
    go_enter Tryd.func18, Tryd.ntmps18
    go_wp2_with fail
    refine (CU _).mono ?_
    clear CU
    rintro e w2 ⟨rfl, hw⟩
    obtain rfl := hw.symm
    go_wp2_with fail
    refine CI.mono ?_
    clear CI
    rintro e w2 ⟨rfl, kk, os, hgk⟩
    have HG : Hid (IsGr w w2) := by show IsGr _ _; rw [hgk]; exact ⟨os, w.drawn + kk, rfl⟩
    clear hgk
    go_wp2_with fail
    refine (CP _).mono ?_
    clear CP
    rintro e w3 ⟨rfl, hw⟩
    obtain rfl := hw.symm
    go_wp2_with fail
    refine (CR _).mono ?_
    clear CR
    rintro e w3 ⟨rfl, hb3⟩
    have HG3 : Hid (IsGr w w3) := HG.out.trans (IsGr.of_below hb3)
    clear hb3 HG
    have HPP := HP
    obtain ⟨hP1, hP2, hP3, hP4, hP5⟩ := HP.out
    obtain ⟨hc1, hc2⟩ := cut_spec hP1 hP2 (by rw [bts_len]; exact hP3) hP4 (by rw [bts_len]; exact hP5)
    rw [bts_len] at hc1 hc2
    obtain ⟨a, ha⟩ : ∃ a, PS.size - fine.toNat = a := ⟨_, rfl⟩
    have hfa : (PS.size : Int) - fine = (a : Int) := by have := HF.out; omega
    have hal : a ≤ PS.size := by omega
    rw [ha] at hc1 hc2
    have hB1 : bts (PS.extract 0 a) = dgsN (n.natAbs / 10 ^ fine.toNat) := by rw [bts_extract, List.drop_zero, Nat.sub_zero]; exact hc1
    have hB2 : bts (PS.extract a PS.size) = padN fine.toNat (n.natAbs % 10 ^ fine.toNat) := by
      rw [bts_extract, List.take_of_length_le (by rw [List.length_drop, bts_len]; omega)]; exact hc2
    have CTR := fun w => Tryd.strings_TrimRight_one (PS.extract a PS.size) 48 (by decide) w (by rw [size_extract (Nat.le_refl _)]; have := hP5; omega)
    have hB3 : bts { data := (Lib.trimRightB (PS.extract a PS.size).data.toList 48).toArray } = frcU n fine := by
      rw [bts_mk, trimR_bts]; unfold frcU; rw [← hB2]; rfl
    obtain ⟨A, hA⟩ : ∃ A, PS.extract 0 a = A := ⟨_, rfl⟩
    obtain ⟨F, hF⟩ : ∃ F, ({ data := (Lib.trimRightB (PS.extract a PS.size).data.toList 48).toArray } : ByteArray) = F := ⟨_, rfl⟩
    rw [hF] at CTR hB3
    rw [hA] at hB1
    have e7 : IntKind.i64.wrap ((PS.size : Int) - fine) = (a : Int) := by rw [IntKind.wrap_i64]; omega
    have k1 : (0 : Int) ≤ a := by omega
    have k2 : (a : Int) ≤ PS.size := by omega
    have hFs : F.size ≤ 9 := by
      rw [← bts_len, hB3]
      have h1 := (textU_spl n fine HF.out HN.out.1).2.1.1
      have := HF.out; omega
    have hAs : A.size ≤ 25 := by rw [← hA, size_extract hal]; omega
    have HBB : Hid (bts A = dgsN (n.natAbs / 10 ^ fine.toNat) ∧ bts F = frcU n fine) := ⟨hB1, hB3⟩
    clear hP1 hP2 hP3 hP4 hP5 hc1 hc2 hB1 hB2 hB3 hF ha HP HPP hal hfa
    go_wp2_with fail
    go_quiet (refine Calls.quiet_of_same (CTR _))
    clear CTR e7 k1 k2
    by_cases hFe : frcU n fine = []
    · obtain rfl : F = { data := #[] } := bts_inj (HBB.out.2.trans hFe)
      have HFE : Hid (frcU n fine = []) := hFe
      clear hFe
      cases b with
      | true =>
        have hct := catT { data := #[45] } A (by have h0 : ({ data := #[45] } : ByteArray).size = 1 := rfl; omega)
        go_wp2_with fail
        go_ret
        refine ⟨congrArg (fun z => Ending.returned (.string z)) (HE.out _ ?_), HG3.out.trans (by with_reducible repeat (first | exact IsGr.refl _ | refine IsGr.gr ?_ _ _ | refine IsGr.alloc ?_ _ | refine IsGr.drew ?_ | refine IsGr.drewN ?_ _))⟩
        rw [if_pos (of_decide_eq_true HB.out), if_pos HFE.out, btT_app, HBB.out.1, HFE.out]
        simp; rfl
      | false =>
        go_wp2_with fail
        go_ret
        refine ⟨congrArg (fun z => Ending.returned (.string z)) (HE.out _ ?_), HG3.out.trans (by with_reducible repeat (first | exact IsGr.refl _ | refine IsGr.gr ?_ _ _ | refine IsGr.alloc ?_ _ | refine IsGr.drew ?_ | refine IsGr.drewN ?_ _))⟩
        rw [if_neg (of_decide_eq_false HB.out), if_pos HFE.out, HBB.out.1, HFE.out]
        simp
    · have hFn := emp_ne (s := F) (by rw [← bts_len, HBB.out.2]; exact List.length_pos_iff.2 hFe)
      have HFE : Hid (¬ frcU n fine = []) := hFe
      have hc1 := catT { data := #[46] } F (by have h0 : ({ data := #[46] } : ByteArray).size = 1 := rfl; omega)
      have hsz1 : ({ data := #[46] } ++ F : ByteArray).size ≤ 10 := by rw [ByteArray.size_append]; have h0 : ({ data := #[46] } : ByteArray).size = 1 := rfl; omega
      have hc2 := catT A ({ data := #[46] } ++ F) (by omega)
      clear hFe
      cases b with
      | true =>
        have hct := catT { data := #[45] } (A ++ ({ data := #[46] } ++ F)) (by rw [ByteArray.size_append]; have h0 : ({ data := #[45] } : ByteArray).size = 1 := rfl; omega)
        clear hsz1
        go_wp2_with fail
        go_ret
        refine ⟨congrArg (fun z => Ending.returned (.string z)) (HE.out _ ?_), HG3.out.trans (by with_reducible repeat (first | exact IsGr.refl _ | refine IsGr.gr ?_ _ _ | refine IsGr.alloc ?_ _ | refine IsGr.drew ?_ | refine IsGr.drewN ?_ _))⟩
        rw [if_pos (of_decide_eq_true HB.out), if_neg HFE.out, btT_app, btT_app, btT_app, HBB.out.1, HBB.out.2]
        rfl
      | false =>
        clear hsz1
        go_wp2_with fail
        go_ret
        refine ⟨congrArg (fun z => Ending.returned (.string z)) (HE.out _ ?_), HG3.out.trans (by with_reducible repeat (first | exact IsGr.refl _ | refine IsGr.gr ?_ _ _ | refine IsGr.alloc ?_ _ | refine IsGr.drew ?_ | refine IsGr.drewN ?_ _))⟩
        rw [if_neg (of_decide_eq_false HB.out), if_neg HFE.out, btT_app, btT_app, HBB.out.1, HBB.out.2]
        rfl
  · have HP : Hid (Dgs (bts S) ∧ dvl (bts S) = (n.natAbs : Int) ∧ fine.toNat < S.size ∧ ((bts S).length = fine.toNat + 1 ∨ (bts S).getD 0 0 ≠ 48) ∧ S.size ≤ 25) := by
      rw [hD]
      exact ⟨d2, d3, by omega, by rcases d5 with h | h; exact Or.inl (by omega); exact Or.inr h, by omega⟩
    obtain ⟨PS, hPS⟩ : ∃ PS, S = PS := ⟨_, rfl⟩
    have hl' : ¬ (PS.size : Int) ≤ fine := hPS ▸ hl
    clear hl
    obtain rfl := hPS.symm
    clear h1 h2 h3 h4 d1 d2 d3 d4 d5 d6 hD hS hS0 hn1 hn2 hn hb HTB hsz hs0 hPS
    go_enter Tryd.func18, Tryd.ntmps18
    go_wp2_with fail
    refine (CU _).mono ?_
    clear CU
    rintro e w2 ⟨rfl, hw⟩
    obtain rfl := hw.symm
    go_wp2_with fail
    refine CI.mono ?_
    clear CI
    rintro e w3 ⟨rfl, kk, os, hgk⟩
    have HG3 : Hid (IsGr w w3) := by show IsGr _ _; rw [hgk]; exact ⟨os, w.drawn + kk, rfl⟩
    clear hgk
    go_wp2_with fail
    refine (CP _).mono ?_
    clear CP
    rintro e w4 ⟨rfl, hw⟩
    obtain rfl := hw.symm
    have HPP := HP
    obtain ⟨hP1, hP2, hP3, hP4, hP5⟩ := HP.out
    obtain ⟨hc1, hc2⟩ := cut_spec hP1 hP2 (by rw [bts_len]; exact hP3) hP4 (by rw [bts_len]; exact hP5)
    rw [bts_len] at hc1 hc2
    obtain ⟨a, ha⟩ : ∃ a, PS.size - fine.toNat = a := ⟨_, rfl⟩
    have hfa : (PS.size : Int) - fine = (a : Int) := by have := HF.out; omega
    have hal : a ≤ PS.size := by omega
    rw [ha] at hc1 hc2
    have hB1 : bts (PS.extract 0 a) = dgsN (n.natAbs / 10 ^ fine.toNat) := by rw [bts_extract, List.drop_zero, Nat.sub_zero]; exact hc1
    have hB2 : bts (PS.extract a PS.size) = padN fine.toNat (n.natAbs % 10 ^ fine.toNat) := by
      rw [bts_extract, List.take_of_length_le (by rw [List.length_drop, bts_len]; omega)]; exact hc2
    have CTR := fun w => Tryd.strings_TrimRight_one (PS.extract a PS.size) 48 (by decide) w (by rw [size_extract (Nat.le_refl _)]; have := hP5; omega)
    have hB3 : bts { data := (Lib.trimRightB (PS.extract a PS.size).data.toList 48).toArray } = frcU n fine := by
      rw [bts_mk, trimR_bts]; unfold frcU; rw [← hB2]; rfl
    obtain ⟨A, hA⟩ : ∃ A, PS.extract 0 a = A := ⟨_, rfl⟩
    obtain ⟨F, hF⟩ : ∃ F, ({ data := (Lib.trimRightB (PS.extract a PS.size).data.toList 48).toArray } : ByteArray) = F := ⟨_, rfl⟩
    rw [hF] at CTR hB3
    rw [hA] at hB1
    have e7 : IntKind.i64.wrap ((PS.size : Int) - fine) = (a : Int) := by rw [IntKind.wrap_i64]; omega
    have k1 : (0 : Int) ≤ a := by omega
    have k2 : (a : Int) ≤ PS.size := by omega
    have hFs : F.size ≤ 9 := by
      rw [← bts_len, hB3]
      have h1 := (textU_spl n fine HF.out HN.out.1).2.1.1
      have := HF.out; omega
    have hAs : A.size ≤ 25 := by rw [← hA, size_extract hal]; omega
    have HBB : Hid (bts A = dgsN (n.natAbs / 10 ^ fine.toNat) ∧ bts F = frcU n fine) := ⟨hB1, hB3⟩
    clear hP1 hP2 hP3 hP4 hP5 hc1 hc2 hB1 hB2 hB3 hF ha HP HPP hal hfa
    go_wp2_with fail
    go_quiet (refine Calls.quiet_of_same (CTR _))
    clear CTR e7 k1 k2
    by_cases hFe : frcU n fine = []
    · obtain rfl : F = { data := #[] } := bts_inj (HBB.out.2.trans hFe)
      have HFE : Hid (frcU n fine = []) := hFe
      clear hFe
      cases b with
      | true =>
        have hct := catT { data := #[45] } A (by have h0 : ({ data := #[45] } : ByteArray).size = 1 := rfl; omega)
        go_wp2_with fail
        go_ret
        refine ⟨congrArg (fun z => Ending.returned (.string z)) (HE.out _ ?_), HG3.out.trans (by with_reducible repeat (first | exact IsGr.refl _ | refine IsGr.gr ?_ _ _ | refine IsGr.alloc ?_ _ | refine IsGr.drew ?_ | refine IsGr.drewN ?_ _))⟩
        rw [if_pos (of_decide_eq_true HB.out), if_pos HFE.out, btT_app, HBB.out.1, HFE.out]
        simp; rfl
      | false =>
        go_wp2_with fail
        go_ret
        refine ⟨congrArg (fun z => Ending.returned (.string z)) (HE.out _ ?_), HG3.out.trans (by with_reducible repeat (first | exact IsGr.refl _ | refine IsGr.gr ?_ _ _ | refine IsGr.alloc ?_ _ | refine IsGr.drew ?_ | refine IsGr.drewN ?_ _))⟩
        rw [if_neg (of_decide_eq_false HB.out), if_pos HFE.out, HBB.out.1, HFE.out]
        simp
    · have hFn := emp_ne (s := F) (by rw [← bts_len, HBB.out.2]; exact List.length_pos_iff.2 hFe)
      have HFE : Hid (¬ frcU n fine = []) := hFe
      have hc1 := catT { data := #[46] } F (by have h0 : ({ data := #[46] } : ByteArray).size = 1 := rfl; omega)
      have hsz1 : ({ data := #[46] } ++ F : ByteArray).size ≤ 10 := by rw [ByteArray.size_append]; have h0 : ({ data := #[46] } : ByteArray).size = 1 := rfl; omega
      have hc2 := catT A ({ data := #[46] } ++ F) (by omega)
      clear hFe
      cases b with
      | true =>
        have hct := catT { data := #[45] } (A ++ ({ data := #[46] } ++ F)) (by rw [ByteArray.size_append]; have h0 : ({ data := #[45] } : ByteArray).size = 1 := rfl; omega)
        clear hsz1
        go_wp2_with fail
        go_ret
        refine ⟨congrArg (fun z => Ending.returned (.string z)) (HE.out _ ?_), HG3.out.trans (by with_reducible repeat (first | exact IsGr.refl _ | refine IsGr.gr ?_ _ _ | refine IsGr.alloc ?_ _ | refine IsGr.drew ?_ | refine IsGr.drewN ?_ _))⟩
        rw [if_pos (of_decide_eq_true HB.out), if_neg HFE.out, btT_app, btT_app, btT_app, HBB.out.1, HBB.out.2]
        rfl
      | false =>
        clear hsz1
        go_wp2_with fail
        go_ret
        refine ⟨congrArg (fun z => Ending.returned (.string z)) (HE.out _ ?_), HG3.out.trans (by with_reducible repeat (first | exact IsGr.refl _ | refine IsGr.gr ?_ _ _ | refine IsGr.alloc ?_ _ | refine IsGr.drew ?_ | refine IsGr.drewN ?_ _))⟩
        rw [if_neg (of_decide_eq_false HB.out), if_neg HFE.out, btT_app, btT_app, HBB.out.1, HBB.out.2]
        rfl
end Go.Proofs.YtfpifbfnebfdaaaDoor
namespace Go.Proofs.YtfpifbfnebfdaaaDoor
theorem decC : DecC where
  scale s fine w M E hs _ hN := by
    by_cases hf : 0 ≤ fine ∧ fine ≤ 9
    · exact dscale_in s fine w M E hs hN hf
    · exact dscale_out s fine w M E hs hN hf
  scaleNo s fine w hs _ hr := dscale_no s fine w hs hr
  text n fine w ht hn _ := by
    by_cases hf : 0 ≤ fine ∧ fine ≤ 9
    · exact dtext_in n fine w ht hn hf
    · exact dtext_out n fine w hf
  digits s w M E hs hN := ddigits_ok s w M E hs hN
  digitsNo s w hs hr := ddigits_no s w hs hr
end Go.Proofs.YtfpifbfnebfdaaaDoor
