/- Plain facts: numbers read of decimal digits. -/
import Derived.Test.YtfpifbfnebfdaaaDoorM6
namespace Go.Proofs.YtfpifbfnebfdaaaDoor
open Go.RowKit

/-- The bytes of a string. -/
def nums (s : ByteArray) : List Int := s.data.toList.map fun b => (b.toNat : Int)
theorem nums_len (s : ByteArray) : (nums s).length = s.size := by unfold nums; rw [List.length_map]; rfl
theorem nums_at (s : ByteArray) (i : Nat) (h : i < s.size) : (nums s).drop i = ((s[i]'h).toNat : Int) :: (nums s).drop (i + 1) := by
  rw [List.drop_eq_getElem_cons (by rw [nums_len]; exact h)]
  congr 1
  simp [nums]
  rfl
theorem nums_str (xs : List Int) (h : ∀ x ∈ xs, 0 ≤ x ∧ x < 256) : nums (strOfNums xs) = xs := by
  unfold nums
  rw [strOfNums_data, List.map_map]
  refine (List.map_congr_left (g := id) fun x hx => ?_).trans (List.map_id _)
  have := h x hx
  simp
  omega

/-- The number of decimal digits behind acc; none: one is no digit. -/
def dval : List Int → Int → Option Int
  | [], acc => some acc
  | c :: r, acc => if c < 48 ∨ 57 < c then none else dval r (acc * 10 + (c - 48))

/-- Digits from place i on, with a sign ahead or not; none: it is no number as it is to be written. -/
def dspec (l : List Int) : Option Int :=
  match l with
  | [] => none
  | 45 :: r => (match r with | [] => none | 48 :: _ => none | _ => (dval r 0).map (fun z => 0 - z))
  | 48 :: r => if r = [] then some 0 else none
  | _ => dval l 0

theorem dspec_nil : dspec [] = none := rfl
theorem dspec_minus {r : List Int} (h : r ≠ []) (h2 : r.head? ≠ some 48) : dspec (45 :: r) = (dval r 0).map (fun z => 0 - z) := by
  match r with
  | [] => exact absurd rfl h
  | c :: r' =>
    by_cases hc : c = 48
    · subst hc; simp at h2
    · simp only [dspec]
      split
      · rename_i e; cases e
      · rename_i e; injection e with e1 _; exact absurd e1 hc
      · rfl
theorem dspec_minus_none {r : List Int} (h : r = [] ∨ r.head? = some 48) : dspec (45 :: r) = none := by
  match r with
  | [] => rfl
  | c :: r' =>
    rcases h with h | h
    · cases h
    · simp at h; subst h; rfl
theorem dspec_plain {c : Int} {r : List Int} (h : c ≠ 45) (h2 : c ≠ 48 ∨ r = []) : dspec (c :: r) = dval (c :: r) 0 := by
  by_cases hc : c = 48
  · subst hc
    have hr : r = [] := by rcases h2 with h2 | h2; exact absurd rfl h2; exact h2
    subst hr
    simp [dspec, dval]
  · unfold dspec
    split
    · rename_i e; cases e
    · rename_i e; injection e with e1 _; exact absurd e1 h
    · rename_i e; injection e with e1 _; exact absurd e1 hc
    · rfl
theorem dspec_nought {r : List Int} (h : r ≠ []) : dspec (48 :: r) = none := by
  simp [dspec, h]

theorem dval_bad {c : Int} {r : List Int} {acc : Int} (h : c < 48 ∨ 57 < c) : dval (c :: r) acc = none := by simp [dval, h]
theorem dval_good {c : Int} {r : List Int} {acc : Int} (h : 48 ≤ c) (h2 : c ≤ 57) : dval (c :: r) acc = dval r (acc * 10 + (c - 48)) := by
  rw [dval, if_neg (by omega)]
theorem dval_ge : ∀ (l : List Int) (acc z : Int), 0 ≤ acc → dval l acc = some z → acc ≤ z
  | [], acc, z, _, h => by simp [dval] at h; omega
  | c :: r, acc, z, ha, h => by
    by_cases hc : c < 48 ∨ 57 < c
    · rw [dval_bad hc] at h; cases h
    · rw [dval_good (by omega) (by omega)] at h
      have := dval_ge r _ z (by omega) h
      omega

theorem decs_dval : ∀ (f n : Nat) (acc : List Int), n < 10 ^ f → dval (decs f n acc) 0 = dval acc n
  | 0, n, acc, h => by
    have : n = 0 := by simpa using h
    subst this; rfl
  | f + 1, n, acc, h => by
    have key : dval ((48 + ((n % 10 : Nat) : Int)) :: acc) ((n / 10 : Nat) : Int) = dval acc n := by
      rw [dval_good (by omega) (by omega)]
      congr 1
      omega
    rw [decs]
    split
    · rename_i h0
      rw [← key, h0]; rfl
    · rw [decs_dval f (n / 10) _ (by rw [Nat.pow_succ] at h; omega)]
      exact key
theorem decs_head : ∀ (f n : Nat) (acc : List Int), 0 < n → n < 10 ^ f → ∃ c r, decs f n acc = c :: r ∧ 49 ≤ c ∧ c ≤ 57
  | 0, n, acc, h0, h => by simp at h; omega
  | f + 1, n, acc, h0, h => by
    rw [decs]
    split
    · exact ⟨_, _, rfl, by omega, by omega⟩
    · exact decs_head f (n / 10) _ (by omega) (by rw [Nat.pow_succ] at h; omega)
theorem decs_bytes : ∀ (f n : Nat) (acc : List Int), (∀ x ∈ acc, 0 ≤ x ∧ x < 256) → ∀ x ∈ decs f n acc, 0 ≤ x ∧ x < 256
  | 0, n, acc, h => h
  | f + 1, n, acc, h => by
    have h' : ∀ x ∈ (48 + ((n % 10 : Nat) : Int)) :: acc, 0 ≤ x ∧ x < 256 := by
      intro x hx
      rcases List.mem_cons.1 hx with rfl | hx
      · omega
      · exact h x hx
    rw [decs]
    split
    · exact h'
    · exact decs_bytes f (n / 10) _ h'
theorem decs_len : ∀ (f n : Nat) (acc : List Int), (decs f n acc).length ≤ f + acc.length
  | 0, n, acc => by simp [decs]
  | f + 1, n, acc => by
    rw [decs]
    split
    · simp only [List.length_cons]; omega
    · have := decs_len f (n / 10) ((48 + ((n % 10 : Nat) : Int)) :: acc)
      simp only [List.length_cons] at this; omega

theorem txt_bytes (x : Int) : ∀ c ∈ txt x, 0 ≤ c ∧ c < 256 := by
  intro c hc
  unfold txt at hc
  split at hc
  · rcases List.mem_cons.1 hc with rfl | hc
    · omega
    · exact decs_bytes 78 _ [] (by simp) c hc
  · exact decs_bytes 78 _ [] (by simp) c hc
theorem txt_len (x : Int) : (txt x).length ≤ 79 := by
  unfold txt
  split
  · have := decs_len 78 (abs x).toNat []; simp at this ⊢; omega
  · have := decs_len 78 (abs x).toNat []; simp at this ⊢; omega
/-- What is written is read back. -/
theorem txt_read (x : Int) (h : abs x < 10 ^ 77) : dspec (txt x) = some x := by
  have ha : 0 ≤ abs x := by unfold abs; split <;> omega
  obtain ⟨N, hN⟩ := Int.eq_ofNat_of_zero_le ha
  have hlt : N < 10 ^ 78 := by
    rw [hN] at h
    have h2 : ((N : Nat) : Int) < ((10 ^ 77 : Nat) : Int) := by simpa using h
    have h3 : N < 10 ^ 77 := Int.ofNat_lt.1 h2
    exact Nat.lt_trans h3 (by decide)
  unfold txt
  rw [hN, Int.toNat_natCast]
  have hd := decs_dval 78 N [] hlt
  simp only [dval] at hd
  by_cases hx : x < 0
  · rw [if_pos hx]
    have hp : 0 < N := by unfold abs at hN; rw [if_pos hx] at hN; omega
    obtain ⟨c, r, hcr, c0, c1⟩ := decs_head 78 N [] hp hlt
    rw [hcr] at hd ⊢
    rw [dspec_minus (by simp) (by simp; omega), hd]
    simp
    unfold abs at hN; rw [if_pos hx] at hN; omega
  · rw [if_neg hx]
    have hxe : x = N := by unfold abs at hN; rw [if_neg hx] at hN; exact hN
    rcases Nat.eq_zero_or_pos N with h0 | h0
    · subst h0; rw [hxe]; rfl
    · obtain ⟨c, r, hcr, c0, c1⟩ := decs_head 78 N [] h0 hlt
      rw [hcr] at hd ⊢
      rw [dspec_plain (by omega) (Or.inl (by omega)), hd, hxe]
end Go.Proofs.YtfpifbfnebfdaaaDoor
