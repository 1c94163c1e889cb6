/- Decimal numbers in plain words: units, and the text of some units. -/
import Derived.Test.YtfpifbfnebfdaaaDoorI1
namespace Go.Proofs.YtfpifbfnebfdaaaDoor
/-- The greatest unit. -/
def MxU : Int := 1099511627775
/-- M times ten to the power of q is the whole number k. -/
def UnitIs (M q k : Int) : Prop := (0 ≤ q ∧ k = M * 10 ^ q.toNat) ∨ (q < 0 ∧ k * 10 ^ (-q).toNat = M)
theorem UnitIs.uniq {M q k k' : Int} (h : UnitIs M q k) (h' : UnitIs M q k') : k = k' := by
  rcases h with ⟨h1, h2⟩ | ⟨h1, h2⟩ <;> rcases h' with ⟨h3, h4⟩ | ⟨h3, h4⟩
  · rw [h2, h4]
  · omega
  · omega
  · exact Int.eq_of_mul_eq_mul_right (by have := ten_pos (-q).toNat; omega) (h2.trans h4.symm)
/-- What Scale answers of M times ten to the power of E. -/
def ScR (M E fine n err : Int) : Prop :=
  ((fine < 0 ∨ 9 < fine) ∧ n = 0 ∧ err = 10) ∨ (0 ≤ fine ∧ fine ≤ 9 ∧ ((∃ k, UnitIs M (E + fine) k ∧ ((-MxU ≤ k ∧ k ≤ MxU ∧ n = k ∧ err = 0) ∨ ((k < -MxU ∨ MxU < k) ∧ n = 0 ∧ err = 23))) ∨ ((∀ k, ¬ UnitIs M (E + fine) k) ∧ n = 0 ∧ err = 22)))
theorem ScR.ok {M E fine n err k : Int} (h : ScR M E fine n err) (hf : 0 ≤ fine ∧ fine ≤ 9) (hk : UnitIs M (E + fine) k) (h1 : -MxU ≤ k) (h2 : k ≤ MxU) : n = k ∧ err = 0 := by
  rcases h with ⟨h3, _⟩ | ⟨_, _, ⟨k', hk', h4⟩ | ⟨h4, _⟩⟩
  · omega
  · have e := hk.uniq hk'
    subst e
    rcases h4 with ⟨_, _, h5, h6⟩ | ⟨h5, _⟩
    · exact ⟨h5, h6⟩
    · omega
  · exact absurd hk (h4 k)
theorem ScR.far {M E fine n err k : Int} (h : ScR M E fine n err) (hf : 0 ≤ fine ∧ fine ≤ 9) (hk : UnitIs M (E + fine) k) (h1 : k < -MxU ∨ MxU < k) : n = 0 ∧ err = 23 := by
  rcases h with ⟨h3, _⟩ | ⟨_, _, ⟨k', hk', h4⟩ | ⟨h4, _⟩⟩
  · omega
  · have e := hk.uniq hk'
    subst e
    rcases h4 with ⟨_, _, _⟩ | ⟨_, h5, h6⟩
    · omega
    · exact ⟨h5, h6⟩
  · exact absurd hk (h4 k)
theorem ScR.fine {M E fine n err : Int} (h : ScR M E fine n err) (hf : 0 ≤ fine ∧ fine ≤ 9) (hk : ∀ k, ¬ UnitIs M (E + fine) k) : n = 0 ∧ err = 22 := by
  rcases h with ⟨h3, _⟩ | ⟨_, _, ⟨k', hk', _⟩ | ⟨_, h5, h6⟩⟩
  · omega
  · exact absurd hk' (hk k')
  · exact ⟨h5, h6⟩
/-- The digits of a number: no nought ahead of another one. -/
def dgsF : Nat → Nat → List Int
  | 0, _ => []
  | f + 1, m => if m < 10 then [48 + (m : Int)] else dgsF f (m / 10) ++ [48 + ((m % 10 : Nat) : Int)]
def dgsN (m : Nat) : List Int := dgsF 25 m
theorem dgsF_spec : ∀ (f m : Nat), m < 10 ^ f → 0 < f → Dgs (dgsF f m) ∧ dvl (dgsF f m) = (m : Int) ∧ dgsF f m ≠ [] ∧ (0 < m → (dgsF f m).getD 0 0 ≠ 48) ∧ (dgsF f m).length ≤ f ∧ (m < 10 → (dgsF f m).length = 1)
  | 0, m, _, h => absurd h (by omega)
  | f + 1, m, hm, _ => by
    unfold dgsF
    by_cases h : m < 10
    · rw [if_pos h]
      refine ⟨fun c hc => ?_, by rw [dvl_cons]; simp [dvl, dvF]; omega, by simp, fun h0 => by simp; omega, by simp, fun _ => rfl⟩
      simp at hc
      exact dg_of (by omega)
    · rw [if_neg h]
      have hf : 0 < f := by
        rcases Nat.eq_zero_or_pos f with h0 | h0
        · subst h0; simp at hm; omega
        · exact h0
      have hm2 : m / 10 < 10 ^ f := by rw [Nat.pow_succ] at hm; omega
      obtain ⟨i1, i2, i3, i4, i5, _⟩ := dgsF_spec f (m / 10) hm2 hf
      refine ⟨i1.app (fun c hc => by simp at hc; exact dg_of (by omega)), ?_, by simp, fun _ => ?_, by simp; omega, fun h1 => absurd h1 h⟩
      · rw [dvl_snoc, i2]; omega
      · have e : (dgsF f (m / 10) ++ [48 + ((m % 10 : Nat) : Int)]).getD 0 0 = (dgsF f (m / 10)).getD 0 0 := by
          simp only [List.getD_eq_getElem?_getD]
          rw [List.getElem?_append_left (List.length_pos_iff.2 i3)]
        rw [e]
        exact i4 (by omega)
/-- So many digits of a number. -/
def padN : Nat → Nat → List Int
  | 0, _ => []
  | k + 1, f => padN k (f / 10) ++ [48 + ((f % 10 : Nat) : Int)]
theorem padN_spec : ∀ (k f : Nat), f < 10 ^ k → Dgs (padN k f) ∧ dvl (padN k f) = (f : Int) ∧ (padN k f).length = k
  | 0, f, h => by
    simp at h; subst h
    exact ⟨Dgs.nil, rfl, rfl⟩
  | k + 1, f, h => by
    have h2 : f / 10 < 10 ^ k := by rw [Nat.pow_succ] at h; omega
    obtain ⟨i1, i2, i3⟩ := padN_spec k (f / 10) h2
    unfold padN
    refine ⟨i1.app (fun c hc => by simp at hc; exact dg_of (by omega)), ?_, by simp [i3]⟩
    rw [dvl_snoc, i2]; omega
/-- Without noughts at the end. -/
def trimZ (l : List Int) : List Int := (l.reverse.dropWhile (fun c => c == 48)).reverse
theorem trimZ_spec (l : List Int) : ∃ z, l = trimZ l ++ List.replicate z 48 ∧ (∀ c r, (trimZ l).reverse = c :: r → c ≠ 48) := by
  have h := List.takeWhile_append_dropWhile (p := fun c : Int => c == 48) (l := l.reverse)
  have h2 : ∀ c ∈ l.reverse.takeWhile (fun c => c == 48), c = 48 := fun c hc => by
    have := List.all_takeWhile (p := fun c : Int => c == 48) (l := l.reverse)
    rw [List.all_eq_true] at this
    simpa using this c hc
  refine ⟨(l.reverse.takeWhile (fun c => c == 48)).length, ?_, ?_⟩
  · unfold trimZ
    generalize hA : l.reverse.takeWhile (fun c => c == 48) = A at *
    generalize l.reverse.dropWhile (fun c => c == 48) = B at *
    have hA2 : A = List.replicate A.length 48 := List.eq_replicate_iff.2 ⟨rfl, h2⟩
    have hA3 : A.reverse = A := by rw [hA2, List.reverse_replicate]
    have h3 := congrArg List.reverse h
    rw [List.reverse_append, List.reverse_reverse, hA3] at h3
    rw [← h3, ← hA2]
  · intro c r hc
    unfold trimZ at hc
    rw [List.reverse_reverse] at hc
    have := List.head?_dropWhile_not (fun c : Int => c == 48) l.reverse
    rw [hc] at this
    simpa using this
theorem dvl_zeros (l : List Int) (z : Nat) : dvl (l ++ List.replicate z 48) = dvl l * 10 ^ z := by
  rw [dvl_app, List.length_replicate]
  have : dvl (List.replicate z 48) = 0 := by
    induction z with
    | zero => rfl
    | succ z ih => rw [List.replicate_succ, dvl_cons, ih]; simp
  rw [this, Int.add_zero]
/-- The text of n units. -/
def frcU (n fine : Int) : List Int := trimZ (padN fine.toNat (n.natAbs % 10 ^ fine.toNat))
def textU (n fine : Int) : List Int :=
  if fine < 0 ∨ 9 < fine then [] else (if n < 0 then [45] else []) ++ (dgsN (n.natAbs / 10 ^ fine.toNat) ++ ((if frcU n fine = [] then [] else [46]) ++ frcU n fine))
end Go.Proofs.YtfpifbfnebfdaaaDoor
