/- The text of some units, in plain words: what it is made of. -/
import Derived.Test.YtfpifbfnebfdaaaDoorI9
import Derived.Test.YtfpifbfnebfdaaaDoorC2
namespace Go.Proofs.YtfpifbfnebfdaaaDoor
theorem nat_ten (k : Nat) : ((10 ^ k : Nat) : Int) = (10 : Int) ^ k := by simp
/-- The parts of the text of n units. -/
theorem textU_spl (n fine : Int) (hf : 0 ≤ fine ∧ fine ≤ 9) (hn : n.natAbs < 10 ^ 20) :
    Spl (textU n fine) (decide (n < 0)) (if n < 0 then [45] else []) (dgsN (n.natAbs / 10 ^ fine.toNat)) (if frcU n fine = [] then [] else [46]) (frcU n fine) [] 0 ∧
    ((frcU n fine).length ≤ fine.toNat ∧ n = sgI (decide (n < 0)) (dvl (dgsN (n.natAbs / 10 ^ fine.toNat) ++ frcU n fine)) * 10 ^ (fine.toNat - (frcU n fine).length)) ∧
    ((∀ c r, (frcU n fine).reverse = c :: r → c ≠ 48) ∧ (0 < n.natAbs / 10 ^ fine.toNat → (dgsN (n.natAbs / 10 ^ fine.toNat)).getD 0 0 ≠ 48) ∧ (n.natAbs / 10 ^ fine.toNat < 10 → (dgsN (n.natAbs / 10 ^ fine.toNat)).length = 1)) ∧ dgsN (n.natAbs / 10 ^ fine.toNat) ≠ [] ∧ (dgsN (n.natAbs / 10 ^ fine.toNat)).length ≤ 25 := by
  have hq : n.natAbs / 10 ^ fine.toNat < 10 ^ 25 := Nat.lt_of_le_of_lt (Nat.div_le_self _ _) (Nat.lt_of_lt_of_le hn (by decide))
  obtain ⟨d1, d2, d3, d4, d5, d6⟩ := dgsF_spec 25 (n.natAbs / 10 ^ fine.toNat) hq (by omega)
  have hr : n.natAbs % 10 ^ fine.toNat < 10 ^ fine.toNat := Nat.mod_lt _ (Nat.pow_pos (by omega))
  obtain ⟨p1, p2, p3⟩ := padN_spec fine.toNat _ hr
  obtain ⟨z, hz, hlast⟩ := trimZ_spec (padN fine.toNat (n.natAbs % 10 ^ fine.toNat))
  have hL : frcU n fine = trimZ (padN fine.toNat (n.natAbs % 10 ^ fine.toNat)) := rfl
  rw [← hL] at hz hlast
  have hlen : (frcU n fine).length + z = fine.toNat := by
    have := congrArg List.length hz
    rw [List.length_append, List.length_replicate, p3] at this
    omega
  have hd2 : Dgs (frcU n fine) := fun c hc => p1 c (by rw [hz]; exact List.mem_append_left _ hc)
  have hval : dvl (dgsN (n.natAbs / 10 ^ fine.toNat) ++ frcU n fine) * 10 ^ z = (n.natAbs : Int) := by
    rw [← dvl_zeros, List.append_assoc, ← hz, dvl_app, p2, p3]
    have e1 : dvl (dgsN (n.natAbs / 10 ^ fine.toNat)) = ((n.natAbs / 10 ^ fine.toNat : Nat) : Int) := d2
    rw [e1, ← nat_ten]
    have := Nat.div_add_mod n.natAbs (10 ^ fine.toNat)
    rw [Nat.mul_comm] at this
    exact_mod_cast this
  refine ⟨⟨?_, ?_, d1, ?_, hd2, ?_, Or.inl ⟨rfl, rfl⟩⟩, ⟨by omega, ?_⟩, ⟨hlast, d4, d6⟩, d3, d5⟩
  · unfold textU
    rw [if_neg (by omega)]
    simp
  · by_cases h : n < 0
    · rw [if_pos h, decide_eq_true h]; exact Or.inr (Or.inr ⟨rfl, rfl⟩)
    · rw [if_neg h, decide_eq_false h]; exact Or.inl ⟨rfl, rfl⟩
  · by_cases h : frcU n fine = []
    · rw [if_pos h]; exact Or.inl ⟨rfl, h⟩
    · rw [if_neg h]; exact Or.inr rfl
  · intro h
    exact d3 (List.append_eq_nil_iff.1 h).1
  · rw [show fine.toNat - (frcU n fine).length = z by omega]
    unfold sgI
    by_cases h : n < 0
    · rw [decide_eq_true h, if_pos rfl, Int.neg_mul, hval]; omega
    · rw [decide_eq_false h, if_neg (by simp), hval]; omega
theorem textU_bytes (n fine : Int) (hn : n.natAbs < 10 ^ 20) : (∀ c ∈ textU n fine, 0 ≤ c ∧ c < 256) ∧ (textU n fine).length ≤ 60 := by
  by_cases h : fine < 0 ∨ 9 < fine
  · unfold textU; rw [if_pos h]; simp
  · obtain ⟨hs, ⟨h1, _⟩, _, _, h5⟩ := textU_spl n fine (by omega) hn
    refine ⟨fun c hc => ?_, ?_⟩
    · rw [hs.eq] at hc
      simp only [List.mem_append] at hc
      rcases hc with hc | hc | hc | hc | hc
      · split at hc <;> simp at hc; omega
      · have := dg_range (hs.d1 c hc); omega
      · split at hc <;> simp at hc; omega
      · have := dg_range (hs.d2 c hc); omega
      · cases hc
    · have := congrArg List.length hs.eq
      simp only [List.length_append, List.length_nil] at this
      have h7 : (if n < 0 then [(45 : Int)] else []).length ≤ 1 := by split <;> simp
      have h8 : (if frcU n fine = [] then ([] : List Int) else [46]).length ≤ 1 := by split <;> simp
      omega
theorem textU_unit (n fine : Int) (hf : 0 ≤ fine ∧ fine ≤ 9) (hn : n.natAbs < 10 ^ 20) : UnitIs (sgI (decide (n < 0)) (dvl (dgsN (n.natAbs / 10 ^ fine.toNat) ++ frcU n fine))) (0 - ((frcU n fine).length : Nat) + fine) n := by
  obtain ⟨_, ⟨h1, h2⟩, _⟩ := textU_spl n fine hf hn
  exact Or.inl ⟨by omega, by rw [show (0 - ((frcU n fine).length : Nat) + fine : Int).toNat = fine.toNat - (frcU n fine).length by omega]; exact h2⟩
end Go.Proofs.YtfpifbfnebfdaaaDoor
