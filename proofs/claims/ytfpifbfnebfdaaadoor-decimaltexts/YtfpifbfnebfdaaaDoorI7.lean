/- gromaref10.Number: plain words of its loops. -/
import Derived.Test.YtfpifbfnebfdaaaDoorI2
import Derived.Test.YtfpifbfnebfdaaaDoorC2
namespace Go.Proofs.YtfpifbfnebfdaaaDoor
/-- A byte of a number ahead of its power. -/
def mstep (st : Int × Bool × Int) (c : Int) : Int × Bool × Int := if c = 46 then (st.1, true, st.2.2) else (st.1 * 10 + (c - 48), st.2.1, if st.2.1 = true then st.2.2 - 1 else st.2.2)
def mstF (l : List Int) : Int × Bool × Int := l.foldl mstep (0, false, 0)
theorem mstF_snoc (l : List Int) (c : Int) : mstF (l ++ [c]) = mstep (mstF l) c := by unfold mstF; rw [List.foldl_append]; rfl
/-- Digits or points. -/
def Dps (l : List Int) : Prop := ∀ c ∈ l, c = 46 ∨ dgB c = true
theorem mst_dgs {l : List Int} (h : Dgs l) : ∀ (z : Int) (d : Bool) (e : Int), l.foldl mstep (z, d, e) = (dvF z l, d, if d = true then e - (l.length : Nat) else e) := by
  induction l with
  | nil => intro z d e; cases d <;> simp [dvF]
  | cons c l ih =>
    intro z d e
    have hc := dg_range (h c (by simp))
    rw [List.foldl_cons, show mstep (z, d, e) c = (z * 10 + (c - 48), d, if d = true then e - 1 else e) by unfold mstep; rw [if_neg (by omega)], ih (fun x hx => h x (List.mem_cons_of_mem _ hx)), dvF_cons]
    cases d
    · rfl
    · simp only [if_true, List.length_cons]
      congr 2
      omega
theorem mst_all {l1 dt l2 : List Int} (h1 : Dgs l1) (h2 : Dgs l2) (hd : (dt = [] ∧ l2 = []) ∨ dt = [46]) : ∃ d, mstF (l1 ++ (dt ++ l2)) = (dvl (l1 ++ l2), d, -((l2.length : Nat) : Int)) := by
  unfold mstF
  rw [List.foldl_append, mst_dgs h1]
  rcases hd with ⟨rfl, rfl⟩ | rfl
  · exact ⟨false, by simp [dvl]⟩
  · refine ⟨true, ?_⟩
    rw [List.foldl_append, show List.foldl mstep (dvF 0 l1, false, if false = true then 0 - ((l1.length : Nat) : Int) else 0) [46] = (dvF 0 l1, true, 0) from rfl, mst_dgs h2]
    unfold dvl
    rw [dvF_app]
    simp
theorem mst_bound {l : List Int} (h : Dps l) : 0 ≤ (mstF l).1 ∧ (mstF l).1 < 10 ^ l.length ∧ -((l.length : Nat) : Int) ≤ (mstF l).2.2 ∧ (mstF l).2.2 ≤ 0 := by
  have key : ∀ n, n ≤ l.length → 0 ≤ (mstF (l.take n)).1 ∧ (mstF (l.take n)).1 < 10 ^ n ∧ -((n : Nat) : Int) ≤ (mstF (l.take n)).2.2 ∧ (mstF (l.take n)).2.2 ≤ 0 := by
    intro n
    induction n with
    | zero => intro _; simp [mstF]
    | succ n ih =>
      intro hn
      obtain ⟨i1, i2, i3, i4⟩ := ih (by omega)
      have hc := h (l.getD n 0) (by simp [List.getD, List.getElem?_eq_getElem (show n < l.length by omega)])
      rw [takeS (by omega), mstF_snoc]
      unfold mstep
      have hp := ten_pos n
      rw [Int.pow_succ]
      generalize (10 : Int) ^ n = q at *
      by_cases h46 : l.getD n 0 = 46
      · rw [if_pos h46]
        exact ⟨i1, by simp only; omega, by simp only; omega, i4⟩
      · rw [if_neg h46]
        have hd := dg_range (hc.resolve_left h46)
        simp only
        refine ⟨by omega, by omega, ?_, ?_⟩
        · split <;> omega
        · split <;> omega
  have := key l.length (Nat.le_refl _)
  rwa [List.take_length] at this
theorem mst_take {l : List Int} (h : Dps l) {k : Nat} (hk : k ≤ l.length) : 0 ≤ (mstF (l.take k)).1 ∧ (mstF (l.take k)).1 < 10 ^ k ∧ -((k : Nat) : Int) ≤ (mstF (l.take k)).2.2 ∧ (mstF (l.take k)).2.2 ≤ 0 := by
  have := mst_bound (l := l.take k) (fun c hc => h c (List.mem_of_mem_take hc))
  rwa [List.length_take, Nat.min_eq_left hk] at this
theorem dps_of {l1 dt l2 : List Int} (h1 : Dgs l1) (h2 : Dgs l2) (hd : (dt = [] ∧ l2 = []) ∨ dt = [46]) : Dps (l1 ++ (dt ++ l2)) := fun c hc => by
  rcases List.mem_append.1 hc with h | h
  · exact Or.inr (h1 c h)
  · rcases List.mem_append.1 h with h | h
    · rcases hd with ⟨rfl, _⟩ | rfl
      · cases h
      · simp at h; exact Or.inl h
    · exact Or.inr (h2 c h)
theorem getD_mid {a m r : List Int} {k : Nat} (hk : k < m.length) : (a ++ (m ++ r)).getD (a.length + k) 0 = m.getD k 0 := by
  simp only [List.getD_eq_getElem?_getD]
  rw [List.getElem?_append_right (by omega), Nat.add_sub_cancel_left, List.getElem?_append_left hk]
theorem getD_end {a m : List Int} {c : Int} {r : List Int} : (a ++ (m ++ c :: r)).getD (a.length + m.length) 0 = c := by
  simp only [List.getD_eq_getElem?_getD]
  rw [List.getElem?_append_right (by omega), Nat.add_sub_cancel_left, List.getElem?_append_right (Nat.le_refl _)]
  simp
end Go.Proofs.YtfpifbfnebfdaaaDoor
