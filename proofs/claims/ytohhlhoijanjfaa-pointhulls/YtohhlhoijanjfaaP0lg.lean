/- What the rows of the statements share: slices of points opened. -/
import Derived.Test.YtohhlhoijanjfaaGP
import Derived.Test.YtohhlhoijanjfaaGU
import Derived.Test.YtohhlhoijanjfaaR8
import Derived.Deep.SlicePairs
import Derived.Carry
namespace Go.Proofs.Ytohhlhoijanjfaa
open Go Go.ChangeShapes Go.WideShapes Go.ChangeAt Go.RowKit

theorem laid_out : laidOutB Try.prog = true := by kernel_rfl
theorem int_form {H : Type} {enc : TypeId × Value → H} {W : World} {b : Nat} {sp : Nat → Bool} {hd : Bool} {n : Nat} {v : Value} {y : DataW H × List MemPlace} (h : DataW.trod enc Try.prog W b sp hd n 3 [v] = some y) : v = .int .i64 (intOf v) := by
  obtain ⟨z, e, _, _⟩ := DataW.trod_int Try.underlying3 h
  simp at e
  subst e
  rfl
set_option maxRecDepth 100000 in
theorem open_pts {H : Type} {enc : TypeId × Value → H} {W : World} {base : Nat} {r : Reach} {v : Value} {d : DataW H} {p : List MemPlace} (hv : Value.okWide Try.prog W r base 22 v) (h : DataW.Trod enc Try.prog W 0 (fun _ => true) true 22 v d p) :
    ∃ (a : Option Addr) (n c : Nat) (l : List (Int × Int)), v = .slice a n c ∧ Pts W (.slice a n c) l := by
  obtain ⟨a0, len, cap, rfl⟩ := okWide_slice Try.underlying22 hv
  obtain ⟨fuel, hf⟩ := h
  rcases Go.Deep.open_slice_pairs Try.underlying22 Try.underlying24 cells_pt rfl rfl cells_n cells_n hf with ⟨hcs, _⟩ | ⟨a, len', cap', m, n, V0, V1, D0, D1, P0, P1, hcs, hb, hl, hm, hmm, _, hx⟩
  · simp [Value.cells] at hcs
    obtain ⟨rfl, rfl, rfl⟩ := hcs
    exact ⟨none, 0, 0, [], rfl, Pts.nil W⟩
  · simp [Value.cells] at hcs
    obtain ⟨rfl, rfl, rfl⟩ := hcs
    simp at hmm
    subst hmm
    refine ⟨some a, len, m, (List.range len).map (fun i => (intOf (V0 i), intOf (V1 i))), rfl, some a, m, by simp, by simpa using hl, hm, ?_⟩
    by_cases h0 : len = 0
    · subst h0; exact Or.inl rfl
    · right
      have hc0 := (hx 0 (by omega)).1
      have hs : a.spot = none := by
        have := World.cell?_spot hc0
        simpa [Addr.add] using this
      obtain ⟨g, o, sp⟩ := a
      simp only at hs
      subst hs
      refine ⟨g, o, rfl, ?_, fun i hi => ?_⟩
      · rw [addr_add] at hc0
        exact cell_lt hc0
      · simp at hi
        obtain ⟨h1, h2, h3, h4⟩ := hx i (by omega)
        have e1 := int_form h3
        have e2 := int_form h4
        rw [addr_add] at h1 h2
        have hg : ((List.range len).map (fun i => (intOf (V0 i), intOf (V1 i)))).getD i (0, 0) = (intOf (V0 i), intOf (V1 i)) := by simp [List.getD, hi]
        rw [hg, ← e1, ← e2]
        exact ⟨h1, by rw [Nat.add_assoc]; exact h2⟩
end Go.Proofs.Ytohhlhoijanjfaa
