/- What rows share: slices of ints that are read, opened. -/
import Derived.Test.YtblnpabgakmghaaS4
import Derived.Test.YtblnpabgakmghaaS6
namespace Go.Proofs.Ytblnpabgakmghaa
open Go Go.ChangeShapes Go.WideShapes Go.ChangeAt Go.RowKit
set_option maxRecDepth 100000 in
theorem open_jr {H : Type} {enc : TypeId × Value → H} {W : World} {base : Nat} {r : Reach} {v : Value} {d : DataW H} {p : List MemPlace} (hv : Value.okWide Try.prog W r base 22 v) (h : DataW.Trod enc Try.prog W 0 (fun _ => true) true 22 v d p) :
    ∃ (a : Option Addr) (n c : Nat) (l : List Int), v = .slice a n c ∧ Rd W (.slice a n c) l ∧ Zn (.slice a n c) := by
  obtain ⟨a0, len, cap, rfl⟩ := okWide_slice Try.underlying22 hv
  obtain ⟨fuel, hf⟩ := h
  rcases open_ints Try.underlying22 Try.underlying3 cells_n hf with ⟨hcs, _⟩ | ⟨a, len', cap', zs, hcs, _, hl, hm, hz, hx, hcell, hwz⟩
  · simp [Value.cells] at hcs
    obtain ⟨rfl, rfl, rfl⟩ := hcs
    exact ⟨none, 0, 0, [], rfl, Rd.nil _ _ _, fun _ _ e => by injection e with _ _ e; exact e.symm⟩
  · simp [Value.cells] at hcs
    obtain ⟨rfl, rfl, rfl⟩ := hcs
    simp at hz
    have hll : (zs.take len).length = len := by rw [List.length_take]; omega
    refine ⟨some a, len, cap, zs.take len, rfl, ⟨some a, cap, by rw [hll], by rw [hll]; exact hl, rfl, fun x hx => wf_i64 (hwz x (List.mem_of_mem_take hx)), ?_⟩, zn_some _ _ _⟩
    rw [hll]
    by_cases h0 : len = 0
    · exact Or.inl h0
    · right
      have hc0 := hcell 0 (by omega)
      have hs : a.spot = none := by
        have := World.cell?_spot hc0
        simpa [Addr.add] using this
      obtain ⟨g, o, sp⟩ := a
      simp only at hs
      subst hs
      refine ⟨g, o, rfl, ?_, fun i hi => ?_⟩
      · rw [addr_add] at hc0
        exact block_lt hc0
      · have := hcell i (by omega)
        rw [addr_add] at this
        rw [this]
        simp [List.getD, hi]
end Go.Proofs.Ytblnpabgakmghaa
