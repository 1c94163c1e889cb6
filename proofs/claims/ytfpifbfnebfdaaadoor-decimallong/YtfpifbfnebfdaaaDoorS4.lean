/- What rows share: ints, slices of ints and of pairs of ints opened. -/
import Derived.Test.YtfpifbfnebfdaaaDoorRows
import Derived.Test.YtfpifbfnebfdaaaDoorS2
import Derived.ProofKit
import Derived.Laws.IdiomArrays
import Derived.Deep.SlicePairs
import Derived.Carry
namespace Go.Proofs.YtfpifbfnebfdaaaDoor
open Go Go.ChangeShapes Go.WideShapes Go.ChangeAt Go.RowKit
theorem own_knob : ownKnob Tryd.prog.godebug = none := by kernel_rfl
theorem wf_i64 {x : Int} (h : (Lit.int .i64 x).wf = true) : -9223372036854775808 ≤ x ∧ x < 9223372036854775808 := by
  simp [Lit.wf, IntKind.min, IntKind.max, IntKind.signed, IntKind.bits] at h
  exact ⟨by omega, by omega⟩
theorem laid_out : laidOutB Tryd.prog = true := by kernel_rfl
theorem cells_n : Tryd.prog.cellsOf 3 = 1 := by kernel_rfl
theorem addr_add (g o j : Nat) : (⟨g, o, none⟩ : Addr).add j = ⟨g, o + j, none⟩ := by
  unfold Addr.add
  split
  · rename_i h; subst h; rfl
  · rfl
theorem int_form {H : Type} {enc : TypeId × Value → H} {W : World} {b : Nat} {sp : Nat → Bool} {hd : Bool} {n : Nat} {v : Value} {y : DataW H × List MemPlace} (h : DataW.trod enc Tryd.prog W b sp hd n 3 [v] = some y) : v = .int .i64 (intOf v) ∧ I64 (intOf v) := by
  obtain ⟨z, e, _, hw⟩ := DataW.trod_int Tryd.underlying3 h
  simp at e
  subst e
  exact ⟨rfl, wf_i64 hw⟩
set_option maxRecDepth 100000 in
theorem open_js {H : Type} {enc : TypeId × Value → H} {W : World} {base : Nat} {r : Reach} {v : Value} {d : DataW H} {p : List MemPlace} (hv : Value.okWide Tryd.prog W r base 27 v) (h : DataW.Trod enc Tryd.prog W 0 (fun _ => true) true 27 v d p) :
    ∃ (a : Option Addr) (n c : Nat) (l : List Int), v = .slice a n c ∧ Ins W a n l := by
  obtain ⟨a0, len, cap, rfl⟩ := okWide_slice Tryd.underlying27 hv
  obtain ⟨fuel, hf⟩ := h
  rcases open_ints Tryd.underlying27 Tryd.underlying3 cells_n hf with ⟨hcs, _⟩ | ⟨a, len', cap', zs, hcs, _, hl, hm, hz, hx, hcell, hwz⟩
  · simp [Value.cells] at hcs
    obtain ⟨rfl, rfl, rfl⟩ := hcs
    exact ⟨none, 0, 0, [], rfl, rfl, by simp, Or.inl rfl⟩
  · simp [Value.cells] at hcs
    obtain ⟨rfl, rfl, rfl⟩ := hcs
    simp at hz
    refine ⟨some a, len, cap, zs.take len, rfl, by rw [List.length_take]; omega, fun x hx => wf_i64 (hwz x (List.mem_of_mem_take hx)), ?_⟩
    by_cases h0 : len = 0
    · exact Or.inl h0
    · right
      have hc0 := hcell 0 (by omega)
      have hs : a.spot = none := by
        have := World.cell?_spot hc0
        simpa [Addr.add] using this
      obtain ⟨g, o, sp⟩ := a
      simp only at hs
      subst hs
      refine ⟨g, o, rfl, ?_, fun i hi => ?_⟩
      · rw [addr_add] at hc0
        exact block_lt hc0
      · have := hcell i (by omega)
        rw [addr_add] at this
        rw [this]
        simp [List.getD, hi]
set_option maxRecDepth 100000 in
theorem open_jz {H : Type} {enc : TypeId × Value → H} {W : World} {base : Nat} {r : Reach} {v : Value} {d : DataW H} {p : List MemPlace} (hv : Value.okWide Tryd.prog W r base 27 v) (h : DataW.Trod enc Tryd.prog W 0 (fun _ => true) true 27 v d p) :
    ∃ (a : Option Addr) (n c : Nat) (l : List Int), v = .slice a n c ∧ Ins W a n l ∧ (a = none → c = 0) := by
  obtain ⟨a0, len, cap, rfl⟩ := okWide_slice Tryd.underlying27 hv
  obtain ⟨fuel, hf⟩ := h
  rcases open_ints Tryd.underlying27 Tryd.underlying3 cells_n hf with ⟨hcs, _⟩ | ⟨a, len', cap', zs, hcs, _, hl, hm, hz, hx, hcell, hwz⟩
  · simp [Value.cells] at hcs
    obtain ⟨rfl, rfl, rfl⟩ := hcs
    exact ⟨none, 0, 0, [], rfl, ⟨rfl, by simp, Or.inl rfl⟩, fun _ => rfl⟩
  · simp [Value.cells] at hcs
    obtain ⟨rfl, rfl, rfl⟩ := hcs
    simp at hz
    refine ⟨some a, len, cap, zs.take len, rfl, ⟨by rw [List.length_take]; omega, fun x hx => wf_i64 (hwz x (List.mem_of_mem_take hx)), ?_⟩, fun e => by cases e⟩
    by_cases h0 : len = 0
    · exact Or.inl h0
    · right
      have hc0 := hcell 0 (by omega)
      have hs : a.spot = none := by
        have := World.cell?_spot hc0
        simpa [Addr.add] using this
      obtain ⟨g, o, sp⟩ := a
      simp only at hs
      subst hs
      refine ⟨g, o, rfl, ?_, fun i hi => ?_⟩
      · rw [addr_add] at hc0
        exact block_lt hc0
      · have := hcell i (by omega)
        rw [addr_add] at this
        rw [this]
        simp [List.getD, hi]
set_option maxRecDepth 100000 in
theorem open_pairs {tsp tp : TypeId} {k0 k1 : Field} (u1 : Tryd.prog.underlying tsp = some (.slice tp)) (u2 : Tryd.prog.underlying tp = some (.struct #[k0, k1])) (ce : Tryd.prog.cellsOf tp = 2) (o0 : k0.offset = 0) (o1 : k1.offset = 1) (t0 : k0.type = 3) (t1 : k1.type = 3)
    {H : Type} {enc : TypeId × Value → H} {W : World} {base : Nat} {r : Reach} {v : Value} {d : DataW H} {p : List MemPlace} (hv : Value.okWide Tryd.prog W r base tsp v) (h : DataW.Trod enc Tryd.prog W 0 (fun _ => true) true tsp v d p) :
    ∃ (a : Option Addr) (n c : Nat) (l : List (Int × Int)), v = .slice a n c ∧ Ops W a n l := by
  obtain ⟨a0, len, cap, rfl⟩ := okWide_slice u1 hv
  obtain ⟨fuel, hf⟩ := h
  rcases Go.Deep.open_slice_pairs u1 u2 ce o0 o1 (by rw [t0]; exact cells_n) (by rw [t1]; exact cells_n) hf with ⟨hcs, _⟩ | ⟨a, len', cap', m, n, V0, V1, D0, D1, P0, P1, hcs, hb, hl, hm, hmm, _, hx⟩
  · simp [Value.cells] at hcs
    obtain ⟨rfl, rfl, rfl⟩ := hcs
    exact ⟨none, 0, 0, [], rfl, rfl, by simp, Or.inl rfl⟩
  · simp [Value.cells] at hcs
    obtain ⟨rfl, rfl, rfl⟩ := hcs
    simp at hmm
    subst hmm
    refine ⟨some a, len, m, (List.range len).map (fun i => (intOf (V0 i), intOf (V1 i))), rfl, by simp, ?_, ?_⟩
    · intro q hq
      obtain ⟨i, hi, rfl⟩ := List.mem_map.1 hq
      obtain ⟨_, _, _, h4⟩ := hx i (by have := List.mem_range.1 hi; omega)
      rw [t1] at h4; exact (int_form h4).2
    by_cases h0 : len = 0
    · exact Or.inl h0
    · right
      have hc0 := (hx 0 (by omega)).1
      have hs : a.spot = none := by
        have := World.cell?_spot hc0
        simpa [Addr.add] using this
      obtain ⟨g, o, sp⟩ := a
      simp only at hs
      subst hs
      refine ⟨g, o, rfl, ?_, fun i hi => ?_⟩
      · rw [addr_add] at hc0
        exact block_lt hc0
      · obtain ⟨h1, h2, h3, h4⟩ := hx i (by omega)
        rw [t0] at h3
        rw [t1] at h4
        have e1 := (int_form h3).1
        have e2 := (int_form h4).1
        rw [addr_add] at h1 h2
        have hg : ((List.range len).map (fun i => (intOf (V0 i), intOf (V1 i)))).getD i (0, 0) = (intOf (V0 i), intOf (V1 i)) := by simp [List.getD, hi]
        rw [hg, ← e1, ← e2]
        exact ⟨h1, by rw [Nat.add_assoc]; exact h2⟩
end Go.Proofs.YtfpifbfnebfdaaaDoor
