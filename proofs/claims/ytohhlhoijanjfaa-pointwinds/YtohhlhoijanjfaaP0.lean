/- What the rows of the statements share: the arguments opened and shut. -/
import Derived.Test.YtohhlhoijanjfaaW3
import Derived.ProofKit
import Derived.Laws.IdiomArrays
namespace Go.Proofs.Ytohhlhoijanjfaa
open Go.ChangeShapes Go.WideShapes Go.ChangeAt Go.RowKit

theorem own_knob : ownKnob Try.prog.godebug = none := by kernel_rfl
theorem cells_u64 : Try.prog.cellsOf 42 = 1 := by kernel_rfl
theorem cells_int : Try.prog.cellsOf 44 = 4 := by kernel_rfl
theorem list4 {α : Type} (l : List α) (h : (⟨l⟩ : Array α).size = 4) : ∃ a b c d, l = [a, b, c, d] := by
  match l, h with
  | [a, b, c, d], _ => exact ⟨a, b, c, d, rfl⟩

set_option maxRecDepth 100000 in
theorem open_int4 {H : Type} {enc : TypeId × Value → H} {W : World} {base : Nat} {r : Reach} {v : Value} {d : DataW H} {p : List MemPlace} (hv : Value.okWide Try.prog W r base 44 v) (h : DataW.Trod enc Try.prog W 0 (fun _ => true) true 44 v d p) :
    ∃ x0 x1 x2 x3 : Int, v = .agg #[.int .u64 x0, .int .u64 x1, .int .u64 x2, .int .u64 x3] ∧ d = .agg [.lit (.int .u64 x0), .lit (.int .u64 x1), .lit (.int .u64 x2), .lit (.int .u64 x3)] ∧ p = [] ∧ ((Lit.int .u64 x0).wf = true ∧ (Lit.int .u64 x1).wf = true ∧ (Lit.int .u64 x2).wf = true ∧ (Lit.int .u64 x3).wf = true) := by
  obtain ⟨cs, rfl, hsz, _⟩ : ∃ cs, v = .agg cs ∧ cs.size = Try.prog.cellsOf 44 ∧ Row.okWide Try.prog W r base 44 cs := by
    simpa [Value.okWide, Try.underlying44] using hv
  rw [cells_int] at hsz
  obtain ⟨l⟩ := cs
  obtain ⟨c0, c1, c2, c3, rfl⟩ := list4 l hsz
  obtain ⟨fuel, hf⟩ := h
  obtain ⟨y0, y1, y2, y3, m, hx, hy0, hy1, hy2, hy3⟩ := trod_array4 Try.underlying44 cells_u64 hf
  obtain ⟨x0, e0, rfl, w0⟩ := DataW.trod_int Try.underlying42 hy0
  obtain ⟨x1, e1, rfl, w1⟩ := DataW.trod_int Try.underlying42 hy1
  obtain ⟨x2, e2, rfl, w2⟩ := DataW.trod_int Try.underlying42 hy2
  obtain ⟨x3, e3, rfl, w3⟩ := DataW.trod_int Try.underlying42 hy3
  simp at e0 e1 e2 e3
  subst e0 e1 e2 e3
  simp only [Prod.mk.injEq] at hx
  obtain ⟨rfl, rfl⟩ := hx
  exact ⟨x0, x1, x2, x3, rfl, rfl, rfl, w0, w1, w2, w3⟩
theorem wf_u64 {x : Int} (h : (Lit.int .u64 x).wf = true) : 0 ≤ x ∧ x < 18446744073709551616 := by
  simp [Lit.wf, IntKind.min, IntKind.max, IntKind.signed, IntKind.bits] at h
  exact ⟨by omega, by omega⟩
/-- Any four words are an Int. -/
theorem isI_of {x0 x1 x2 x3 : Int} (h : (Lit.int .u64 x0).wf = true ∧ (Lit.int .u64 x1).wf = true ∧ (Lit.int .u64 x2).wf = true ∧ (Lit.int .u64 x3).wf = true) : ∃ x, IsI x0 x1 x2 x3 x := by
  have h0 := wf_u64 h.1; have h1 := wf_u64 h.2.1; have h2 := wf_u64 h.2.2.1; have h3 := wf_u64 h.2.2.2
  by_cases hn : x3 < 9223372036854775808
  · exact ⟨x0 + 18446744073709551616 * x1 + 340282366920938463463374607431768211456 * x2 + 6277101735386680763835789423207666416102355444464034512896 * x3, by unfold Is; omega, by omega, by omega⟩
  · exact ⟨x0 + 18446744073709551616 * x1 + 340282366920938463463374607431768211456 * x2 + 6277101735386680763835789423207666416102355444464034512896 * x3 - 115792089237316195423570985008687907853269984665640564039457584007913129639936, by unfold Is; omega, by omega, by omega⟩
set_option maxRecDepth 100000 in
theorem shut_int4 {H : Type} {enc : TypeId × Value → H} {W : World} {x0 x1 x2 x3 : Int} (h : (Lit.int .u64 x0).wf = true ∧ (Lit.int .u64 x1).wf = true ∧ (Lit.int .u64 x2).wf = true ∧ (Lit.int .u64 x3).wf = true) (b : Nat) (sp : Nat → Bool) (hd : Bool) :
    DataW.Trod enc Try.prog W b sp hd 44 (.agg #[.int .u64 x0, .int .u64 x1, .int .u64 x2, .int .u64 x3]) (DataW.agg [.lit (.int .u64 x0), .lit (.int .u64 x1), .lit (.int .u64 x2), .lit (.int .u64 x3)]) [] :=
  ⟨2, by simp [DataW.trod, Value.cells, Try.underlying44, Try.underlying42, cells_int, cells_u64, List.range, List.range.loop, h.1, h.2.1, h.2.2.1, h.2.2.2]⟩

end Go.Proofs.Ytohhlhoijanjfaa
