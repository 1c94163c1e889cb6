/- What the rows of the statements share: the arguments opened and shut. What the rows of the statements share: points opened and shut. What the rows of the statements share: four points opened and shut. What the rows of the statements share: segments and spots opened and shut. -/
import Derived.Test.YtohhlhoijanjfaaW3
import Derived.ProofKit
import Derived.Laws.IdiomArrays
import Derived.Lib.SmallJoins
import Derived.Deep.Strs
namespace Go.Proofs.Ytohhlhoijanjfaa
open Go.ChangeShapes Go.WideShapes Go.ChangeAt Go.RowKit

theorem own_knob : ownKnob Try.prog.godebug = none := by kernel_rfl
theorem cells_u64 : Try.prog.cellsOf 42 = 1 := by kernel_rfl
theorem cells_int : Try.prog.cellsOf 44 = 4 := by kernel_rfl
theorem wf_u64 {x : Int} (h : (Lit.int .u64 x).wf = true) : 0 ≤ x ∧ x < 18446744073709551616 := by
  simp [Lit.wf, IntKind.min, IntKind.max, IntKind.signed, IntKind.bits] at h
  exact ⟨by omega, by omega⟩
/-- Any four words are an Int. -/
theorem isI_of {x0 x1 x2 x3 : Int} (h : (Lit.int .u64 x0).wf = true ∧ (Lit.int .u64 x1).wf = true ∧ (Lit.int .u64 x2).wf = true ∧ (Lit.int .u64 x3).wf = true) : ∃ x, IsI x0 x1 x2 x3 x := by
  have h0 := wf_u64 h.1; have h1 := wf_u64 h.2.1; have h2 := wf_u64 h.2.2.1; have h3 := wf_u64 h.2.2.2
  by_cases hn : x3 < 9223372036854775808
  · exact ⟨x0 + 18446744073709551616 * x1 + 340282366920938463463374607431768211456 * x2 + 6277101735386680763835789423207666416102355444464034512896 * x3, by unfold Is; omega, by omega, by omega⟩
  · exact ⟨x0 + 18446744073709551616 * x1 + 340282366920938463463374607431768211456 * x2 + 6277101735386680763835789423207666416102355444464034512896 * x3 - 115792089237316195423570985008687907853269984665640564039457584007913129639936, by unfold Is; omega, by omega, by omega⟩
end Go.Proofs.Ytohhlhoijanjfaa
namespace Go.Proofs.Ytohhlhoijanjfaa
open Go.ChangeShapes Go.WideShapes Go.ChangeAt Go.RowKit

theorem cells_n : Try.prog.cellsOf 3 = 1 := by kernel_rfl
theorem cells_pt : Try.prog.cellsOf 24 = 2 := by kernel_rfl
theorem list2p {α : Type} (l : List α) (h : (⟨l⟩ : Array α).size = 2) : ∃ a b, l = [a, b] := by
  match l, h with
  | [a, b], _ => exact ⟨a, b, rfl⟩
set_option maxRecDepth 100000 in
theorem open_pt {H : Type} {enc : TypeId × Value → H} {W : World} {base : Nat} {r : Reach} {v : Value} {d : DataW H} {p : List MemPlace} (hv : Value.okWide Try.prog W r base 24 v) (h : DataW.Trod enc Try.prog W 0 (fun _ => true) true 24 v d p) :
    ∃ x1 x2 : Int, v = .agg #[.int .i64 x1, .int .i64 x2] ∧ d = .agg [.lit (.int .i64 x1), .lit (.int .i64 x2)] ∧ p = [] ∧ ((Lit.int .i64 x1).wf = true ∧ (Lit.int .i64 x2).wf = true) := by
  obtain ⟨cs, rfl, hsz, _⟩ : ∃ cs, v = .agg cs ∧ cs.size = Try.prog.cellsOf 24 ∧ Row.okWide Try.prog W r base 24 cs := by
    simpa [Value.okWide, Try.underlying24] using hv
  rw [cells_pt] at hsz
  obtain ⟨l⟩ := cs
  obtain ⟨c0, c1, rfl⟩ := list2p l hsz
  obtain ⟨fuel, hf⟩ := h
  obtain ⟨a, b, m, hx, _, hy0, hy1⟩ := trod_struct2 Try.underlying24 hf
  simp only [cells_n, Value.cells, List.drop, List.take] at hy0 hy1
  obtain ⟨p0, e0, rfl, w0⟩ := DataW.trod_int Try.underlying3 hy0
  obtain ⟨p1, e1, rfl, w1⟩ := DataW.trod_int Try.underlying3 hy1
  simp at e0 e1
  subst e0 e1
  simp only [Prod.mk.injEq] at hx
  obtain ⟨rfl, rfl⟩ := hx
  exact ⟨p0, p1, rfl, rfl, rfl, w0, w1⟩
set_option maxRecDepth 100000 in
theorem shut_pt {H : Type} {enc : TypeId × Value → H} {W : World} {x1 x2 : Int} (h : (Lit.int .i64 x1).wf = true ∧ (Lit.int .i64 x2).wf = true) (b : Nat) (sp : Nat → Bool) (hd : Bool) :
    DataW.Trod enc Try.prog W b sp hd 24 (.agg #[.int .i64 x1, .int .i64 x2]) (DataW.agg [.lit (.int .i64 x1), .lit (.int .i64 x2)]) [] :=
  ⟨2, by simp [DataW.trod, Value.cells, Try.underlying24, Try.underlying3, cells_pt, cells_n, h.1, h.2]⟩
end Go.Proofs.Ytohhlhoijanjfaa
namespace Go.Proofs.Ytohhlhoijanjfaa
open Go.ChangeShapes Go.WideShapes Go.ChangeAt Go.RowKit

theorem trod_pt {H : Type} {enc : TypeId × Value → H} {W : World} {b : Nat} {sp : Nat → Bool} {hd : Bool} {n : Nat} {c0 c1 : Value} {y : DataW H × List MemPlace} (h : DataW.trod enc Try.prog W b sp hd n 24 [c0, c1] = some y) :
    ∃ x1 x2 : Int, c0 = .int .i64 x1 ∧ c1 = .int .i64 x2 ∧ y = (.agg [.lit (.int .i64 x1), .lit (.int .i64 x2)], []) ∧ ((Lit.int .i64 x1).wf = true ∧ (Lit.int .i64 x2).wf = true) := by
  obtain ⟨a, b, m, hx, _, hy0, hy1⟩ := trod_struct2 Try.underlying24 h
  simp only [cells_n, List.drop, List.take] at hy0 hy1
  obtain ⟨p0, e0, rfl, w0⟩ := DataW.trod_int Try.underlying3 hy0
  obtain ⟨p1, e1, rfl, w1⟩ := DataW.trod_int Try.underlying3 hy1
  simp at e0 e1
  exact ⟨p0, p1, e0, e1, hx, w0, w1⟩
theorem trod_pt_mk {H : Type} {enc : TypeId × Value → H} {W : World} {b : Nat} {sp : Nat → Bool} {hd : Bool} {x1 x2 : Int} (h : (Lit.int .i64 x1).wf = true ∧ (Lit.int .i64 x2).wf = true) :
    DataW.trod enc Try.prog W b sp hd 2 24 [.int .i64 x1, .int .i64 x2] = some (.agg [.lit (.int .i64 x1), .lit (.int .i64 x2)], []) := by
  simp [DataW.trod, Try.underlying24, Try.underlying3, cells_pt, cells_n, h.1, h.2]
end Go.Proofs.Ytohhlhoijanjfaa
namespace Go.Proofs.Ytohhlhoijanjfaa
open Go.ChangeShapes Go.WideShapes Go.ChangeAt Go.RowKit

theorem cells_seg : Try.prog.cellsOf 41 = 4 := by kernel_rfl
theorem list4s {α : Type} (l : List α) (h : (⟨l⟩ : Array α).size = 4) : ∃ a b c d, l = [a, b, c, d] := by
  match l, h with
  | [a, b, c, d], _ => exact ⟨a, b, c, d, rfl⟩
/-- The ints of two points may be. -/
def WfS (x1 x2 x3 x4 : Int) : Prop := ((Lit.int .i64 x1).wf = true ∧ (Lit.int .i64 x2).wf = true) ∧ ((Lit.int .i64 x3).wf = true ∧ (Lit.int .i64 x4).wf = true)
set_option maxRecDepth 100000 in
theorem open_seg {H : Type} {enc : TypeId × Value → H} {W : World} {base : Nat} {r : Reach} {v : Value} {d : DataW H} {p : List MemPlace} (hv : Value.okWide Try.prog W r base 41 v) (h : DataW.Trod enc Try.prog W 0 (fun _ => true) true 41 v d p) :
    ∃ x1 x2 x3 x4 : Int, v = .agg #[.int .i64 x1, .int .i64 x2, .int .i64 x3, .int .i64 x4] ∧ d = .agg [.agg [.lit (.int .i64 x1), .lit (.int .i64 x2)], .agg [.lit (.int .i64 x3), .lit (.int .i64 x4)]] ∧ p = [] ∧ WfS x1 x2 x3 x4 := by
  obtain ⟨cs, rfl, hsz, _⟩ : ∃ cs, v = .agg cs ∧ cs.size = Try.prog.cellsOf 41 ∧ Row.okWide Try.prog W r base 41 cs := by
    simpa [Value.okWide, Try.underlying41] using hv
  rw [cells_seg] at hsz
  obtain ⟨l⟩ := cs
  obtain ⟨c0, c1, c2, c3, rfl⟩ := list4s l hsz
  obtain ⟨fuel, hf⟩ := h
  obtain ⟨a, b, m, hx, _, hy0, hy1⟩ := trod_struct2 Try.underlying41 hf
  simp only [cells_pt, Value.cells, List.drop, List.take] at hy0 hy1
  obtain ⟨x1, x2, rfl, rfl, rfl, w1⟩ := trod_pt hy0
  obtain ⟨x3, x4, rfl, rfl, rfl, w2⟩ := trod_pt hy1
  simp only [Prod.mk.injEq] at hx
  obtain ⟨rfl, rfl⟩ := hx
  exact ⟨x1, x2, x3, x4, rfl, rfl, rfl, w1, w2⟩
set_option maxRecDepth 100000 in
theorem shut_seg {H : Type} {enc : TypeId × Value → H} {W : World} {x1 x2 x3 x4 : Int} (h : WfS x1 x2 x3 x4) (b : Nat) (sp : Nat → Bool) (hd : Bool) :
    DataW.Trod enc Try.prog W b sp hd 41 (.agg #[.int .i64 x1, .int .i64 x2, .int .i64 x3, .int .i64 x4]) (.agg [.agg [.lit (.int .i64 x1), .lit (.int .i64 x2)], .agg [.lit (.int .i64 x3), .lit (.int .i64 x4)]]) [] := by
  obtain ⟨h1, h2⟩ := h
  refine ⟨3, ?_⟩
  have := trod_struct2_mk (enc := enc) (w := W) (base := b) (spare := sp) (held := hd) (n := 2) (cs := [.int .i64 x1, .int .i64 x2, .int .i64 x3, .int .i64 x4]) Try.underlying41 (by rw [cells_seg]; rfl)
    (by rw [show Try.prog.cellsOf _ = 2 from cells_pt]; exact trod_pt_mk h1) (by rw [show Try.prog.cellsOf _ = 2 from cells_pt]; exact trod_pt_mk h2)
  simpa [Value.cells] using this

theorem cells_spot : Try.prog.cellsOf 46 = 12 := by kernel_rfl
theorem list12 {α : Type} (l : List α) (h : (⟨l⟩ : Array α).size = 12) : ∃ a0 a1 a2 a3 a4 a5 a6 a7 a8 a9 a10 a11, l = [a0, a1, a2, a3, a4, a5, a6, a7, a8, a9, a10, a11] := by
  match l, h with
  | [a0, a1, a2, a3, a4, a5, a6, a7, a8, a9, a10, a11], _ => exact ⟨a0, a1, a2, a3, a4, a5, a6, a7, a8, a9, a10, a11, rfl⟩
/-- The words of an Int may be. -/
def WfI (x0 x1 x2 x3 : Int) : Prop := (Lit.int .u64 x0).wf = true ∧ (Lit.int .u64 x1).wf = true ∧ (Lit.int .u64 x2).wf = true ∧ (Lit.int .u64 x3).wf = true
theorem trod_int4 {H : Type} {enc : TypeId × Value → H} {W : World} {b : Nat} {sp : Nat → Bool} {hd : Bool} {n : Nat} {c0 c1 c2 c3 : Value} {y : DataW H × List MemPlace} (h : DataW.trod enc Try.prog W b sp hd n 44 [c0, c1, c2, c3] = some y) :
    ∃ x0 x1 x2 x3 : Int, c0 = .int .u64 x0 ∧ c1 = .int .u64 x1 ∧ c2 = .int .u64 x2 ∧ c3 = .int .u64 x3 ∧ y = (.agg [.lit (.int .u64 x0), .lit (.int .u64 x1), .lit (.int .u64 x2), .lit (.int .u64 x3)], []) ∧ WfI x0 x1 x2 x3 := by
  obtain ⟨y0, y1, y2, y3, m1, ha, hc0, hc1, hc2, hc3⟩ := trod_array4 Try.underlying44 cells_u64 h
  obtain ⟨p0, e0, rfl, w0⟩ := DataW.trod_int Try.underlying42 hc0
  obtain ⟨p1, e1, rfl, w1⟩ := DataW.trod_int Try.underlying42 hc1
  obtain ⟨p2, e2, rfl, w2⟩ := DataW.trod_int Try.underlying42 hc2
  obtain ⟨p3, e3, rfl, w3⟩ := DataW.trod_int Try.underlying42 hc3
  simp at e0 e1 e2 e3
  exact ⟨p0, p1, p2, p3, e0, e1, e2, e3, ha, w0, w1, w2, w3⟩
theorem trod_int4_mk {H : Type} {enc : TypeId × Value → H} {W : World} {b : Nat} {sp : Nat → Bool} {hd : Bool} {x0 x1 x2 x3 : Int} (h : WfI x0 x1 x2 x3) :
    DataW.trod enc Try.prog W b sp hd 2 44 [.int .u64 x0, .int .u64 x1, .int .u64 x2, .int .u64 x3] = some (.agg [.lit (.int .u64 x0), .lit (.int .u64 x1), .lit (.int .u64 x2), .lit (.int .u64 x3)], []) := by
  obtain ⟨h0, h1, h2, h3⟩ := h
  simp [DataW.trod, Try.underlying44, Try.underlying42, cells_int, cells_u64, List.range, List.range.loop, h0, h1, h2, h3]
set_option maxRecDepth 100000 in
theorem open_spot {H : Type} {enc : TypeId × Value → H} {W : World} {base : Nat} {r : Reach} {v : Value} {d : DataW H} {p : List MemPlace} (hv : Value.okWide Try.prog W r base 46 v) (h : DataW.Trod enc Try.prog W 0 (fun _ => true) true 46 v d p) :
    ∃ x0 x1 x2 x3 y0 y1 y2 y3 z0 z1 z2 z3 : Int, v = .agg #[.int .u64 x0, .int .u64 x1, .int .u64 x2, .int .u64 x3, .int .u64 y0, .int .u64 y1, .int .u64 y2, .int .u64 y3, .int .u64 z0, .int .u64 z1, .int .u64 z2, .int .u64 z3] ∧ d = .agg [.agg [.lit (.int .u64 x0), .lit (.int .u64 x1), .lit (.int .u64 x2), .lit (.int .u64 x3)], .agg [.lit (.int .u64 y0), .lit (.int .u64 y1), .lit (.int .u64 y2), .lit (.int .u64 y3)], .agg [.lit (.int .u64 z0), .lit (.int .u64 z1), .lit (.int .u64 z2), .lit (.int .u64 z3)]] ∧ p = [] ∧ WfI x0 x1 x2 x3 ∧ WfI y0 y1 y2 y3 ∧ WfI z0 z1 z2 z3 := by
  obtain ⟨cs, rfl, hsz, _⟩ : ∃ cs, v = .agg cs ∧ cs.size = Try.prog.cellsOf 46 ∧ Row.okWide Try.prog W r base 46 cs := by
    simpa [Value.okWide, Try.underlying46] using hv
  rw [cells_spot] at hsz
  obtain ⟨l⟩ := cs
  obtain ⟨c0, c1, c2, c3, c4, c5, c6, c7, c8, c9, c10, c11, rfl⟩ := list12 l hsz
  obtain ⟨fuel, hf⟩ := h
  obtain ⟨a, b, c, m, hx, _, hy0, hy1, hy2⟩ := Go.Deep.trod_struct3 Try.underlying46 hf
  simp only [cells_int, Value.cells, List.drop, List.take] at hy0 hy1 hy2
  obtain ⟨x0, x1, x2, x3, rfl, rfl, rfl, rfl, rfl, w0⟩ := trod_int4 hy0
  obtain ⟨y0, y1, y2, y3, rfl, rfl, rfl, rfl, rfl, w1⟩ := trod_int4 hy1
  obtain ⟨z0, z1, z2, z3, rfl, rfl, rfl, rfl, rfl, w2⟩ := trod_int4 hy2
  simp only [Prod.mk.injEq] at hx
  obtain ⟨rfl, rfl⟩ := hx
  exact ⟨x0, x1, x2, x3, y0, y1, y2, y3, z0, z1, z2, z3, rfl, rfl, rfl, w0, w1, w2⟩
set_option maxRecDepth 100000 in
theorem shut_spot {H : Type} {enc : TypeId × Value → H} {W : World} {x0 x1 x2 x3 y0 y1 y2 y3 z0 z1 z2 z3 : Int} (h0 : WfI x0 x1 x2 x3) (h1 : WfI y0 y1 y2 y3) (h2 : WfI z0 z1 z2 z3) (b : Nat) (sp : Nat → Bool) (hd : Bool) :
    DataW.Trod enc Try.prog W b sp hd 46 (.agg #[.int .u64 x0, .int .u64 x1, .int .u64 x2, .int .u64 x3, .int .u64 y0, .int .u64 y1, .int .u64 y2, .int .u64 y3, .int .u64 z0, .int .u64 z1, .int .u64 z2, .int .u64 z3]) (.agg [.agg [.lit (.int .u64 x0), .lit (.int .u64 x1), .lit (.int .u64 x2), .lit (.int .u64 x3)], .agg [.lit (.int .u64 y0), .lit (.int .u64 y1), .lit (.int .u64 y2), .lit (.int .u64 y3)], .agg [.lit (.int .u64 z0), .lit (.int .u64 z1), .lit (.int .u64 z2), .lit (.int .u64 z3)]]) [] := by
  refine ⟨3, ?_⟩
  have := Go.Deep.trod_struct3_mk (enc := enc) (w := W) (base := b) (spare := sp) (held := hd) (n := 2) (cs := [.int .u64 x0, .int .u64 x1, .int .u64 x2, .int .u64 x3, .int .u64 y0, .int .u64 y1, .int .u64 y2, .int .u64 y3, .int .u64 z0, .int .u64 z1, .int .u64 z2, .int .u64 z3]) Try.underlying46 (by rw [cells_spot]; rfl)
    (by rw [show Try.prog.cellsOf _ = 4 from cells_int]; exact trod_int4_mk h0) (by rw [show Try.prog.cellsOf _ = 4 from cells_int]; exact trod_int4_mk h1) (by rw [show Try.prog.cellsOf _ = 4 from cells_int]; exact trod_int4_mk h2)
  simpa [Value.cells] using this
end Go.Proofs.Ytohhlhoijanjfaa
