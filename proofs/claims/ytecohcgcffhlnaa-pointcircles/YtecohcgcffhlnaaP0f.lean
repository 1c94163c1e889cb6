/- What the rows of the statements share: four points opened and shut. -/
import Derived.Test.YtecohcgcffhlnaaP0p
import Derived.Lib.SmallJoins
namespace Go.Proofs.Ytecohcgcffhlnaa
open Go.ChangeShapes Go.WideShapes Go.ChangeAt Go.RowKit

theorem cells_four : Try.prog.cellsOf 52 = 8 := by kernel_rfl
theorem list8f {α : Type} (l : List α) (h : (⟨l⟩ : Array α).size = 8) : ∃ a b c d e f g i, l = [a, b, c, d, e, f, g, i] := by
  match l, h with
  | [a, b, c, d, e, f, g, i], _ => exact ⟨a, b, c, d, e, f, g, i, rfl⟩
theorem trod_pt {H : Type} {enc : TypeId × Value → H} {W : World} {b : Nat} {sp : Nat → Bool} {hd : Bool} {n : Nat} {c0 c1 : Value} {y : DataW H × List MemPlace} (h : DataW.trod enc Try.prog W b sp hd n 50 [c0, c1] = some y) :
    ∃ x1 x2 : Int, c0 = .int .i64 x1 ∧ c1 = .int .i64 x2 ∧ y = (.agg [.lit (.int .i64 x1), .lit (.int .i64 x2)], []) ∧ ((Lit.int .i64 x1).wf = true ∧ (Lit.int .i64 x2).wf = true) := by
  obtain ⟨a, b, m, hx, _, hy0, hy1⟩ := trod_struct2 Try.underlying50 h
  simp only [cells_n, List.drop, List.take] at hy0 hy1
  obtain ⟨p0, e0, rfl, w0⟩ := DataW.trod_int Try.underlying3 hy0
  obtain ⟨p1, e1, rfl, w1⟩ := DataW.trod_int Try.underlying3 hy1
  simp at e0 e1
  exact ⟨p0, p1, e0, e1, hx, w0, w1⟩
theorem trod_pt_mk {H : Type} {enc : TypeId × Value → H} {W : World} {b : Nat} {sp : Nat → Bool} {hd : Bool} {x1 x2 : Int} (h : (Lit.int .i64 x1).wf = true ∧ (Lit.int .i64 x2).wf = true) :
    DataW.trod enc Try.prog W b sp hd 2 50 [.int .i64 x1, .int .i64 x2] = some (.agg [.lit (.int .i64 x1), .lit (.int .i64 x2)], []) := by
  simp [DataW.trod, Try.underlying50, Try.underlying3, cells_pt, cells_n, h.1, h.2]
/-- The ints of four points may be. -/
def Wf8 (x1 x2 x3 x4 x5 x6 x7 x8 : Int) : Prop := ((Lit.int .i64 x1).wf = true ∧ (Lit.int .i64 x2).wf = true) ∧ ((Lit.int .i64 x3).wf = true ∧ (Lit.int .i64 x4).wf = true) ∧ ((Lit.int .i64 x5).wf = true ∧ (Lit.int .i64 x6).wf = true) ∧ ((Lit.int .i64 x7).wf = true ∧ (Lit.int .i64 x8).wf = true)
set_option maxRecDepth 100000 in
theorem open_four {H : Type} {enc : TypeId × Value → H} {W : World} {base : Nat} {r : Reach} {v : Value} {d : DataW H} {p : List MemPlace} (hv : Value.okWide Try.prog W r base 52 v) (h : DataW.Trod enc Try.prog W 0 (fun _ => true) true 52 v d p) :
    ∃ x1 x2 x3 x4 x5 x6 x7 x8 : Int, v = .agg #[.int .i64 x1, .int .i64 x2, .int .i64 x3, .int .i64 x4, .int .i64 x5, .int .i64 x6, .int .i64 x7, .int .i64 x8] ∧
      d = .agg [.agg [.lit (.int .i64 x1), .lit (.int .i64 x2)], .agg [.lit (.int .i64 x3), .lit (.int .i64 x4)], .agg [.lit (.int .i64 x5), .lit (.int .i64 x6)], .agg [.lit (.int .i64 x7), .lit (.int .i64 x8)]] ∧ p = [] ∧ Wf8 x1 x2 x3 x4 x5 x6 x7 x8 := by
  obtain ⟨cs, rfl, hsz, _⟩ : ∃ cs, v = .agg cs ∧ cs.size = Try.prog.cellsOf 52 ∧ Row.okWide Try.prog W r base 52 cs := by
    simpa [Value.okWide, Try.underlying52] using hv
  rw [cells_four] at hsz
  obtain ⟨l⟩ := cs
  obtain ⟨c0, c1, c2, c3, c4, c5, c6, c7, rfl⟩ := list8f l hsz
  obtain ⟨fuel, hf⟩ := h
  obtain ⟨a, b, c, e, m, hx, _, hy0, hy1, hy2, hy3⟩ := Go.Joins.trod_struct4 Try.underlying52 hf
  simp only [cells_pt, Value.cells, List.drop, List.take] at hy0 hy1 hy2 hy3
  obtain ⟨x1, x2, rfl, rfl, rfl, w1⟩ := trod_pt hy0
  obtain ⟨x3, x4, rfl, rfl, rfl, w2⟩ := trod_pt hy1
  obtain ⟨x5, x6, rfl, rfl, rfl, w3⟩ := trod_pt hy2
  obtain ⟨x7, x8, rfl, rfl, rfl, w4⟩ := trod_pt hy3
  simp only [Prod.mk.injEq] at hx
  obtain ⟨rfl, rfl⟩ := hx
  exact ⟨x1, x2, x3, x4, x5, x6, x7, x8, rfl, rfl, rfl, w1, w2, w3, w4⟩
set_option maxRecDepth 100000 in
theorem shut_four {H : Type} {enc : TypeId × Value → H} {W : World} {x1 x2 x3 x4 x5 x6 x7 x8 : Int} (h : Wf8 x1 x2 x3 x4 x5 x6 x7 x8) (b : Nat) (sp : Nat → Bool) (hd : Bool) :
    DataW.Trod enc Try.prog W b sp hd 52 (.agg #[.int .i64 x1, .int .i64 x2, .int .i64 x3, .int .i64 x4, .int .i64 x5, .int .i64 x6, .int .i64 x7, .int .i64 x8])
      (.agg [.agg [.lit (.int .i64 x1), .lit (.int .i64 x2)], .agg [.lit (.int .i64 x3), .lit (.int .i64 x4)], .agg [.lit (.int .i64 x5), .lit (.int .i64 x6)], .agg [.lit (.int .i64 x7), .lit (.int .i64 x8)]]) [] := by
  obtain ⟨h1, h2, h3, h4⟩ := h
  refine ⟨3, ?_⟩
  have := Go.Joins.trod_struct4_mk (enc := enc) (w := W) (base := b) (spare := sp) (held := hd) (n := 2) (cs := [.int .i64 x1, .int .i64 x2, .int .i64 x3, .int .i64 x4, .int .i64 x5, .int .i64 x6, .int .i64 x7, .int .i64 x8]) Try.underlying52 (by rw [cells_four]; rfl)
    (by rw [show Try.prog.cellsOf _ = 2 from cells_pt]; exact trod_pt_mk h1) (by rw [show Try.prog.cellsOf _ = 2 from cells_pt]; exact trod_pt_mk h2) (by rw [show Try.prog.cellsOf _ = 2 from cells_pt]; exact trod_pt_mk h3) (by rw [show Try.prog.cellsOf _ = 2 from cells_pt]; exact trod_pt_mk h4)
  simpa [Value.cells] using this
end Go.Proofs.Ytecohcgcffhlnaa
