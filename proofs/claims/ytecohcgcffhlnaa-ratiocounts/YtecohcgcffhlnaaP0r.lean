/- What the rows of the statements share: fractions opened and shut. -/
import Derived.Test.YtecohcgcffhlnaaP0b
namespace Go.Proofs.Ytecohcgcffhlnaa
open Go.ChangeShapes Go.WideShapes Go.ChangeAt Go.RowKit

theorem cells_rat : Try.prog.cellsOf 26 = 8 := by kernel_rfl
theorem list8r {α : Type} (l : List α) (h : (⟨l⟩ : Array α).size = 8) : ∃ a b c d e f g i, l = [a, b, c, d, e, f, g, i] := by
  match l, h with
  | [a, b, c, d, e, f, g, i], _ => exact ⟨a, b, c, d, e, f, g, i, rfl⟩
set_option maxRecDepth 100000 in
theorem open_rat8 {H : Type} {enc : TypeId × Value → H} {W : World} {base : Nat} {r : Reach} {v : Value} {d : DataW H} {p : List MemPlace} (hv : Value.okWide Try.prog W r base 26 v) (h : DataW.Trod enc Try.prog W 0 (fun _ => true) true 26 v d p) :
    ∃ x0 x1 x2 x3 y0 y1 y2 y3 : Int, v = .agg #[.int .u64 x0, .int .u64 x1, .int .u64 x2, .int .u64 x3, .int .u64 y0, .int .u64 y1, .int .u64 y2, .int .u64 y3] ∧ d = .agg [.agg [.lit (.int .u64 x0), .lit (.int .u64 x1), .lit (.int .u64 x2), .lit (.int .u64 x3)], .agg [.lit (.int .u64 y0), .lit (.int .u64 y1), .lit (.int .u64 y2), .lit (.int .u64 y3)]] ∧ p = [] ∧ ((Lit.int .u64 x0).wf = true ∧ (Lit.int .u64 x1).wf = true ∧ (Lit.int .u64 x2).wf = true ∧ (Lit.int .u64 x3).wf = true) ∧ ((Lit.int .u64 y0).wf = true ∧ (Lit.int .u64 y1).wf = true ∧ (Lit.int .u64 y2).wf = true ∧ (Lit.int .u64 y3).wf = true) := by
  obtain ⟨cs, rfl, hsz, _⟩ : ∃ cs, v = .agg cs ∧ cs.size = Try.prog.cellsOf 26 ∧ Row.okWide Try.prog W r base 26 cs := by
    simpa [Value.okWide, Try.underlying26] using hv
  rw [cells_rat] at hsz
  obtain ⟨l⟩ := cs
  obtain ⟨c0, c1, c2, c3, c4, c5, c6, c7, rfl⟩ := list8r l hsz
  obtain ⟨fuel, hf⟩ := h
  obtain ⟨a, b, m, hx, _, hy0, hy1⟩ := trod_struct2 Try.underlying26 hf
  simp only [cells_int, Value.cells, List.drop, List.take] at hy0 hy1
  obtain ⟨y0, y1, y2, y3, m1, ha, hc0, hc1, hc2, hc3⟩ := trod_array4 Try.underlying24 cells_u64 hy0
  obtain ⟨z0, z1, z2, z3, m2, hb, hd0, hd1, hd2, hd3⟩ := trod_array4 Try.underlying24 cells_u64 hy1
  obtain ⟨p0, e0, rfl, w0⟩ := DataW.trod_int Try.underlying22 hc0
  obtain ⟨p1, e1, rfl, w1⟩ := DataW.trod_int Try.underlying22 hc1
  obtain ⟨p2, e2, rfl, w2⟩ := DataW.trod_int Try.underlying22 hc2
  obtain ⟨p3, e3, rfl, w3⟩ := DataW.trod_int Try.underlying22 hc3
  obtain ⟨q0, f0, rfl, v0⟩ := DataW.trod_int Try.underlying22 hd0
  obtain ⟨q1, f1, rfl, v1⟩ := DataW.trod_int Try.underlying22 hd1
  obtain ⟨q2, f2, rfl, v2⟩ := DataW.trod_int Try.underlying22 hd2
  obtain ⟨q3, f3, rfl, v3⟩ := DataW.trod_int Try.underlying22 hd3
  simp at e0 e1 e2 e3 f0 f1 f2 f3
  subst e0 e1 e2 e3 f0 f1 f2 f3
  subst ha hb
  simp only [Prod.mk.injEq] at hx
  obtain ⟨rfl, rfl⟩ := hx
  exact ⟨p0, p1, p2, p3, q0, q1, q2, q3, rfl, rfl, rfl, ⟨w0, w1, w2, w3⟩, v0, v1, v2, v3⟩
set_option maxRecDepth 100000 in
theorem shut_rat8 {H : Type} {enc : TypeId × Value → H} {W : World} {x0 x1 x2 x3 y0 y1 y2 y3 : Int} (h : (Lit.int .u64 x0).wf = true ∧ (Lit.int .u64 x1).wf = true ∧ (Lit.int .u64 x2).wf = true ∧ (Lit.int .u64 x3).wf = true) (k : (Lit.int .u64 y0).wf = true ∧ (Lit.int .u64 y1).wf = true ∧ (Lit.int .u64 y2).wf = true ∧ (Lit.int .u64 y3).wf = true) (b : Nat) (sp : Nat → Bool) (hd : Bool) :
    DataW.Trod enc Try.prog W b sp hd 26 (.agg #[.int .u64 x0, .int .u64 x1, .int .u64 x2, .int .u64 x3, .int .u64 y0, .int .u64 y1, .int .u64 y2, .int .u64 y3]) (DataW.agg [.agg [.lit (.int .u64 x0), .lit (.int .u64 x1), .lit (.int .u64 x2), .lit (.int .u64 x3)], .agg [.lit (.int .u64 y0), .lit (.int .u64 y1), .lit (.int .u64 y2), .lit (.int .u64 y3)]]) [] := by
  refine ⟨3, ?_⟩
  have a1 : DataW.trod enc Try.prog W b sp hd 2 24 [.int .u64 x0, .int .u64 x1, .int .u64 x2, .int .u64 x3] = some (.agg [.lit (.int .u64 x0), .lit (.int .u64 x1), .lit (.int .u64 x2), .lit (.int .u64 x3)], []) := by
    simp [DataW.trod, Try.underlying24, Try.underlying22, cells_int, cells_u64, List.range, List.range.loop, h.1, h.2.1, h.2.2.1, h.2.2.2]
  have a2 : DataW.trod enc Try.prog W b sp hd 2 24 [.int .u64 y0, .int .u64 y1, .int .u64 y2, .int .u64 y3] = some (.agg [.lit (.int .u64 y0), .lit (.int .u64 y1), .lit (.int .u64 y2), .lit (.int .u64 y3)], []) := by
    simp [DataW.trod, Try.underlying24, Try.underlying22, cells_int, cells_u64, List.range, List.range.loop, k.1, k.2.1, k.2.2.1, k.2.2.2]
  have := trod_struct2_mk (enc := enc) (w := W) (base := b) (spare := sp) (held := hd) (n := 2) (cs := [.int .u64 x0, .int .u64 x1, .int .u64 x2, .int .u64 x3, .int .u64 y0, .int .u64 y1, .int .u64 y2, .int .u64 y3]) (y0 := (.agg [.lit (.int .u64 x0), .lit (.int .u64 x1), .lit (.int .u64 x2), .lit (.int .u64 x3)], [])) (y1 := (.agg [.lit (.int .u64 y0), .lit (.int .u64 y1), .lit (.int .u64 y2), .lit (.int .u64 y3)], [])) Try.underlying26 (by rw [cells_rat]; rfl) (by show DataW.trod enc Try.prog W b sp hd 2 24 (List.take (Try.prog.cellsOf 24) (List.drop 0 _)) = _; rw [cells_int]; exact a1) (by show DataW.trod enc Try.prog W b sp hd 2 24 (List.take (Try.prog.cellsOf 24) (List.drop 4 _)) = _; rw [cells_int]; exact a2)
  simpa [Value.cells] using this
end Go.Proofs.Ytecohcgcffhlnaa
