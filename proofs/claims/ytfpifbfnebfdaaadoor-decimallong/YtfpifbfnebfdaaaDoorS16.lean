/- What rows share: structs of four ints, opened and shut. -/
import Derived.Test.YtfpifbfnebfdaaaDoorS4
import Derived.Deep.Strs
import Derived.Lib.SmallJoins
import Derived.ChangeMaps
namespace Go.Proofs.YtfpifbfnebfdaaaDoor
open Go Go.ChangeShapes Go.WideShapes Go.ChangeAt Go.RowKit
theorem list4q {α : Type} (l : List α) (h : (⟨l⟩ : Array α).size = 4) : ∃ a b c d, l = [a, b, c, d] := by
  match l, h with
  | [a, b, c, d], _ => exact ⟨a, b, c, d, rfl⟩
section
variable {te : TypeId} {k0 k1 k2 k3 : Field}
set_option maxRecDepth 100000 in
theorem open_qua (u : Tryd.prog.underlying te = some (.struct #[k0, k1, k2, k3])) (ce : Tryd.prog.cellsOf te = 4) (o0 : k0.offset = 0) (o1 : k1.offset = 1) (o2 : k2.offset = 2) (o3 : k3.offset = 3) (t0 : k0.type = 3) (t1 : k1.type = 3) (t2 : k2.type = 3) (t3 : k3.type = 3)
    {H : Type} {enc : TypeId × Value → H} {W : World} {base : Nat} {r : Reach} {v : Value} {d : DataW H} {p : List MemPlace} (hv : Value.okWide Tryd.prog W r base te v) (h : DataW.Trod enc Tryd.prog W 0 (fun _ => true) true te v d p) :
    ∃ x1 x2 x3 x4 : Int, v = .agg #[.int .i64 x1, .int .i64 x2, .int .i64 x3, .int .i64 x4] ∧ d = .agg [.lit (.int .i64 x1), .lit (.int .i64 x2), .lit (.int .i64 x3), .lit (.int .i64 x4)] ∧ p = [] ∧ ((Lit.int .i64 x1).wf = true ∧ (Lit.int .i64 x2).wf = true ∧ (Lit.int .i64 x3).wf = true ∧ (Lit.int .i64 x4).wf = true) := by
  obtain ⟨cs, rfl, hsz, _⟩ : ∃ cs, v = .agg cs ∧ cs.size = Tryd.prog.cellsOf te ∧ Row.okWide Tryd.prog W r base te cs := by
    simpa [Value.okWide, u] using hv
  rw [ce] at hsz
  obtain ⟨l⟩ := cs
  obtain ⟨c0, c1, c2, c3, rfl⟩ := list4q l hsz
  obtain ⟨fuel, hf⟩ := h
  obtain ⟨a, b, c, g, m, hx, _, hy0, hy1, hy2, hy3⟩ := Go.Joins.trod_struct4 u hf
  rw [t0, o0] at hy0
  rw [t1, o1] at hy1
  rw [t2, o2] at hy2
  rw [t3, o3] at hy3
  simp only [cells_n, Value.cells, List.drop, List.take] at hy0 hy1 hy2 hy3
  obtain ⟨p0, e0, rfl, w0⟩ := DataW.trod_int Tryd.underlying3 hy0
  obtain ⟨p1, e1, rfl, w1⟩ := DataW.trod_int Tryd.underlying3 hy1
  obtain ⟨p2, e2, rfl, w2⟩ := DataW.trod_int Tryd.underlying3 hy2
  obtain ⟨p3, e3, rfl, w3⟩ := DataW.trod_int Tryd.underlying3 hy3
  simp at e0 e1 e2 e3
  subst e0 e1 e2 e3
  simp only [Prod.mk.injEq] at hx
  obtain ⟨rfl, rfl⟩ := hx
  exact ⟨p0, p1, p2, p3, rfl, rfl, rfl, w0, w1, w2, w3⟩
set_option maxRecDepth 100000 in
theorem shut_qua (u : Tryd.prog.underlying te = some (.struct #[k0, k1, k2, k3])) (ce : Tryd.prog.cellsOf te = 4) (o0 : k0.offset = 0) (o1 : k1.offset = 1) (o2 : k2.offset = 2) (o3 : k3.offset = 3) (t0 : k0.type = 3) (t1 : k1.type = 3) (t2 : k2.type = 3) (t3 : k3.type = 3)
    {H : Type} {enc : TypeId × Value → H} {W : World} {x1 x2 x3 x4 : Int} (h : (Lit.int .i64 x1).wf = true ∧ (Lit.int .i64 x2).wf = true ∧ (Lit.int .i64 x3).wf = true ∧ (Lit.int .i64 x4).wf = true) (b : Nat) (sp : Nat → Bool) (hd : Bool) :
    DataW.Trod enc Tryd.prog W b sp hd te (.agg #[.int .i64 x1, .int .i64 x2, .int .i64 x3, .int .i64 x4]) (DataW.agg [.lit (.int .i64 x1), .lit (.int .i64 x2), .lit (.int .i64 x3), .lit (.int .i64 x4)]) [] :=
  ⟨2, by simp [DataW.trod, Value.cells, u, Tryd.underlying3, ce, cells_n, o0, o1, o2, o3, t0, t1, t2, t3, h.1, h.2.1, h.2.2.1, h.2.2.2]⟩
end
end Go.Proofs.YtfpifbfnebfdaaaDoor
