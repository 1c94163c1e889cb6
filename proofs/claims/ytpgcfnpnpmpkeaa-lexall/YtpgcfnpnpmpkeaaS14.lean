/- What rows share: structs of three ints, opened and shut. -/
import Derived.Test.YtpgcfnpnpmpkeaaS4
import Derived.Deep.Strs
import Derived.ChangeMaps
namespace Go.Proofs.Ytpgcfnpnpmpkeaa
open Go Go.ChangeShapes Go.WideShapes Go.ChangeAt Go.RowKit
theorem list3p {α : Type} (l : List α) (h : (⟨l⟩ : Array α).size = 3) : ∃ a b c, l = [a, b, c] := by
  match l, h with
  | [a, b, c], _ => exact ⟨a, b, c, rfl⟩
section
variable {te : TypeId} {k0 k1 k2 : Field}
set_option maxRecDepth 100000 in
theorem open_tri (u : Try.prog.underlying te = some (.struct #[k0, k1, k2])) (ce : Try.prog.cellsOf te = 3) (o0 : k0.offset = 0) (o1 : k1.offset = 1) (o2 : k2.offset = 2) (t0 : k0.type = 3) (t1 : k1.type = 3) (t2 : k2.type = 3)
    {H : Type} {enc : TypeId × Value → H} {W : World} {base : Nat} {r : Reach} {v : Value} {d : DataW H} {p : List MemPlace} (hv : Value.okWide Try.prog W r base te v) (h : DataW.Trod enc Try.prog W 0 (fun _ => true) true te v d p) :
    ∃ x1 x2 x3 : Int, v = .agg #[.int .i64 x1, .int .i64 x2, .int .i64 x3] ∧ d = .agg [.lit (.int .i64 x1), .lit (.int .i64 x2), .lit (.int .i64 x3)] ∧ p = [] ∧ ((Lit.int .i64 x1).wf = true ∧ (Lit.int .i64 x2).wf = true ∧ (Lit.int .i64 x3).wf = true) := by
  obtain ⟨cs, rfl, hsz, _⟩ : ∃ cs, v = .agg cs ∧ cs.size = Try.prog.cellsOf te ∧ Row.okWide Try.prog W r base te cs := by
    simpa [Value.okWide, u] using hv
  rw [ce] at hsz
  obtain ⟨l⟩ := cs
  obtain ⟨c0, c1, c2, rfl⟩ := list3p l hsz
  obtain ⟨fuel, hf⟩ := h
  obtain ⟨a, b, c, m, hx, _, hy0, hy1, hy2⟩ := Go.Deep.trod_struct3 u hf
  rw [t0, o0] at hy0
  rw [t1, o1] at hy1
  rw [t2, o2] at hy2
  simp only [cells_n, Value.cells, List.drop, List.take] at hy0 hy1 hy2
  obtain ⟨p0, e0, rfl, w0⟩ := DataW.trod_int Try.underlying3 hy0
  obtain ⟨p1, e1, rfl, w1⟩ := DataW.trod_int Try.underlying3 hy1
  obtain ⟨p2, e2, rfl, w2⟩ := DataW.trod_int Try.underlying3 hy2
  simp at e0 e1 e2
  subst e0 e1 e2
  simp only [Prod.mk.injEq] at hx
  obtain ⟨rfl, rfl⟩ := hx
  exact ⟨p0, p1, p2, rfl, rfl, rfl, w0, w1, w2⟩
set_option maxRecDepth 100000 in
theorem shut_tri (u : Try.prog.underlying te = some (.struct #[k0, k1, k2])) (ce : Try.prog.cellsOf te = 3) (o0 : k0.offset = 0) (o1 : k1.offset = 1) (o2 : k2.offset = 2) (t0 : k0.type = 3) (t1 : k1.type = 3) (t2 : k2.type = 3)
    {H : Type} {enc : TypeId × Value → H} {W : World} {x1 x2 x3 : Int} (h : (Lit.int .i64 x1).wf = true ∧ (Lit.int .i64 x2).wf = true ∧ (Lit.int .i64 x3).wf = true) (b : Nat) (sp : Nat → Bool) (hd : Bool) :
    DataW.Trod enc Try.prog W b sp hd te (.agg #[.int .i64 x1, .int .i64 x2, .int .i64 x3]) (DataW.agg [.lit (.int .i64 x1), .lit (.int .i64 x2), .lit (.int .i64 x3)]) [] :=
  ⟨2, by simp [DataW.trod, Value.cells, u, Try.underlying3, ce, cells_n, o0, o1, o2, t0, t1, t2, h.1, h.2.1, h.2.2]⟩
end
end Go.Proofs.Ytpgcfnpnpmpkeaa
