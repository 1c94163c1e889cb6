/- What the rows of the statements share: points opened and shut. -/
import Derived.Test.YtohhlhoijanjfaaP0b
namespace Go.Proofs.Ytohhlhoijanjfaa
open Go.ChangeShapes Go.WideShapes Go.ChangeAt Go.RowKit

theorem cells_n : Try.prog.cellsOf 3 = 1 := by kernel_rfl
theorem cells_pt : Try.prog.cellsOf 24 = 2 := by kernel_rfl
theorem list2p {α : Type} (l : List α) (h : (⟨l⟩ : Array α).size = 2) : ∃ a b, l = [a, b] := by
  match l, h with
  | [a, b], _ => exact ⟨a, b, rfl⟩
set_option maxRecDepth 100000 in
theorem open_pt {H : Type} {enc : TypeId × Value → H} {W : World} {base : Nat} {r : Reach} {v : Value} {d : DataW H} {p : List MemPlace} (hv : Value.okWide Try.prog W r base 24 v) (h : DataW.Trod enc Try.prog W 0 (fun _ => true) true 24 v d p) :
    ∃ x1 x2 : Int, v = .agg #[.int .i64 x1, .int .i64 x2] ∧ d = .agg [.lit (.int .i64 x1), .lit (.int .i64 x2)] ∧ p = [] ∧ ((Lit.int .i64 x1).wf = true ∧ (Lit.int .i64 x2).wf = true) := by
  obtain ⟨cs, rfl, hsz, _⟩ : ∃ cs, v = .agg cs ∧ cs.size = Try.prog.cellsOf 24 ∧ Row.okWide Try.prog W r base 24 cs := by
    simpa [Value.okWide, Try.underlying24] using hv
  rw [cells_pt] at hsz
  obtain ⟨l⟩ := cs
  obtain ⟨c0, c1, rfl⟩ := list2p l hsz
  obtain ⟨fuel, hf⟩ := h
  obtain ⟨a, b, m, hx, _, hy0, hy1⟩ := trod_struct2 Try.underlying24 hf
  simp only [cells_n, Value.cells, List.drop, List.take] at hy0 hy1
  obtain ⟨p0, e0, rfl, w0⟩ := DataW.trod_int Try.underlying3 hy0
  obtain ⟨p1, e1, rfl, w1⟩ := DataW.trod_int Try.underlying3 hy1
  simp at e0 e1
  subst e0 e1
  simp only [Prod.mk.injEq] at hx
  obtain ⟨rfl, rfl⟩ := hx
  exact ⟨p0, p1, rfl, rfl, rfl, w0, w1⟩
set_option maxRecDepth 100000 in
theorem shut_pt {H : Type} {enc : TypeId × Value → H} {W : World} {x1 x2 : Int} (h : (Lit.int .i64 x1).wf = true ∧ (Lit.int .i64 x2).wf = true) (b : Nat) (sp : Nat → Bool) (hd : Bool) :
    DataW.Trod enc Try.prog W b sp hd 24 (.agg #[.int .i64 x1, .int .i64 x2]) (DataW.agg [.lit (.int .i64 x1), .lit (.int .i64 x2)]) [] :=
  ⟨2, by simp [DataW.trod, Value.cells, Try.underlying24, Try.underlying3, cells_pt, cells_n, h.1, h.2]⟩
end Go.Proofs.Ytohhlhoijanjfaa
