/- Regions that draw their order, walked once: calls whose contract hangs on the class of worlds. -/
import Derived.Test.YtpgcfnpnpmpkeaaH2
namespace Go.Proofs.Ytpgcfnpnpmpkeaa
open Go Go.RowKit

section
variable {P : Program} {ops : Array Oper} {C : World → Prop} {Q : Act → Prop} {a : Act} {o : Oper} {rest : List Oper}
theorem quiet_callC (f : FuncId) (args : Array Value) (v : Value) (hcl : ∀ w w', C w → IsGr w w' → C w') (hw : Region.wanted o (yielded ops a.tmps) = true) (hy : ∀ w, (execOp a.eval o).run P w = .ok (.enter f args) w)
    (hc : ∀ w, C w → Calls P f args w fun e w' => e = .returned v ∧ IsGr w w') (h : wpQuiet P ops C Q rest (a.put o.dst v)) : wpQuiet P ops C Q (o :: rest) a :=
  wpQuiet_step fun K hK => by
    rw [if_pos hw]
    refine ⟨v, fun w hcw => ?_, hK _ h⟩
    unfold Oper.quietAt
    rw [hy w]
    exact ⟨rfl, (hc w hcw).mono fun e w' ⟨he, hg⟩ => ⟨he, hcl w w' hcw hg⟩⟩
end
section
variable {P : Program} {ops : Array Oper} {C : World → Prop} {Q : Act → Prop} {K : List Oper → Act → Prop} {a : Act} {o : Oper} {rest : List Oper}
theorem QK.callC (h : Hid (QK P ops C Q K)) (f : FuncId) (args : Array Value) (v : Value) (hcl : ∀ w w', C w → IsGr w w' → C w') (hw : Region.wanted o (yielded ops a.tmps) = true) (hy : ∀ w, (execOp a.eval o).run P w = .ok (.enter f args) w)
    (hc : ∀ w, C w → Calls P f args w fun e w' => e = .returned v ∧ IsGr w w') (k : K rest (a.put o.dst v)) : K (o :: rest) a :=
  (h.out _ _).2 (quiet_callC f args v hcl hw hy hc ((h.out _ _).1 k))
end
end Go.Proofs.Ytpgcfnpnpmpkeaa
