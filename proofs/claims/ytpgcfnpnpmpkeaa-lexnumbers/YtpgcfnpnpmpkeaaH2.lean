/- Regions that draw their order, whose operations only read and whose callees let the world grow at most: walked once, in the order of the text. -/
import Derived.Test.YtpgcfnpnpmpkeaaG1
import Derived.Deep.QuietTactic
import Derived.Deep.RegionHeld3
namespace Go.Proofs.Ytpgcfnpnpmpkeaa
open Go Go.RowKit

section
variable {P : Program} {ops : Array Oper} {C : World → Prop} {Q : Act → Prop} {a : Act} {o : Oper} {rest : List Oper}

theorem quiet_take (v : Value) (hw : Region.wanted o (yielded ops a.tmps) = true) (hy : ∀ w, C w → (execOp a.eval o).run P w = .ok (.value v) w) (h : wpQuiet P ops C Q rest (a.put o.dst v)) : wpQuiet P ops C Q (o :: rest) a :=
  wpQuiet_step fun K hK => by
    rw [if_pos hw]
    exact ⟨v, fun w hc => by unfold Oper.quietAt; rw [hy w hc]; exact ⟨rfl, rfl⟩, hK _ h⟩
theorem quiet_skip (hw : Region.wanted o (yielded ops a.tmps) = false) (h : wpQuiet P ops C Q rest (a.put o.dst undef)) : wpQuiet P ops C Q (o :: rest) a :=
  wpQuiet_step fun K hK => by
    rw [if_neg (by rw [hw]; exact Bool.false_ne_true)]
    exact hK _ h
theorem quiet_call (f : FuncId) (args : Array Value) (v : Value) (hcl : ∀ w w', C w → IsGr w w' → C w') (hw : Region.wanted o (yielded ops a.tmps) = true) (hy : ∀ w, (execOp a.eval o).run P w = .ok (.enter f args) w)
    (hc : ∀ w, Calls P f args w fun e w' => e = .returned v ∧ IsGr w w') (h : wpQuiet P ops C Q rest (a.put o.dst v)) : wpQuiet P ops C Q (o :: rest) a :=
  wpQuiet_step fun K hK => by
    rw [if_pos hw]
    refine ⟨v, fun w hcw => ?_, hK _ h⟩
    unfold Oper.quietAt
    rw [hy w]
    exact ⟨rfl, (hc w).mono fun e w' ⟨he, hg⟩ => ⟨he, hcl w w' hcw hg⟩⟩
end
theorem wp_region_quietC {P : Program} (C : World → Prop) {id : Nat} {Q : Exit → Act → World → Prop} {a : Act} {w : World} {l : List Oper} (hm : P.follows .mixedOrders = true) (hB : Region.lexB .any l.toArray = true) (hC : C w.drew)
    (h : wpQuiet P l.toArray C (fun a' => ∀ w', C w' → Q .normal a' w') l a) : (Code.region id l.toArray true).wp P Q a w :=
  wp_region_quiet (C := C) hm hB hC (by simpa using h)

/-- K is wpQuiet, under a name that nothing unfolds. -/
def QK (P : Program) (ops : Array Oper) (C : World → Prop) (Q : Act → Prop) (K : List Oper → Act → Prop) : Prop := ∀ l a, K l a ↔ wpQuiet P ops C Q l a
section
variable {P : Program} {ops : Array Oper} {C : World → Prop} {Q : Act → Prop} {K : List Oper → Act → Prop} {a : Act} {o : Oper} {rest : List Oper}
theorem QK.take (h : Hid (QK P ops C Q K)) (v : Value) (hw : Region.wanted o (yielded ops a.tmps) = true) (hy : ∀ w, C w → (execOp a.eval o).run P w = .ok (.value v) w) (k : K rest (a.put o.dst v)) : K (o :: rest) a :=
  (h.out _ _).2 (quiet_take v hw hy ((h.out _ _).1 k))
theorem QK.skip (h : Hid (QK P ops C Q K)) (hw : Region.wanted o (yielded ops a.tmps) = false) (k : K rest (a.put o.dst undef)) : K (o :: rest) a :=
  (h.out _ _).2 (quiet_skip hw ((h.out _ _).1 k))
theorem QK.call (h : Hid (QK P ops C Q K)) (f : FuncId) (args : Array Value) (v : Value) (hcl : ∀ w w', C w → IsGr w w' → C w') (hw : Region.wanted o (yielded ops a.tmps) = true) (hy : ∀ w, (execOp a.eval o).run P w = .ok (.enter f args) w)
    (hc : ∀ w, Calls P f args w fun e w' => e = .returned v ∧ IsGr w w') (k : K rest (a.put o.dst v)) : K (o :: rest) a :=
  (h.out _ _).2 (quiet_call f args v hcl hw hy hc ((h.out _ _).1 k))
theorem QK.nil (h : Hid (QK P ops C Q K)) (k : Q a) : K [] a := (h.out _ _).2 (wpQuiet_nil k)
end
theorem wp_region_quietV {P : Program} (C : World → Prop) {id : Nat} {Q : Exit → Act → World → Prop} {a : Act} {w : World} {l : List Oper} (hm : P.follows .mixedOrders = true) (hB : Region.lexB .any l.toArray = true) (hC : C w.drew)
    (h : ∀ K : List Oper → Act → Prop, Hid (QK P l.toArray C (fun a' => ∀ w', C w' → Q .normal a' w') K) → K l a) : (Code.region id l.toArray true).wp P Q a w :=
  wp_region_quietC C hm hB hC (h _ (show QK _ _ _ _ _ from fun _ _ => Iff.rfl))
end Go.Proofs.Ytpgcfnpnpmpkeaa
