/- A region that draws its order, within a round of a range over a function, walked as a plain one; appends to a list of the call's own, within such a region. -/
import Derived.Test.YtpgcfnpnpmpkeaaS7
import Derived.Test.YtpgcfnpnpmpkeaaS6
import Derived.OrdersIn
import Derived.Deep.RegionHeld
import Derived.Deep.RegionHeld3
namespace Go.Proofs.Ytpgcfnpnpmpkeaa
open Go.RowKit Go.Shelf
/-- No operation is a defer. -/
def noDefer (ops : Array Oper) : Bool := ops.all fun o => match o.op with
  | .defer _ => false
  | _ => true
section
variable {P : Program} {ops : Array Oper} {Q : Exit → Act → World → Prop} {l n : Nat}
theorem oper_round {o : Oper} {a : Act} {w : World} {K : Act → World → Prop} (hd : ∀ c, o.op ≠ .defer c) (h : o.wp P a w K Q) : o.wpIn (Fence.wide.inRound l) n P a w K Q := by
  refine ⟨fun _ _ => trivial, ?_⟩
  rw [Oper.semAt_eq _ _ _ hd]
  unfold Oper.wp at h
  generalize (execOp a.eval o).run P w = r at *
  cases r with
  | ok x w' =>
    cases x <;> simp only [Oper.upon, Oper.uponIn] at h ⊢
    case value v => exact h
    case skip => exact h
    case defer d => exact h
    case enter f args => exact ⟨fun h => (by cases h), CallsIn.inRound l (callsIn_wide.2 h)⟩
    case row r args => exact ⟨fun h => (by cases h), fun c cs _ => let ⟨v, w', q, s⟩ := h c cs; ⟨v, w', q, stepsIn_wide.2 s⟩⟩
  | halt x w' => cases x <;> simp only [Oper.upon, Oper.uponIn] at h ⊢ <;> exact h
theorem any_round (hd : noDefer ops = true) (hq : ¬ LetsOut Q) {md : Region.Mode} : ∀ (fuel : Nat) (listed : Array Bool) (a : Act) (w : World), wpAny P md ops Q fuel listed a w → wpAnyIn (Fence.wide.inRound l) n P md ops Q fuel listed a w := by
  have op : ∀ {i : Nat} {K K' : Act → World → Prop} {a : Act} {w : World}, (∀ a w, K a w → K' a w) → wpOp P ops Q i K a w → wpOpIn (Fence.wide.inRound l) n P ops Q i K' a w := fun {i K K' a w} hk h => by
    unfold wpOp at h
    unfold wpOpIn
    cases hi : ops[i]? with
    | none => rw [hi] at h; exact hk _ _ h
    | some o =>
      rw [hi] at h
      have hdo : ∀ c, o.op ≠ .defer c := fun c e => by
        have h1 := (Array.all_eq_true.1 hd) i (Array.getElem?_eq_some_iff.1 hi).1
        rw [(Array.getElem?_eq_some_iff.1 hi).2, e] at h1
        cases h1
      simp only at h ⊢
      split
      · rename_i hw
        rw [if_pos hw] at h
        rcases h with h | ⟨_, h⟩
        · exact Oper.wpIn_mono hk (oper_round hdo h)
        · exact absurd h hq
      · rename_i hw
        rw [if_neg hw] at h
        exact ⟨fun _ _ => trivial, hk _ _ h⟩
  intro fuel
  induction fuel with
  | zero => intro listed a w h; exact h
  | succ fuel ih => intro listed a w h; exact ⟨h.1, fun i hi => op (ih _) (h.2 i hi)⟩
theorem wpIn_region_held {id : Nat} {a : Act} {w : World} {S : World → Prop} (hm : P.follows .mixedOrders = true) (hd : noDefer ops = true) (hq : ¬ LetsOut Q) (hS : S w.drew)
    (h : S w.drew → wpAnyH P .any ops Q S ops.size (Array.replicate ops.size false) a w.drew) : (Code.region id ops true).wpIn (Fence.wide.inRound l) n P Q a w :=
  wpIn_region_any hm (any_round hd hq _ _ _ _ (wpAny_of_held _ _ _ _ (h hS)))
end
theorem Lst.block {w : World} {base g : Nat} {v : Value} {L : List Int} (h : Lst w base v L) (e : v.ownBlock = some g) : ∃ cur, Blk w g cur := by
  obtain ⟨_, h2⟩ := h
  rcases h2 with ⟨rfl, _⟩ | ⟨g', cap, cur, rfl, _, h4, _⟩
  · cases e
  · have e' := Option.some.inj e
    exact ⟨cur, e' ▸ h4⟩
theorem Lst.grown {w w' : World} {base : Nat} {v : Value} {L : List Int} {row : Option Nat} (h : Lst w base v L) (hg : w.grownBy w' row) (hr : ∀ r, row = some r → ∃ o : Obj, w.heap[r]? = some o ∧ o.isCells = false) : Lst w' base v L := by
  refine World.ownsRow.kept h hg ?_
  cases hv : v.ownBlock with
  | none => exact Or.inl rfl
  | some g =>
    refine Or.inr (fun e => ?_)
    obtain ⟨o, ho, hc⟩ := hr g e.symm
    obtain ⟨cur, hb⟩ := h.block hv
    have := ho.symm.trans hb
    injection this with this
    rw [this] at hc
    cases hc
theorem Lst.keeps {w w' : World} {base : Nat} {v : Value} {L : List Int} (h : Lst w base v L) (hg : w.grownBy w' v.ownBlock) : KeepsOthers w w' :=
  ⟨hg.size, fun k o hk hc => by
    refine (hg.block k (Array.getElem?_eq_some_iff.1 hk).1 (fun e => ?_)).trans hk
    obtain ⟨cur, hb⟩ := h.block e.symm
    have := hk.symm.trans hb
    injection this with this
    rw [this] at hc
    cases hc⟩
end Go.Proofs.Ytpgcfnpnpmpkeaa
