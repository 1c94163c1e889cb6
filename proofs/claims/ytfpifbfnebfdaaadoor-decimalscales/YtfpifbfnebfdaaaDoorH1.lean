/- Regions that draw their order: one whose last operation waits for all the others, that one set apart. -/
import Derived.Test.YtfpifbfnebfdaaaDoorG1
import Derived.Deep.RegionHeld3
namespace Go.Proofs.YtfpifbfnebfdaaaDoor
open Go

section
variable {P : Program} {ops : Array Oper} {Q : Exit → Act → World → Prop} {S : World → Prop}

/-- The post of the rest: behind it operation k. -/
def ButLast (P : Program) (ops : Array Oper) (k : Nat) (Q : Exit → Act → World → Prop) : Exit → Act → World → Prop
  | .normal, a, w => wpOp P ops Q k (Q .normal) a w
  | e, a, w => Q e a w

theorem butLast_letsOut {k : Nat} (h : LetsOut (ButLast P ops k Q)) : LetsOut Q := by
  exact h

theorem butLast_op {k i : Nat} {K : Act → World → Prop} {a : Act} {w : World} (h : wpOp P ops (ButLast P ops k Q) i K a w) : wpOp P ops Q i K a w := by
  unfold wpOp at *
  split
  · rename_i ho; simp only [ho] at h; exact h
  · rename_i o ho
    simp only [ho] at h
    split
    · rename_i hw
      simp only [hw, if_true] at h
      rcases h with h | ⟨h1, h2⟩
      · refine Or.inl ?_
        unfold Oper.wp at *
        generalize (execOp a.eval o).run P w = r at *
        cases r with
        | ok n w' =>
          cases n <;> simp only [Oper.upon] at h ⊢
          case enter f args => exact Calls.mono h fun e w'' he => by cases e <;> first | exact he | exact butLast_letsOut he
          all_goals exact h
        | halt x w' => cases x <;> simp only [Oper.upon] at h ⊢ <;> exact h
      · exact Or.inr ⟨h1, butLast_letsOut h2⟩
    · rename_i hw; simp only [hw] at h; exact h

/-- Does operation k wait for all the others, and nobody for it (and everybody for earlier ones only)? -/
def lastWaits (ops : Array Oper) (k : Nat) : Bool :=
  decide (k < ops.size) && ((List.range ops.size).all fun i => i == k || ((ops[k]?).map fun o => o.after.any fun e => Region.binds .any e && e.on == i).getD false) &&
  ((List.range ops.size).all fun i => ((ops[i]?).map fun o => o.after.all fun e => !Region.binds .any e || (decide (e.on ≠ k) && (decide (e.on < i) || i == k) && decide (e.on < ops.size))).getD false)

theorem lastWaits_spec {k : Nat} (h : lastWaits ops k = true) : k < ops.size ∧ (∀ i, i < ops.size → i ≠ k → ∃ o, ops[k]? = some o ∧ ∃ e ∈ o.after, Region.binds .any e = true ∧ e.on = i) ∧
    (∀ i o, ops[i]? = some o → ∀ e ∈ o.after, Region.binds .any e = true → e.on ≠ k ∧ (i ≠ k → e.on < i) ∧ e.on < ops.size) := by
  simp only [lastWaits, Bool.and_eq_true, decide_eq_true_eq, List.all_eq_true, List.mem_range] at h
  obtain ⟨⟨h1, h2⟩, h3⟩ := h
  refine ⟨h1, fun i hi hik => ?_, fun i o ho e he hb => ?_⟩
  · have := h2 i hi
    have hk' : ops[k]? = some ops[k] := Array.getElem?_eq_getElem h1
    rw [hk'] at this ⊢
    simp [hik] at this
    obtain ⟨e, he, hb, ho⟩ := this
    exact ⟨_, rfl, _, Array.getElem_mem he, hb, ho⟩
  · have hi : i < ops.size := (Array.getElem?_eq_some_iff.1 ho).1
    have := h3 i hi
    simp only [ho, Option.map_some, Option.getD_some, Array.all_eq_true_iff_forall_mem] at this
    have := this e he
    simp [hb] at this
    refine ⟨this.1.1, fun hik => ?_, this.2⟩
    rcases this.1.2 with h | h
    · exact h
    · exact absurd h hik

theorem but_all {k : Nat} (hk : lastWaits ops k = true) {listed : Array Bool} (hs : listed.size = ops.size) (hr : Region.ready .any ops (listed.setIfInBounds k true) = []) :
    ∀ i, i < ops.size → i ≠ k → listed.getD i false = true := by
  obtain ⟨h1, h2, h3⟩ := lastWaits_spec hk
  intro i
  induction i using Nat.strongRecOn with
  | ind i ih =>
    intro hi hik
    cases hl : listed.getD i false with
    | true => rfl
    | false =>
      exfalso
      have : i ∈ Region.ready .any ops (listed.setIfInBounds k true) := by
        rw [mem_ready]
        refine ⟨?_, ops[i], Array.getElem?_eq_getElem hi, fun e he hb => ?_⟩
        · rw [getD_set_ne true (Ne.symm hik)]
          have hil : i < listed.size := by omega
          simp [hil] at hl ⊢
          exact hl
        · obtain ⟨e1, e2, e3⟩ := h3 i _ (Array.getElem?_eq_getElem hi) e he hb
          rw [getD_set_ne false (Ne.symm e1)]
          exact ih e.on (e2 hik) e3 e1
      rw [hr] at this
      cases this

theorem but_ready {k : Nat} (hk : lastWaits ops k = true) {listed : Array Bool} (hs : listed.size = ops.size) (hl : listed.getD k true = false) (hr : Region.ready .any ops (listed.setIfInBounds k true) = []) :
    k ∈ Region.ready .any ops listed := by
  obtain ⟨h1, h2, h3⟩ := lastWaits_spec hk
  rw [mem_ready]
  refine ⟨hl, ops[k], Array.getElem?_eq_getElem h1, fun e he hb => ?_⟩
  obtain ⟨e1, _, e3⟩ := h3 k _ (Array.getElem?_eq_getElem h1) e he hb
  exact but_all hk hs hr e.on e3 e1

theorem wpAny_but {k : Nat} (hk : lastWaits ops k = true) : ∀ (fuel : Nat) (listed : Array Bool) (a : Act) (w : World), listed.size = ops.size → listed.getD k true = false →
    wpAnyH P .any ops (ButLast P ops k Q) S fuel (listed.setIfInBounds k true) a w → wpAny P .any ops Q (fuel + 1) listed a w := by
  obtain ⟨h1, h2, h3⟩ := lastWaits_spec hk
  have only : ∀ (listed : Array Bool), Region.ready .any ops (listed.setIfInBounds k true) = [] → ∀ i ∈ Region.ready .any ops listed, i = k := fun listed hr i hi => by
    by_cases hik : i = k
    · exact hik
    · have := ready_mono hi hik; rw [hr] at this; cases this
  intro fuel
  induction fuel with
  | zero =>
    intro listed a w hs hl H
    refine ⟨fun h0 => ?_, fun i hi => ?_⟩
    · have := but_ready hk hs hl H.1; rw [h0] at this; cases this
    · obtain rfl := only listed H.1 i hi
      exact wpOp_mono (fun a' w' hq => ⟨H.1, hq⟩) H.2
  | succ fuel ih =>
    intro listed a w hs hl H
    by_cases hr : Region.ready .any ops (listed.setIfInBounds k true) = []
    · refine ⟨fun h0 => ?_, fun i hi => ?_⟩
      · have := but_ready hk hs hl hr; rw [h0] at this; cases this
      · obtain rfl := only listed hr i hi
        exact wpOp_mono (fun a' w' hq => ⟨fun _ => hq, by rw [hr]; intro i hi; cases hi⟩) (H.1 hr)
    · have hnk : ∀ i ∈ Region.ready .any ops listed, i ≠ k := by
        rintro i hi rfl
        apply hr
        rw [List.eq_nil_iff_forall_not_mem]
        intro j hj
        rw [mem_ready] at hi hj
        obtain ⟨hj0, oj, hoj, _⟩ := hj
        have hjs : j < ops.size := (Array.getElem?_eq_some_iff.1 hoj).1
        by_cases hji : j = i
        · subst hji
          have : j < listed.size := by omega
          simp [this] at hj0
        · rw [getD_set_ne true (Ne.symm hji)] at hj0
          obtain ⟨o, ho, e, he, hb, heo⟩ := h2 j hjs hji
          obtain ⟨_, o', ho', hall⟩ := hi
          rw [ho] at ho'
          obtain rfl := Option.some.inj ho'
          have h4 := hall e he hb
          rw [heo] at h4
          have hjl : j < listed.size := by omega
          simp [hjl] at h4 hj0
          rw [hj0] at h4
          cases h4
      refine ⟨fun h0 => ?_, fun i hi => ?_⟩
      · exfalso
        obtain ⟨j, hj⟩ := List.exists_mem_of_ne_nil _ hr
        have : j ∈ Region.ready .any ops listed := by
          rw [mem_ready] at hj ⊢
          obtain ⟨hj0, oj, hoj, hall⟩ := hj
          have hjk : j ≠ k := by
            rintro rfl
            have : j < listed.size := by omega
            simp [this] at hj0
          rw [getD_set_ne true (Ne.symm hjk)] at hj0
          refine ⟨hj0, oj, hoj, fun e he hb => ?_⟩
          have h5 := hall e he hb
          rw [getD_set_ne false (Ne.symm (h3 j oj hoj e he hb).1)] at h5
          exact h5
        rw [h0] at this
        cases this
      · have hik := hnk i hi
        have hh := butLast_op (H.2 i (ready_mono hi hik))
        refine wpOp_mono (fun a' w' h' => ih (listed.setIfInBounds i true) a' w' (by simp [hs]) (by rw [getD_set_ne true hik]; exact hl) ?_) hh
        rw [Array.setIfInBounds_comm _ _ hik]
        exact h'.2

/-- A region whose last operation k waits for all the others: the others under S, then k. -/
theorem wp_region_but {id k n : Nat} {a : Act} {w : World} (hm : P.follows .mixedOrders = true) (hk : (lastWaits ops k && decide (ops.size = n + 1)) = true) (hS : S w.drew)
    (h : S w.drew → wpAnyH P .any ops (ButLast P ops k Q) S n ((Array.replicate ops.size false).setIfInBounds k true) a w.drew) : (Code.region id ops true).wp P Q a w := by
  rw [Bool.and_eq_true, decide_eq_true_eq] at hk
  refine wp_region_any hm ?_
  have := wpAny_but hk.1 n (Array.replicate ops.size false) a w.drew (by simp) (by have := (lastWaits_spec hk.1).1; simp [this]) (h hS)
  rw [hk.2]
  rw [hk.2] at this
  exact this

/-- Operation k itself, behind the rest. -/
theorem butLast_step {k : Nat} {o : Oper} {a : Act} {w : World} (ho : ops[k]? = some o)
    (h : ∀ K' : Act → World → Prop, Shut (∀ a w, Q .normal a w → K' a w) → if Region.wanted o (yielded ops a.tmps) = true then Oper.wp P o a w K' Q else K' (a.put o.dst undef) w) : ButLast P ops k Q .normal a w :=
  wpOp_step ho h
end
end Go.Proofs.YtfpifbfnebfdaaaDoor
