/- Regions that draw their order: one invariant over what has come up, and one obligation an operation. -/
import Derived.Test.YtfpifbfnebfdaaaDoorG1
import Derived.Deep.RegionHeld3
namespace Go.Proofs.YtfpifbfnebfdaaaDoor
open Go

section
variable {P : Program} {ops : Array Oper} {Q : Exit → Act → World → Prop} {S : World → Prop}

/-- The operations of rs that operation i waits for. -/
def needs (ops : Array Oper) (rs : List Nat) (i : Nat) : List Nat :=
  match ops[i]? with
  | none => []
  | some o => (o.after.toList.filter fun e => Region.binds .any e && rs.contains e.on).map fun e => e.on

/-- Everybody waits for earlier ones only. -/
def earlier (ops : Array Oper) : Bool :=
  (List.range ops.size).all fun i => ((ops[i]?).map fun o => o.after.all fun e => !Region.binds .any e || decide (e.on < i)).getD false

theorem earlier_spec (h : earlier ops = true) {i : Nat} {o : Oper} (ho : ops[i]? = some o) : ∀ e ∈ o.after, Region.binds .any e = true → e.on < i := by
  intro e he hb
  have hi : i < ops.size := (Array.getElem?_eq_some_iff.1 ho).1
  simp only [earlier, List.all_eq_true, List.mem_range] at h
  have := h i hi
  simp only [ho, Option.map_some, Option.getD_some, Array.all_eq_true_iff_forall_mem] at this
  have := this e he
  simp [hb] at this
  exact this

theorem all_of_ready (he : earlier ops = true) {L : Array Bool} (hs : L.size = ops.size) (hr : Region.ready .any ops L = []) : ∀ i, i < ops.size → L.getD i false = true := by
  intro i
  induction i using Nat.strongRecOn with
  | ind i ih =>
    intro hi
    cases hl : L.getD i false with
    | true => rfl
    | false =>
      exfalso
      have : i ∈ Region.ready .any ops L := by
        rw [mem_ready]
        refine ⟨?_, ops[i], Array.getElem?_eq_getElem hi, fun e h1 hb => ?_⟩
        · have hil : i < L.size := by omega
          simp [hil] at hl ⊢
          exact hl
        · have := earlier_spec he (Array.getElem?_eq_getElem hi) e h1 hb
          exact ih e.on this (by omega)
      rw [hr] at this
      cases this

/-- Operation j of rs has come up. -/
def Done (L : Array Bool) (rs : List Nat) (j : Nat) : Prop := j ∈ rs ∧ L.getD j false = true

theorem Done.set {L : Array Bool} {rs : List Nat} {i : Nat} (hi : i ∈ rs) (hl : i < L.size) : (Done (L.setIfInBounds i true) rs) = (fun j => j = i ∨ Done L rs j) := by
  funext j
  apply propext
  unfold Done
  by_cases h : j = i
  · subst h; simp [hi, hl]
  · rw [getD_set_ne false (Ne.symm h)]; simp [h]

/-- One operation's obligation. -/
def StepI (P : Program) (ops : Array Oper) (Q : Exit → Act → World → Prop) (S : World → Prop) (rs : List Nat) (F : (Nat → Prop) → Act → World → Prop) (i : Nat) : Prop :=
  ∀ (D : Nat → Prop) (a : Act) (w : World), ¬ D i → (∀ j ∈ needs ops rs i, D j) → F D a w → S w → wpOp P ops Q i (fun a' w' => S w' ∧ F (fun j => j = i ∨ D j) a' w') a w

theorem wpAnyH_inv_go (he : earlier ops = true) (rs : List Nat) (hrs : ∀ i ∈ rs, i < ops.size) (F : (Nat → Prop) → Act → World → Prop) (hstep : ∀ i ∈ rs, StepI P ops Q S rs F i)
    (hend : ∀ (D : Nat → Prop) (a : Act) (w : World), (∀ i ∈ rs, D i) → F D a w → S w → Q .normal a w) :
    ∀ (fuel : Nat) (L : Array Bool) (a : Act) (w : World), L.size = ops.size → (∀ j, j < ops.size → j ∉ rs → L.getD j false = true) → L.count false ≤ fuel → F (Done L rs) a w → S w → wpAnyH P .any ops Q S fuel L a w := by
  have fin : ∀ (L : Array Bool) (a : Act) (w : World), L.size = ops.size → F (Done L rs) a w → S w → Region.ready .any ops L = [] → Q .normal a w := fun L a w hs hF hS hr =>
    hend _ a w (fun i hi => ⟨hi, all_of_ready he hs hr i (hrs i hi)⟩) hF hS
  intro fuel
  induction fuel with
  | zero =>
    intro L a w hs hp hc hF hS
    have hr : Region.ready .any ops L = [] := by
      rw [List.eq_nil_iff_forall_not_mem]
      intro i hi
      obtain ⟨h1, o, ho, _⟩ := mem_ready.1 hi
      have hil : i < L.size := by rw [hs]; exact (Array.getElem?_eq_some_iff.1 ho).1
      simp [hil] at h1
      have : 0 < L.count false := Array.count_pos_iff.2 (h1 ▸ Array.getElem_mem hil)
      omega
    exact ⟨hr, fin L a w hs hF hS hr⟩
  | succ fuel ih =>
    intro L a w hs hp hc hF hS
    refine ⟨fin L a w hs hF hS, fun i hi => ?_⟩
    obtain ⟨h1, o, ho, h2⟩ := mem_ready.1 hi
    have hio : i < ops.size := (Array.getElem?_eq_some_iff.1 ho).1
    have hil : i < L.size := by omega
    have hir : i ∈ rs := by
      refine Classical.byContradiction fun hn => ?_
      have := hp i hio hn
      simp [hil] at this h1
      rw [h1] at this; cases this
    refine wpOp_mono (fun a' w' h' => ⟨h'.1, ih _ a' w' (by simp [hs]) (fun j hj hn => ?_) ?_ ?_ h'.1⟩) (hstep i hir (Done L rs) a w ?_ ?_ hF hS)
    · have hji : j ≠ i := fun e => hn (e ▸ hir)
      rw [getD_set_ne false (Ne.symm hji)]
      exact hp j hj hn
    · simp [hil] at h1
      have : (L.setIfInBounds i true) = L.set i true hil := by simp [Array.setIfInBounds, hil]
      rw [this, Array.count_set]
      simp [h1]
      omega
    · rw [Done.set hir hil]; exact h'.2
    · rintro ⟨_, h⟩
      simp [hil] at h h1
      rw [h1] at h; cases h
    · intro j hj
      simp only [needs, ho, List.mem_map, List.mem_filter, Array.mem_toList_iff, Bool.and_eq_true, List.contains_iff_mem] at hj
      obtain ⟨e, ⟨h3, h4, h5⟩, rfl⟩ := hj
      exact ⟨by simpa using h5, h2 e h3 h4⟩

def invOk (ops : Array Oper) (rs : List Nat) (L : Array Bool) (fuel : Nat) : Bool :=
  earlier ops && rs.all (fun i => decide (i < ops.size) && !L.getD i true) && decide (L.size = ops.size) && decide (L.count false ≤ fuel) && (List.range ops.size).all fun j => rs.contains j || L.getD j false

/-- The operations of rs are left: an invariant F over which of them have come up. -/
theorem wpAnyH_inv {fuel : Nat} {L : Array Bool} {a : Act} {w : World} (rs : List Nat) (F : (Nat → Prop) → Act → World → Prop) (hc : invOk ops rs L fuel = true) (hS : S w) (h0 : F (fun _ => False) a w)
    (hend : ∀ (D : Nat → Prop) (a : Act) (w : World), (∀ i ∈ rs, D i) → F D a w → S w → Q .normal a w) (hstep : ∀ i ∈ rs, StepI P ops Q S rs F i) : wpAnyH P .any ops Q S fuel L a w := by
  simp only [invOk, Bool.and_eq_true, decide_eq_true_eq, List.all_eq_true, List.mem_range] at hc
  obtain ⟨⟨⟨⟨h1, h2⟩, h3⟩, h4⟩, h5⟩ := hc
  refine wpAnyH_inv_go h1 rs (fun i hi => (h2 i hi).1) F hstep hend fuel L a w h3 (fun j hj hn => ?_) h4 ?_ hS
  · have := h5 j hj
    simp [hn] at this
    simpa using this
  · have : Done L rs = fun _ => False := by
      funext j
      apply propext
      refine ⟨fun ⟨h6, h7⟩ => ?_, False.elim⟩
      have := h2 j h6
      have hjl : j < L.size := by rw [h3]; exact this.1
      have h8 := this.2
      simp [hjl] at h8 h7
      rw [h8] at h7; cases h7
    rw [this]; exact h0

/-- So, with the invariant told from the activation at the start. -/
theorem wpAnyH_invA {fuel : Nat} {L : Array Bool} {a : Act} {w : World} (rs : List Nat) (F : Act → (Nat → Prop) → Act → World → Prop) (hc : invOk ops rs L fuel = true) (hS : S w) (h0 : F a (fun _ => False) a w)
    (hend : ∀ (D : Nat → Prop) (a' : Act) (w' : World), (∀ i ∈ rs, D i) → F a D a' w' → S w' → Q .normal a' w') (hstep : ∀ i ∈ rs, StepI P ops Q S rs (F a) i) : wpAnyH P .any ops Q S fuel L a w :=
  wpAnyH_inv rs (F a) hc hS h0 hend hstep

theorem StepI.nil {rs : List Nat} {F : (Nat → Prop) → Act → World → Prop} : ∀ i ∈ ([] : List Nat), StepI P ops Q S rs F i := fun _ h => by cases h
theorem StepI.cons {rs : List Nat} {F : (Nat → Prop) → Act → World → Prop} {i : Nat} {o : Oper} {ns tl : List Nat} (ho : ops[i]? = some o) (hn : needs ops rs i = ns)
    (h : ∀ (D : Nat → Prop) (a : Act) (w : World), ¬ D i → (∀ j ∈ ns, D j) → F D a w → S w → ∀ K' : Act → World → Prop, Shut (∀ a' w', S w' → (S w' → F (fun j => j = i ∨ D j) a' w') → K' a' w') →
      if Region.wanted o (yielded ops a.tmps) = true then Oper.wp P o a w K' Q else K' (a.put o.dst undef) w)
    (hs : ∀ i ∈ tl, StepI P ops Q S rs F i) : ∀ j ∈ i :: tl, StepI P ops Q S rs F j := fun j hj => by
  rcases List.mem_cons.1 hj with rfl | hj
  · intro D a w h1 h2 h3 h4
    exact wpOp_step ho (fun K' hK => h D a w h1 (hn ▸ h2) h3 h4 K' (fun a w hS hW => hK a w ⟨hS, hW hS⟩))
  · exact hs j hj
end
end Go.Proofs.YtfpifbfnebfdaaaDoor
