/- Regions that draw their order: one whose last operation is the only one that nobody waits for, that one set apart. -/
import Derived.Test.YtpgcfnpnpmpkeaaH1
namespace Go.Proofs.Ytpgcfnpnpmpkeaa
open Go

section
variable {P : Program} {ops : Array Oper} {Q : Exit → Act → World → Prop} {S : World → Prop}

/-- Has each operation but k one that waits for it (and everybody waits for earlier ones only, nobody for k)? -/
def onlyEnd (ops : Array Oper) (k : Nat) : Bool :=
  decide (k < ops.size) && ((List.range ops.size).all fun i => i == k || (List.range ops.size).any fun s => ((ops[s]?).map fun o => o.after.any fun e => Region.binds .any e && e.on == i).getD false) &&
  ((List.range ops.size).all fun i => ((ops[i]?).map fun o => o.after.all fun e => !Region.binds .any e || (decide (e.on ≠ k) && (decide (e.on < i) || i == k) && decide (e.on < ops.size))).getD false)

theorem onlyEnd_spec {k : Nat} (h : onlyEnd ops k = true) : k < ops.size ∧ (∀ i, i < ops.size → i ≠ k → ∃ (s : Nat) (o : Oper), ops[s]? = some o ∧ ∃ e ∈ o.after, Region.binds .any e = true ∧ e.on = i) ∧
    (∀ i o, ops[i]? = some o → ∀ e ∈ o.after, Region.binds .any e = true → e.on ≠ k ∧ (i ≠ k → e.on < i) ∧ e.on < ops.size) := by
  simp only [onlyEnd, Bool.and_eq_true, decide_eq_true_eq, List.all_eq_true, List.mem_range] at h
  obtain ⟨⟨h1, h2⟩, h3⟩ := h
  refine ⟨h1, fun i hi hik => ?_, fun i o ho e he hb => ?_⟩
  · have := h2 i hi
    rw [Bool.or_eq_true] at this
    rcases this with h4 | h4
    · exact absurd (eq_of_beq h4) hik
    · rw [List.any_eq_true] at h4
      obtain ⟨s, hs, h5⟩ := h4
      rw [List.mem_range] at hs
      have hs' : ops[s]? = some ops[s] := Array.getElem?_eq_getElem hs
      rw [hs'] at h5
      simp at h5
      obtain ⟨e, he, hb, ho⟩ := h5
      exact ⟨s, _, hs', _, Array.getElem_mem he, hb, ho⟩
  · have hi : i < ops.size := (Array.getElem?_eq_some_iff.1 ho).1
    have := h3 i hi
    simp only [ho, Option.map_some, Option.getD_some, Array.all_eq_true_iff_forall_mem] at this
    have := this e he
    simp [hb] at this
    refine ⟨this.1.1, fun hik => ?_, this.2⟩
    rcases this.1.2 with h | h
    · exact h
    · exact absurd h hik
/-- What is listed has all that it waits for listed. -/
def Closed (ops : Array Oper) (listed : Array Bool) : Prop := ∀ i o, ops[i]? = some o → listed.getD i false = true → ∀ e ∈ o.after, Region.binds .any e = true → listed.getD e.on false = true
theorem getD_set_same {l : Array Bool} {i : Nat} (h : i < l.size) : (l.setIfInBounds i true).getD i false = true := by simp [h]
theorem Closed.set {listed : Array Bool} {i : Nat} (h : Closed ops listed) (hs : listed.size = ops.size) (hi : i ∈ Region.ready .any ops listed) : Closed ops (listed.setIfInBounds i true) := by
  rw [mem_ready] at hi
  obtain ⟨_, o, ho, hall⟩ := hi
  have hil : i < listed.size := by have := (Array.getElem?_eq_some_iff.1 ho).1; omega
  intro j oj hoj hj e he hb
  have key : listed.getD e.on false = true := by
    by_cases hji : j = i
    · subst hji
      rw [hoj] at ho
      obtain rfl := Option.some.inj ho
      exact hall e he hb
    · rw [getD_set_ne false (Ne.symm hji)] at hj
      exact h j oj hoj hj e he hb
  by_cases hei : e.on = i
  · rw [hei]; exact getD_set_same hil
  · rw [getD_set_ne false (Ne.symm hei)]; exact key

theorem only_all {k : Nat} (hk : onlyEnd ops k = true) {listed : Array Bool} (hs : listed.size = ops.size) (hr : Region.ready .any ops (listed.setIfInBounds k true) = []) :
    ∀ i, i < ops.size → i ≠ k → listed.getD i false = true := by
  obtain ⟨h1, h2, h3⟩ := onlyEnd_spec hk
  intro i
  induction i using Nat.strongRecOn with
  | ind i ih =>
    intro hi hik
    cases hl : listed.getD i false with
    | true => rfl
    | false =>
      exfalso
      have : i ∈ Region.ready .any ops (listed.setIfInBounds k true) := by
        rw [mem_ready]
        refine ⟨?_, ops[i], Array.getElem?_eq_getElem hi, fun e he hb => ?_⟩
        · rw [getD_set_ne true (Ne.symm hik)]
          have hil : i < listed.size := by omega
          simp [hil] at hl ⊢
          exact hl
        · obtain ⟨e1, e2, e3⟩ := h3 i _ (Array.getElem?_eq_getElem hi) e he hb
          rw [getD_set_ne false (Ne.symm e1)]
          exact ih e.on (e2 hik) e3 e1
      rw [hr] at this
      cases this
theorem only_ready {k : Nat} (hk : onlyEnd ops k = true) {listed : Array Bool} (hs : listed.size = ops.size) (hl : listed.getD k true = false) (hr : Region.ready .any ops (listed.setIfInBounds k true) = []) :
    k ∈ Region.ready .any ops listed := by
  obtain ⟨h1, h2, h3⟩ := onlyEnd_spec hk
  rw [mem_ready]
  refine ⟨hl, ops[k], Array.getElem?_eq_getElem h1, fun e he hb => ?_⟩
  obtain ⟨e1, _, e3⟩ := h3 k _ (Array.getElem?_eq_getElem h1) e he hb
  exact only_all hk hs hr e.on e3 e1
/-- Where k is ready all others are listed. -/
theorem end_all {k : Nat} (hk : onlyEnd ops k = true) {listed : Array Bool} (hc : Closed ops listed) (hr : k ∈ Region.ready .any ops listed) : ∀ (n i : Nat), ops.size - i ≤ n → i < ops.size → i ≠ k → listed.getD i false = true := by
  obtain ⟨h1, h2, h3⟩ := onlyEnd_spec hk
  rw [mem_ready] at hr
  obtain ⟨_, ok, hok, hall⟩ := hr
  intro n
  induction n with
  | zero => intro i h4 h5; omega
  | succ n ih =>
    intro i hn hi hik
    obtain ⟨s, o, ho, e, he, hb, heo⟩ := h2 i hi hik
    have hss : s < ops.size := (Array.getElem?_eq_some_iff.1 ho).1
    by_cases hsk : s = k
    · subst hsk
      rw [hok] at ho
      obtain rfl := Option.some.inj ho
      have := hall e he hb
      rwa [heo] at this
    · have hlt := (h3 s o ho e he hb).2.1 hsk
      rw [heo] at hlt
      have hl := ih s (by omega) hss hsk
      have := hc s o ho hl e he hb
      rwa [heo] at this

theorem wpAny_only {k : Nat} (hk : onlyEnd ops k = true) : ∀ (fuel : Nat) (listed : Array Bool) (a : Act) (w : World), listed.size = ops.size → listed.getD k true = false → Closed ops listed →
    wpAnyH P .any ops (ButLast P ops k Q) S fuel (listed.setIfInBounds k true) a w → wpAny P .any ops Q (fuel + 1) listed a w := by
  obtain ⟨h1, h2, h3⟩ := onlyEnd_spec hk
  have only : ∀ (listed : Array Bool), Region.ready .any ops (listed.setIfInBounds k true) = [] → ∀ i ∈ Region.ready .any ops listed, i = k := fun listed hr i hi => by
    by_cases hik : i = k
    · exact hik
    · have := ready_mono hi hik; rw [hr] at this; cases this
  intro fuel
  induction fuel with
  | zero =>
    intro listed a w hs hl hc H
    refine ⟨fun h0 => ?_, fun i hi => ?_⟩
    · have := only_ready hk hs hl H.1; rw [h0] at this; cases this
    · obtain rfl := only listed H.1 i hi
      exact wpOp_mono (fun a' w' hq => ⟨H.1, hq⟩) H.2
  | succ fuel ih =>
    intro listed a w hs hl hc H
    by_cases hr : Region.ready .any ops (listed.setIfInBounds k true) = []
    · refine ⟨fun h0 => ?_, fun i hi => ?_⟩
      · have := only_ready hk hs hl hr; rw [h0] at this; cases this
      · obtain rfl := only listed hr i hi
        exact wpOp_mono (fun a' w' hq => ⟨fun _ => hq, by rw [hr]; intro i hi; cases hi⟩) (H.1 hr)
    · have hnk : ∀ i ∈ Region.ready .any ops listed, i ≠ k := by
        rintro i hi rfl
        apply hr
        rw [List.eq_nil_iff_forall_not_mem]
        intro j hj
        rw [mem_ready] at hj
        obtain ⟨hj0, oj, hoj, _⟩ := hj
        have hjs : j < ops.size := (Array.getElem?_eq_some_iff.1 hoj).1
        by_cases hji : j = i
        · subst hji
          have : j < listed.size := by omega
          simp [this] at hj0
        · rw [getD_set_ne true (Ne.symm hji)] at hj0
          have h4 := end_all hk hc hi ops.size j (by omega) hjs hji
          have hjl : j < listed.size := by omega
          simp [hjl] at h4 hj0
          rw [hj0] at h4
          cases h4
      refine ⟨fun h0 => ?_, fun i hi => ?_⟩
      · exfalso
        obtain ⟨j, hj⟩ := List.exists_mem_of_ne_nil _ hr
        have : j ∈ Region.ready .any ops listed := by
          rw [mem_ready] at hj ⊢
          obtain ⟨hj0, oj, hoj, hall⟩ := hj
          have hjk : j ≠ k := by
            rintro rfl
            have : j < listed.size := by omega
            simp [this] at hj0
          rw [getD_set_ne true (Ne.symm hjk)] at hj0
          refine ⟨hj0, oj, hoj, fun e he hb => ?_⟩
          have h5 := hall e he hb
          rw [getD_set_ne false (Ne.symm (h3 j oj hoj e he hb).1)] at h5
          exact h5
        rw [h0] at this
        cases this
      · have hik := hnk i hi
        have hh := butLast_op (H.2 i (ready_mono hi hik))
        refine wpOp_mono (fun a' w' h' => ih (listed.setIfInBounds i true) a' w' (by simp [hs]) (by rw [getD_set_ne true hik]; exact hl) (hc.set hs hi) ?_) hh
        rw [Array.setIfInBounds_comm _ _ hik]
        exact h'.2

/-- A region whose last operation k is the only one that nobody waits for: the others under S, then k. -/
theorem wp_region_only {id k n : Nat} {a : Act} {w : World} (hm : P.follows .mixedOrders = true) (hk : (onlyEnd ops k && decide (ops.size = n + 1)) = true) (hS : S w.drew)
    (h : S w.drew → wpAnyH P .any ops (ButLast P ops k Q) S n ((Array.replicate ops.size false).setIfInBounds k true) a w.drew) : (Code.region id ops true).wp P Q a w := by
  rw [Bool.and_eq_true, decide_eq_true_eq] at hk
  refine wp_region_any hm ?_
  have hc : Closed ops (Array.replicate ops.size false) := fun i o ho hl => by
    have := (Array.getElem?_eq_some_iff.1 ho).1
    simp [this] at hl
  have := wpAny_only hk.1 n (Array.replicate ops.size false) a w.drew (by simp) (by have := (onlyEnd_spec hk.1).1; simp [this]) hc (h hS)
  rw [hk.2]
  rw [hk.2] at this
  exact this
end
end Go.Proofs.Ytpgcfnpnpmpkeaa
