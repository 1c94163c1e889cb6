/- Worlds that hold all ints that another one holds: what has been read of digits stays. -/
import Derived.Test.YtfpifbfnebfdaaaDoorR7
namespace Go.Proofs.YtfpifbfnebfdaaaDoor
open Go.RowKit
attribute [local go_sem] Gr.size Gr.cell? Gr.frozen? Gr.setCell Gr.drew Gr.drewN Gr.of_drew Gr.of_drewN Gr.gr Gr.lt_of1 Gr.le_of1 Gr.lt_of2 Gr.le_of2 Gr.lt_of3 Gr.le_of3 Gr.lt_of4 Gr.le_of4 Gr.lt_of5 Gr.le_of5 Gr.lt_of6 Gr.le_of6 Gr.lt_of7 Gr.le_of7 Gr.lt_of8 Gr.le_of8

/-- W' holds each int that W holds, at its place. -/
def Kb (W W' : World) : Prop := W.heap.size ≤ W'.heap.size ∧ ∀ g o n, W.cell? ⟨g, o, none⟩ = some (.int .i64 n) → W'.cell? ⟨g, o, none⟩ = some (.int .i64 n)

theorem Digs.kb {W W' : World} {v : Value} {ds : List Int} (h : Digs W v ds) (hk : Kb W W') : Digs W' v ds := by
  obtain ⟨a, c, h1, h2, h3, h4⟩ := h
  refine ⟨a, c, h1, h2, h3, ?_⟩
  rcases h4 with h4 | ⟨g, o, rfl, h5, h6⟩
  · exact Or.inl h4
  · exact Or.inr ⟨g, o, rfl, by have := hk.1; omega, fun i hi => hk.2 _ _ _ (h6 i hi)⟩
theorem IsBig.kb {W W' : World} {v : Value} {z : Int} (h : IsBig W v z) (hk : Kb W W') : IsBig W' v z := by
  obtain ⟨s, d, ds, h1, h2, h3⟩ := h; exact ⟨s, d, ds, h1, h2.kb hk, h3⟩

theorem cell_lt {W : World} {g o : Nat} {v : Value} (h : W.cell? ⟨g, o, none⟩ = some v) : g < W.heap.size := by
  rcases Nat.lt_or_ge g W.heap.size with h' | h'
  · exact h'
  · simp [World.cell?, Array.getElem?_eq_none h'] at h

theorem Kb.refl (W : World) : Kb W W := ⟨Nat.le_refl _, fun _ _ _ h => h⟩
theorem Kb.trans {A B C : World} (h : Kb A B) (k : Kb B C) : Kb A C := ⟨Nat.le_trans h.1 k.1, fun g o n e => k.2 g o n (h.2 g o n e)⟩
theorem Kb.of_gr {A B : World} (h : IsGr A B) : Kb A B := ⟨h.size, fun g o _ e => (h.below.cell (p := ⟨g, o, none⟩) (cell_lt e)).trans e⟩
theorem Kb.drew_l {A B : World} (h : Kb A B) : Kb A.drew B := h
theorem Kb.drew_r {A B : World} (h : Kb A B) : Kb A B.drew := h
theorem Kb.grow {A B : World} (h : Kb A B) (os : Array Obj) (n : Nat) : Kb A (Gr B os n) := h.trans (Kb.of_gr ((IsGr.refl _).gr os n))
theorem Kb.lay {A B : World} (h : Kb A B) (o : Obj) : Kb A (B.alloc o) := h.trans (Kb.of_gr ((IsGr.refl _).alloc o))

theorem cell_gr_ge {W : World} {os : Array Obj} {n g o : Nat} (h : W.heap.size ≤ g) : (Gr W os n).cell? ⟨g, o, none⟩ = (match os[g - W.heap.size]? with | some (.cells c _ _) => c[o]? | _ => none) := by
  simp [World.cell?, Gr, Array.getElem?_append, Nat.not_lt.2 h]
  rfl
theorem cell_alloc_ge {W : World} {ob : Obj} {g o : Nat} (h : W.heap.size ≤ g) : (W.alloc ob).cell? ⟨g, o, none⟩ = if g = W.heap.size then (match ob with | .cells c _ _ => c[o]? | _ => none) else none := by
  unfold World.cell?
  show (match (W.heap.push ob)[g]? with | some (.cells c _ _) => _ | _ => none) = _
  rw [Array.getElem?_push]
  by_cases e : g = W.heap.size
  · simp [e]; cases ob <;> rfl
  · simp [e, Array.getElem?_eq_none (show W.heap.size ≤ g from h)]

/-- The same new blocks behind both, and more behind the second. -/
theorem Kb.gr_app {A B : World} (h : Kb A B) (hs : A.heap.size = B.heap.size) (os os' : Array Obj) (n n' : Nat) : Kb (Gr A os n) (Gr B (os ++ os') n') := by
  refine ⟨by simp [Gr.size, hs], fun g o k e => ?_⟩
  by_cases hg : g < A.heap.size
  · rw [Gr.cell? _ _ _ _ _ hg] at e
    rw [Gr.cell? _ _ _ _ _ (by omega)]
    exact h.2 _ _ _ e
  · have hlt := cell_lt e
    rw [Gr.size] at hlt
    rw [cell_gr_ge (by omega)] at e
    rw [cell_gr_ge (by omega), ← hs, Array.getElem?_append, if_pos (by omega)]
    exact e
theorem Kb.gr {A B : World} (h : Kb A B) (hs : A.heap.size = B.heap.size) (os : Array Obj) (n n' : Nat) : Kb (Gr A os n) (Gr B os n') := by
  have := h.gr_app hs os #[] n n'
  simpa using this
theorem Kb.alloc {A B : World} (h : Kb A B) (hs : A.heap.size = B.heap.size) (ob : Obj) : Kb (A.alloc ob) (B.alloc ob) := by
  refine ⟨by simp [hs], fun g o k e => ?_⟩
  by_cases hg : g < A.heap.size
  · rw [World.cell?_alloc_past _ _ _ hg] at e
    rw [World.cell?_alloc_past _ _ _ (by omega)]
    exact h.2 _ _ _ e
  · rw [cell_alloc_ge (by omega)] at e
    rw [cell_alloc_ge (by omega), ← hs]
    exact e
/-- A box of a Big holds no int: it may be filled otherwise. -/
theorem Kb.box {A B : World} (h : Kb A B) (hs : A.heap.size = B.heap.size) (s s' : Bool) (a a' : Option Addr) (k k' c c' : Nat) (T : TypeId) : Kb (A.alloc (.cells #[.bool s, .slice a k c] T)) (B.alloc (.cells #[.bool s', .slice a' k' c'] T)) := by
  refine ⟨by simp [hs], fun g o n e => ?_⟩
  by_cases hg : g < A.heap.size
  · rw [World.cell?_alloc_past _ _ _ hg] at e
    rw [World.cell?_alloc_past _ _ _ (by omega)]
    exact h.2 _ _ _ e
  · exfalso
    rw [cell_alloc_ge (by omega)] at e
    split at e
    · match o with
      | 0 => simp at e
      | 1 => simp at e
      | m + 2 => simp at e
    · cases e
end Go.Proofs.YtfpifbfnebfdaaaDoor
