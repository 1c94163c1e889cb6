/- Boxes that hold numbers of package gromaref01. -/
import Derived.Test.YtfpifbfnebfdaaaDoorH4
namespace Go.Proofs.YtfpifbfnebfdaaaDoor
open Go.RowKit

/-- A box with a Big in it. -/
def BigAt (w : World) (v : Value) (z : Int) : Prop := ∃ (g : Nat) (s : Bool) (a : Option Addr) (k c : Nat), v = .pointer (some ⟨g, 0, none⟩) ∧ g < w.heap.size ∧ w.cell? ⟨g, 0, none⟩ = some (.bool s) ∧ w.cell? ⟨g, 1, none⟩ = some (.slice a k c) ∧ IsBig w (.agg #[.bool s, .slice a k c]) z
theorem BigAt.of {w : World} {T : TypeId} {v x : Value} {z : Int} (h : ∃ c0 c1 : Value, x = .agg #[c0, c1] ∧ Hx w T v c0 c1) (hx : IsBig w x z) : BigAt w v z := by
  obtain ⟨c0, c1, rfl, b, rfl, hb⟩ := h
  obtain ⟨s, a, k, c, he⟩ := hx.shape
  simp at he
  obtain ⟨rfl, rfl⟩ := he
  obtain ⟨k1, k2, k3, _, _⟩ := block_cells hb
  exact ⟨b, s, a, k, c, rfl, k1, k2, k3, hx⟩
theorem big_cells {w : World} {v : Value} {z : Int} (h : IsBig w v z) : ∃ z0 z1 : Value, v = .agg #[z0, z1] ∧ bigCells z0 z1 := by
  obtain ⟨s, a, k, c, rfl⟩ := h.shape
  exact ⟨_, _, rfl, s, a, k, c, rfl, rfl⟩

theorem BigSame_any (u v : Value) (x : Int) (w : World) (hu : IsBig w u x) (hv : IsBig w v x) (sx : Sm x) :
    Calls Tryd.prog 15 #[u, v] w fun e w' => e = .returned (.int .i64 0) ∧ IsGr w w' := by
  have := BigCmp_any u v x x w hu hv sx sx
  rwa [cmpI_eq rfl] at this


/-- A box of its own, laid behind W, with a Big in it. -/
def BigBx (W w : World) (v : Value) (z : Int) : Prop := ∃ (g : Nat) (s : Bool) (a : Option Addr) (k c : Nat), v = .pointer (some ⟨g, 0, none⟩) ∧ W.heap.size ≤ g ∧ w.heap[g]? = some (.cells #[.bool s, .slice a k c] 29) ∧ IsBig w (.agg #[.bool s, .slice a k c]) z
theorem BigBx.of {W w : World} {v x : Value} {z : Int} (hb : Bx W w 29 bigCells v) (h : ∃ c0 c1 : Value, x = .agg #[c0, c1] ∧ Hx w 29 v c0 c1) (hx : IsBig w x z) : BigBx W w v z := by
  obtain ⟨c0, c1, rfl, b, rfl, hh⟩ := h
  obtain ⟨g, d0, d1, he, hW, _, _⟩ := hb
  obtain ⟨s, a, k, c, e⟩ := hx.shape
  simp at e
  obtain ⟨rfl, rfl⟩ := e
  simp at he
  subst he
  exact ⟨b, s, a, k, c, rfl, hW, hh, hx⟩
end Go.Proofs.YtfpifbfnebfdaaaDoor
