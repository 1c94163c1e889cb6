/- Boxes of two cells that a region lays in whatever order: what stays so behind an alloc, a call that lets the world grow, and a store into one of them. -/
import Derived.Test.YtfpifbfnebfdaaaDoorH3
import Derived.Test.YtfpifbfnebfdaaaDoorR8
namespace Go.Proofs.YtfpifbfnebfdaaaDoor
open Go

/-- v points to a box of two cells, laid behind W, whose cells are p's. -/
def Bx (W w : World) (T : TypeId) (p : Value → Value → Prop) (v : Value) : Prop := ∃ b c0 c1, v = .pointer (some ⟨b, 0, none⟩) ∧ W.heap.size ≤ b ∧ w.heap[b]? = some (.cells #[c0, c1] T) ∧ p c0 c1
/-- v points to a box that holds c0 and c1. -/
def Hx (w : World) (T : TypeId) (v c0 c1 : Value) : Prop := ∃ b, v = .pointer (some ⟨b, 0, none⟩) ∧ w.heap[b]? = some (.cells #[c0, c1] T)
/-- The cells of a Big's box. -/
def bigCells (c0 c1 : Value) : Prop := ∃ (s : Bool) (a : Option Addr) (n c : Nat), c0 = .bool s ∧ c1 = .slice a n c
/-- The cells of a point's box. -/
def ptCells (c0 c1 : Value) : Prop := ∃ x y : Int, c0 = .int .i64 x ∧ c1 = .int .i64 y

section
variable {W w w' : World} {T : TypeId} {p : Value → Value → Prop} {u v : Value}
theorem IsGr.block (h : IsGr w w') {b : Nat} {o : Obj} (hb : w.heap[b]? = some o) : w'.heap[b]? = some o := by
  obtain ⟨os, n, rfl⟩ := h
  rw [Gr.heap_lt w os n b (Array.getElem?_eq_some_iff.1 hb).1]
  exact hb
theorem Bx.gr (h : Bx W w T p v) (hg : IsGr w w') : Bx W w' T p v := by
  obtain ⟨b, c0, c1, h1, h2, h3, h4⟩ := h
  exact ⟨b, c0, c1, h1, h2, hg.block h3, h4⟩
theorem Hx.gr {c0 c1 : Value} (h : Hx w T v c0 c1) (hg : IsGr w w') : Hx w' T v c0 c1 := by
  obtain ⟨b, h1, h2⟩ := h
  exact ⟨b, h1, hg.block h2⟩
theorem Bx.lay (hg : IsGr W w) {c0 c1 : Value} (h : p c0 c1) : Bx W (w.alloc (.cells #[c0, c1] T)) T p (.pointer (some ⟨w.heap.size, 0, none⟩)) :=
  ⟨w.heap.size, c0, c1, rfl, hg.size, by show (w.heap.push _)[w.heap.size]? = _; simp, h⟩
theorem Bx.ne (h : Bx W w T p v) : v ≠ .pointer (some ⟨w.heap.size, 0, none⟩) := by
  obtain ⟨b, c0, c1, h1, h2, h3, h4⟩ := h
  have := (Array.getElem?_eq_some_iff.1 h3).1
  rintro rfl
  injection h1 with h1
  injection h1 with h1
  injection h1 with h1
  omega
/-- A store into the two cells of a box. -/
def put2 (w : World) (b : Nat) (c0 c1 : Value) : World := (w.setCell ⟨b, 0, none⟩ c0).setCell ⟨b, 1, none⟩ c1
theorem put2_block {b g : Nat} {d0 d1 c0 c1 : Value} (hb : w.heap[b]? = some (.cells #[d0, d1] T)) : (put2 w b c0 c1).heap[g]? = if g = b then some (.cells #[c0, c1] T) else w.heap[g]? := by
  have hl := (Array.getElem?_eq_some_iff.1 hb).1
  have he := (Array.getElem?_eq_some_iff.1 hb).2
  unfold put2
  simp only [World.setCell, Option.isSome_none, Bool.false_eq_true, if_false]
  by_cases h : g = b
  · subst h; simp [Array.getElem?_modify, hb]
  · have : b ≠ g := Ne.symm h
    simp [Array.getElem?_modify, h, this]
theorem put2_gr {b : Nat} {c0 c1 : Value} (hg : IsGr W w) (hW : W.heap.size ≤ b) : IsGr W (put2 w b c0 c1) :=
  IsGr.of_below (Go.RowKit.Below.setCell (Go.RowKit.Below.setCell hg.below (by simpa using hW) _) (by simpa using hW) _)
theorem put2_bx {b : Nat} {d0 d1 c0 c1 : Value} (hb : w.heap[b]? = some (.cells #[d0, d1] T)) (hp : p c0 c1) (h : Bx W w T p u) : Bx W (put2 w b c0 c1) T p u := by
  obtain ⟨g, e0, e1, h1, h2, h3, h4⟩ := h
  by_cases hgb : g = b
  · exact ⟨g, c0, c1, h1, h2, by rw [put2_block hb, if_pos hgb], hp⟩
  · exact ⟨g, e0, e1, h1, h2, by rw [put2_block hb, if_neg hgb]; exact h3, h4⟩
theorem put2_hx {b : Nat} {d0 d1 c0 c1 e0 e1 : Value} (hb : w.heap[b]? = some (.cells #[d0, d1] T)) (h : Hx w T u e0 e1) (hn : u ≠ .pointer (some ⟨b, 0, none⟩)) : Hx (put2 w b c0 c1) T u e0 e1 := by
  obtain ⟨g, h1, h3⟩ := h
  have hgb : g ≠ b := by rintro rfl; exact hn h1
  exact ⟨g, h1, by rw [put2_block hb, if_neg hgb]; exact h3⟩
theorem put2_new {b : Nat} {d0 d1 c0 c1 : Value} (hb : w.heap[b]? = some (.cells #[d0, d1] T)) : Hx (put2 w b c0 c1) T (.pointer (some ⟨b, 0, none⟩)) c0 c1 :=
  ⟨b, rfl, by rw [put2_block hb, if_pos rfl]⟩
theorem put2_kb {b : Nat} {d0 d1 c0 c1 : Value} (hb : w.heap[b]? = some (.cells #[d0, d1] T)) (hd : bigCells d0 d1) : Kb w (put2 w b c0 c1) := by
  refine ⟨by simp [put2], fun g o n e => ?_⟩
  have : g ≠ b := by
    rintro rfl
    obtain ⟨s, a, k, c, rfl, rfl⟩ := hd
    simp only [World.cell?, hb] at e
    match o with
    | 0 => simp at e
    | 1 => simp at e
    | m + 2 => simp at e
  simp only [World.cell?] at e ⊢
  rw [put2_block hb, if_neg this]
  exact e
theorem block_cells {b : Nat} {c0 c1 : Value} (hb : w.heap[b]? = some (.cells #[c0, c1] T)) : b < w.heap.size ∧ w.cell? ⟨b, 0, none⟩ = some c0 ∧ w.cell? ⟨b, 1, none⟩ = some c1 ∧ w.frozen? ⟨b, 0, none⟩ = false ∧ w.frozen? ⟨b, 1, none⟩ = false := by
  refine ⟨(Array.getElem?_eq_some_iff.1 hb).1, ?_, ?_, ?_, ?_⟩ <;> simp [World.cell?, World.frozen?, hb]
end
end Go.Proofs.YtfpifbfnebfdaaaDoor
