/- Worlds that have grown: new blocks laid behind all others, draws made, nothing else turned. -/
import Derived.WalkKit
import Derived.Deep.Draws
import Derived.Sort.Grow
namespace Go.Proofs.YtfpifbfnebfdaaaDoor
open Go.RowKit

/-- W with the blocks os behind its heap, and n draws made in all. -/
def Gr (W : World) (os : Array Obj) (n : Nat) : World := { W with heap := W.heap ++ os, drawn := n }
/-- w' is w, grown. -/
def IsGr (w w' : World) : Prop := ∃ os n, w' = Gr w os n

theorem Gr.size (W : World) (os : Array Obj) (n : Nat) : (Gr W os n).heap.size = W.heap.size + os.size := by simp [Gr]
theorem Gr.heap_lt (W : World) (os : Array Obj) (n k : Nat) (h : k < W.heap.size) : (Gr W os n).heap[k]? = W.heap[k]? := by
  simp [Gr, Array.getElem?_append, h]
theorem Gr.cell? (W : World) (os : Array Obj) (n b o : Nat) (h : b < W.heap.size) : (Gr W os n).cell? ⟨b, o, none⟩ = W.cell? ⟨b, o, none⟩ :=
  World.cell?_of_block (w := W) (Gr.heap_lt W os n b h)
theorem Gr.frozen? (W : World) (os : Array Obj) (n b o : Nat) (h : b < W.heap.size) : (Gr W os n).frozen? ⟨b, o, none⟩ = W.frozen? ⟨b, o, none⟩ :=
  World.frozen?_of_block (w := W) (Gr.heap_lt W os n b h)
theorem Gr.setCell (W : World) (os : Array Obj) (n b o : Nat) (v : Value) (h : b < W.heap.size) : (Gr W os n).setCell ⟨b, o, none⟩ v = Gr (W.setCell ⟨b, o, none⟩ v) os n := by
  simp only [Gr, World.setCell]
  congr 1
  exact Go.Sort.modify_append_left _ _ _ _ h
theorem Gr.drew (W : World) (os : Array Obj) (n : Nat) : (Gr W os n).drew = Gr W os (n + 1) := rfl
theorem Gr.drewN (W : World) (os : Array Obj) (n k : Nat) : (Gr W os n).drewN k = Gr W os (n + k) := rfl
theorem Gr.of_drew (W : World) (os : Array Obj) (n : Nat) : Gr W.drew os n = Gr W os n := rfl
theorem Gr.of_drewN (W : World) (os : Array Obj) (n k : Nat) : Gr (W.drewN k) os n = Gr W os n := rfl
theorem Gr.gr (W : World) (os os' : Array Obj) (n n' : Nat) : Gr (Gr W os n) os' n' = Gr W (os ++ os') n' := by simp [Gr, Array.append_assoc]
theorem Gr.nil (W : World) : W = Gr W #[] W.drawn := by cases W; simp [Gr]
theorem Gr.alloc (W : World) (os : Array Obj) (n : Nat) (o : Obj) : (Gr W os n).alloc o = Gr W (os.push o) n := by simp [Gr, World.alloc]
theorem Gr.lt_of1 (a b c1 : Nat) (h : a < b) : (a < b + c1) = True := by simp; omega
theorem Gr.le_of1 (a b c1 : Nat) (h : a ≤ b) : (a ≤ b + c1) = True := by simp; omega
theorem Gr.lt_of2 (a b c1 c2 : Nat) (h : a < b) : (a < b + c1 + c2) = True := by simp; omega
theorem Gr.le_of2 (a b c1 c2 : Nat) (h : a ≤ b) : (a ≤ b + c1 + c2) = True := by simp; omega
theorem Gr.lt_of3 (a b c1 c2 c3 : Nat) (h : a < b) : (a < b + c1 + c2 + c3) = True := by simp; omega
theorem Gr.le_of3 (a b c1 c2 c3 : Nat) (h : a ≤ b) : (a ≤ b + c1 + c2 + c3) = True := by simp; omega
theorem Gr.lt_of4 (a b c1 c2 c3 c4 : Nat) (h : a < b) : (a < b + c1 + c2 + c3 + c4) = True := by simp; omega
theorem Gr.le_of4 (a b c1 c2 c3 c4 : Nat) (h : a ≤ b) : (a ≤ b + c1 + c2 + c3 + c4) = True := by simp; omega
theorem Gr.lt_of5 (a b c1 c2 c3 c4 c5 : Nat) (h : a < b) : (a < b + c1 + c2 + c3 + c4 + c5) = True := by simp; omega
theorem Gr.le_of5 (a b c1 c2 c3 c4 c5 : Nat) (h : a ≤ b) : (a ≤ b + c1 + c2 + c3 + c4 + c5) = True := by simp; omega
theorem Gr.lt_of6 (a b c1 c2 c3 c4 c5 c6 : Nat) (h : a < b) : (a < b + c1 + c2 + c3 + c4 + c5 + c6) = True := by simp; omega
theorem Gr.le_of6 (a b c1 c2 c3 c4 c5 c6 : Nat) (h : a ≤ b) : (a ≤ b + c1 + c2 + c3 + c4 + c5 + c6) = True := by simp; omega
theorem Gr.lt_of7 (a b c1 c2 c3 c4 c5 c6 c7 : Nat) (h : a < b) : (a < b + c1 + c2 + c3 + c4 + c5 + c6 + c7) = True := by simp; omega
theorem Gr.le_of7 (a b c1 c2 c3 c4 c5 c6 c7 : Nat) (h : a ≤ b) : (a ≤ b + c1 + c2 + c3 + c4 + c5 + c6 + c7) = True := by simp; omega
theorem Gr.lt_of8 (a b c1 c2 c3 c4 c5 c6 c7 c8 : Nat) (h : a < b) : (a < b + c1 + c2 + c3 + c4 + c5 + c6 + c7 + c8) = True := by simp; omega
theorem Gr.le_of8 (a b c1 c2 c3 c4 c5 c6 c7 c8 : Nat) (h : a ≤ b) : (a ≤ b + c1 + c2 + c3 + c4 + c5 + c6 + c7 + c8) = True := by simp; omega

theorem IsGr.refl (w : World) : IsGr w w := ⟨#[], w.drawn, Gr.nil w⟩
theorem IsGr.alloc {w w' : World} (h : IsGr w w') (o : Obj) : IsGr w (w'.alloc o) := by
  obtain ⟨os, n, rfl⟩ := h; exact ⟨_, _, Gr.alloc _ _ _ _⟩
theorem IsGr.drew {w w' : World} (h : IsGr w w') : IsGr w w'.drew := by
  obtain ⟨os, n, rfl⟩ := h; exact ⟨_, _, Gr.drew _ _ _⟩
theorem IsGr.drewN {w w' : World} (h : IsGr w w') (k : Nat) : IsGr w (w'.drewN k) := by
  obtain ⟨os, n, rfl⟩ := h; exact ⟨_, _, Gr.drewN _ _ _ _⟩
theorem IsGr.gr {w w' : World} (h : IsGr w w') (os : Array Obj) (n : Nat) : IsGr w (Gr w' os n) := by
  obtain ⟨os', n', rfl⟩ := h; exact ⟨_, _, Gr.gr _ _ _ _ _⟩
theorem IsGr.trans {w w' w'' : World} (h : IsGr w w') (k : IsGr w' w'') : IsGr w w'' := by
  obtain ⟨os', n', rfl⟩ := k; exact h.gr _ _
theorem IsGr.below {w w' : World} (h : IsGr w w') : Below w.heap.size w w' := by
  obtain ⟨os, n, rfl⟩ := h
  exact ⟨rfl, rfl, rfl, by rw [Gr.size]; omega, fun k hk => Gr.heap_lt _ _ _ _ hk⟩
theorem IsGr.of_below {w w' : World} (h : Below w.heap.size w w') : IsGr w w' := by
  refine ⟨w'.heap.extract w.heap.size w'.heap.size, w'.drawn, ?_⟩
  have hh : w'.heap = w.heap ++ w'.heap.extract w.heap.size w'.heap.size := by
    apply Array.ext_getElem?
    intro k
    rw [Array.getElem?_append]
    by_cases hk : k < w.heap.size
    · rw [if_pos hk]; exact h.block k hk
    · rw [if_neg hk, Array.getElem?_extract]
      have hs := h.size
      by_cases h2 : k < w'.heap.size
      · rw [if_pos (by omega)]; congr 1; omega
      · rw [if_neg (by omega)]; exact Array.getElem?_eq_none (by omega)
  have h1 := h.os; have h2 := h.tape; have h3 := h.output
  cases w' with
  | mk heap tape drawn os output =>
    simp only at h1 h2 h3 hh
    subst h1 h2 h3
    simp only [Gr]
    congr 1
theorem IsGr.size {w w' : World} (h : IsGr w w') : w.heap.size ≤ w'.heap.size := h.below.size
end Go.Proofs.YtfpifbfnebfdaaaDoor
