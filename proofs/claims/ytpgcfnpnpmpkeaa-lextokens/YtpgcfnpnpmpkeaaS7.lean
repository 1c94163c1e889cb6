/- What a round of a range over a function must keep: some blocks, as they were. -/
import Derived.Test.YtpgcfnpnpmpkeaaS5
namespace Go.Proofs.Ytpgcfnpnpmpkeaa
open Go.RowKit Go.Shelf
/-- These blocks are as they were. -/
def KpZ (Z : List Nat) (A B : World) : Prop := A.heap.size ≤ B.heap.size ∧ ∀ b ∈ Z, B.heap[b]? = A.heap[b]?
theorem KpZ.refl (Z : List Nat) (A : World) : KpZ Z A A := ⟨Nat.le_refl _, fun _ _ => rfl⟩
theorem KpZ.trans {Z : List Nat} {A B C : World} (h : KpZ Z A B) (k : KpZ Z B C) : KpZ Z A C := ⟨Nat.le_trans h.1 k.1, fun b hb => (k.2 b hb).trans (h.2 b hb)⟩
theorem KpZ.putObj {Z : List Nat} {N : Nat} (hZ : ∀ b ∈ Z, b < N) (W : World) (l : Nat) (o : Obj) (hl : N ≤ l) : KpZ Z W (W.putObj l o) :=
  ⟨by simp, fun b hb => World.putObj_heap_other (by have := hZ b hb; omega)⟩
theorem KpZ.of_wr {Z S : List Nat} {A B : World} (h : Wr S A B) (hS : ∀ b ∈ S, b ∉ Z) (hZ : ∀ b ∈ Z, b < A.heap.size) : KpZ Z A B :=
  ⟨h.size, fun b hb => h.block b (hZ b hb) (fun hm => hS b hm hb)⟩
theorem KpZ.of_gr {Z : List Nat} {A B : World} (h : IsGr A B) (hZ : ∀ b ∈ Z, b < A.heap.size) : KpZ Z A B := ⟨h.size, fun b hb => h.below.block b (hZ b hb)⟩
theorem KpZ.mono {Z Z' : List Nat} {A B : World} (h : KpZ Z A B) (hz : ∀ b ∈ Z', b ∈ Z) : KpZ Z' A B := ⟨h.1, fun b hb => h.2 b (hz b hb)⟩
theorem KpZ.cell {Z : List Nat} {A B : World} (h : KpZ Z A B) {a : Addr} {v : Value} (hc : A.cell? a = some v) (hz : a.block ∈ Z) : B.cell? a = some v := by
  unfold World.cell? at *
  rw [h.2 _ hz]; exact hc
theorem KpZ.frozen {Z : List Nat} {A B : World} (h : KpZ Z A B) {a : Addr} (hc : A.frozen? a = false) (hz : a.block ∈ Z) : B.frozen? a = false := by
  unfold World.frozen? at *
  rw [h.2 _ hz]; exact hc
theorem kept2_gr (B : Nat) : Kept2 B IsGr := fun _ _ h k _ hs => h.below.block k hs
end Go.Proofs.Ytpgcfnpnpmpkeaa
