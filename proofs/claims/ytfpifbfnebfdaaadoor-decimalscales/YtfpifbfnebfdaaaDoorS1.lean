/- Worlds that differ at some blocks alone; cells of blocks; the order of ints by keys. -/
import Derived.Test.YtfpifbfnebfdaaaDoorG2
import Derived.Test.YtfpifbfnebfdaaaDoorG3
import Derived.Test.YtfpifbfnebfdaaaDoorProg
import Derived.Shelf.Abstract
import Derived.RangeFuncFrom
import Derived.RangeFuncBound
namespace Go.Proofs.YtfpifbfnebfdaaaDoor
open Go.RowKit Go.Shelf
/-- Nothing but the blocks S, and new ones, has turned. -/
structure Wr (S : List Nat) (w w' : World) : Prop where
  os : w'.os = w.os
  tape : w'.tape = w.tape
  output : w'.output = w.output
  size : w.heap.size ≤ w'.heap.size
  block : ∀ k, k < w.heap.size → k ∉ S → w'.heap[k]? = w.heap[k]?

theorem Wr.refl (S : List Nat) (w : World) : Wr S w w := ⟨rfl, rfl, rfl, Nat.le_refl _, fun _ _ _ => rfl⟩
theorem Wr.gr {S : List Nat} {w w' w'' : World} (h : Wr S w w') (hg : IsGr w' w'') : Wr S w w'' := by
  obtain ⟨h1, h2, h3, h4, h5⟩ := hg.below
  exact ⟨h1.trans h.os, h2.trans h.tape, h3.trans h.output, Nat.le_trans h.size h4, fun k hk hn => (h5 k (Nat.lt_of_lt_of_le hk h.size)).trans (h.block k hk hn)⟩
theorem Wr.of_gr {S : List Nat} {w w' : World} (h : IsGr w w') : Wr S w w' := (Wr.refl S w).gr h
theorem Wr.trans {S S' : List Nat} {w w' w'' : World} (h : Wr S w w') (k : Wr S' w' w'') (hs : ∀ b ∈ S', b < w.heap.size → b ∈ S) : Wr S w w'' :=
  ⟨k.os.trans h.os, k.tape.trans h.tape, k.output.trans h.output, Nat.le_trans h.size k.size, fun j hj hn => (k.block j (Nat.lt_of_lt_of_le hj h.size) (fun hm => hn (hs j hm hj))).trans (h.block j hj hn)⟩
theorem Wr.mono {S S' : List Nat} {w w' : World} (h : Wr S w w') (hs : ∀ b ∈ S, b ∈ S') : Wr S' w w' :=
  ⟨h.os, h.tape, h.output, h.size, fun k hk hn => h.block k hk (fun hm => hn (hs k hm))⟩
theorem set_block (w : World) (b o : Nat) (x : Value) (k : Nat) (h : k ≠ b) : (w.setCell ⟨b, o, none⟩ x).heap[k]? = w.heap[k]? := by
  simp only [World.setCell]
  rw [Array.getElem?_modify, if_neg (fun e => h e.symm)]
theorem set_size (w : World) (b o : Nat) (x : Value) : (w.setCell ⟨b, o, none⟩ x).heap.size = w.heap.size := by simp [World.setCell]
theorem Wr.set {S : List Nat} {w w' : World} (h : Wr S w w') (b o : Nat) (x : Value) (hb : b ∈ S ∨ w.heap.size ≤ b) : Wr S w (w'.setCell ⟨b, o, none⟩ x) :=
  ⟨h.os, h.tape, h.output, by rw [set_size]; exact h.size, fun k hk hn => by
    have hne : k ≠ b := by
      intro e
      subst e
      rcases hb with h1 | h1
      · exact hn h1
      · omega
    rw [set_block _ _ _ _ _ hne]
    exact h.block k hk hn⟩
theorem Wr.drew {S : List Nat} {w w' : World} (h : Wr S w w') : Wr S w w'.drew := h.gr ((IsGr.refl _).drew)
theorem Wr.below {S : List Nat} {w w' : World} (h : Wr S w w') {n : Nat} (hn : n ≤ w.heap.size) (hS : ∀ b ∈ S, n ≤ b) : Below n w w' :=
  ⟨h.os, h.tape, h.output, h.size, fun k hk => h.block k (by omega) (fun hm => by have := hS k hm; omega)⟩

theorem ret_i5 {a b : Int} (h : a = b) : Ending.returned (.int .i64 a) = Ending.returned (.int .i64 b) := by rw [h]
theorem ret_b5 {a b : Bool} (h : a = b) : Ending.returned (.bool a) = Ending.returned (.bool b) := by rw [h]
/-- m is the number n. -/
def Dp (m : Int) (n : Nat) : Prop := m = (n : Int)
/-- m is z. -/
def Dm (m z : Int) : Prop := m = z
theorem Dm.lt {m z k : Int} (h : Dm m z) (hz : z < k) : decide (m < k) = true := decide_eq_true (by unfold Dm at h; omega)
theorem Dm.ge {m z k : Int} (h : Dm m z) (hz : k ≤ z) : decide (m < k) = false := decide_eq_false (by unfold Dm at h; omega)
/-- An int. -/
def I64 (z : Int) : Prop := -9223372036854775808 ≤ z ∧ z < 9223372036854775808
/-- m tells how x stands to y. -/
def Sg (m x y : Int) : Prop := (m < 0 ↔ x < y) ∧ (0 < m ↔ y < x)
/-- Function f is the order by the keys k. -/
def Ordr (f : Nat) (k : Int → Int) : Prop := Enters Tryd.prog f ∧ ∀ (a b : Int) (w : World), I64 a → I64 b → Calls Tryd.prog f #[.int .i64 a, .int .i64 b] w fun e w' => ∃ m, Sg m (k a) (k b) ∧ e = .returned (.int .i64 m) ∧ IsGr w w'
theorem Sg.cases {m x y : Int} (h : Sg m x y) : (x < y → decide (m < 0) = true) ∧ (x = y → decide (m < 0) = false ∧ decide (0 < m) = false) ∧ (y < x → decide (m < 0) = false ∧ decide (0 < m) = true) := by
  unfold Sg at h
  refine ⟨fun h1 => decide_eq_true (by omega), fun h1 => ⟨decide_eq_false (by omega), decide_eq_false (by omega)⟩, fun h1 => ⟨decide_eq_false (by omega), decide_eq_true (by omega)⟩⟩
theorem Wr.of_below {w w' : World} (h : Below w.heap.size w w') : Wr [] w w' := by
  obtain ⟨h1, h2, h3, h4, h5⟩ := h
  exact ⟨h1, h2, h3, h4, fun k hk _ => h5 k hk⟩
theorem cell_box {W : World} {B : Nat} {v : Value} {t : TypeId} (h : W.heap[B]? = some (.cells #[v] t (0, 0))) : W.cell? ⟨B, 0, none⟩ = some v ∧ W.frozen? ⟨B, 0, none⟩ = false := by
  constructor <;> simp [World.cell?, World.frozen?, h]
theorem cell_new (W : World) (v : Value) (t : TypeId) : (W.alloc (.cells #[v] t)).cell? ⟨W.heap.size, 0, none⟩ = some v ∧ (W.alloc (.cells #[v] t)).frozen? ⟨W.heap.size, 0, none⟩ = false :=
  cell_box (World.alloc_heap_new W _)
theorem cell_past {W : World} {a : Addr} {v : Value} (o : Obj) (h : W.cell? a = some v) : (W.alloc o).cell? a = some v := cell_kept h (World.grownBy_alloc W o none) (fun r e => by cases e)
theorem frozen_past {W : World} {a : Addr} {v : Value} (o : Obj) (h : W.cell? a = some v) (hf : W.frozen? a = false) : (W.alloc o).frozen? a = false := (frozen_kept h (World.grownBy_alloc W o none) (fun r e => by cases e)).trans hf
theorem block_lt {W : World} {a : Addr} {v : Value} (h : W.cell? a = some v) : a.block < W.heap.size := by
  unfold World.cell? at h
  cases hb : W.heap[a.block]? with
  | none => rw [hb] at h; cases h
  | some o => exact (Array.getElem?_eq_some_iff.1 hb).1
theorem cellk {W W' : World} {a : Addr} {v : Value} (h : W.cell? a = some v) (hg : IsGr W W') : W'.cell? a = some v := (hg.below.cell (p := a) (block_lt h)).trans h
theorem frzk {W W' : World} {a : Addr} {v : Value} (h : W.cell? a = some v) (hf : W.frozen? a = false) (hg : IsGr W W') : W'.frozen? a = false := (hg.below.frozen (p := a) (block_lt h)).trans hf
theorem keeps_gr {W W' : World} (hg : IsGr W W') : KeepsOthers W W' := ⟨hg.size, fun k _ hk _ => (hg.below.block k (Array.getElem?_eq_some_iff.1 hk).1).trans hk⟩
theorem cell_o (W : World) {a b : Nat} (o : Nat) (v : Value) (h : a ≠ b) : (W.setCell ⟨a, o, none⟩ v).cell? ⟨b, 0, none⟩ = W.cell? ⟨b, 0, none⟩ := by
  unfold World.cell?
  simp only
  rw [set_block _ _ _ _ _ (Ne.symm h)]
theorem cell_s {W : World} {a : Nat} {v u : Value} (h : W.cell? ⟨a, 0, none⟩ = some u) : (W.setCell ⟨a, 0, none⟩ v).cell? ⟨a, 0, none⟩ = some v := World.cell?_setCell_same' _ _ _ (by rw [h]; rfl)
theorem Wr.below' {S : List Nat} {w w' : World} {n : Nat} (h : Wr S w w') (hn : n ≤ w.heap.size) (hS : ∀ b ∈ S, n ≤ b) : Below n w w' := h.below hn hS
theorem cell_wr {S : List Nat} {w w' : World} {a : Addr} {v : Value} (h : w.cell? a = some v) (hg : Wr S w w') (ha : a.block ∉ S) : w'.cell? a = some v := by
  have hlt := block_lt h
  unfold World.cell? at *
  rw [hg.block _ hlt ha]
  exact h
theorem i64_lit {z : Int} (h : decide (-9223372036854775808 ≤ z ∧ z < 9223372036854775808) = true) : I64 z := of_decide_eq_true (p := -9223372036854775808 ≤ z ∧ z < 9223372036854775808) h
theorem below_wr {S : List Nat} {w w1 w2 : World} {n : Nat} (h : Below n w w1) (hn : n ≤ w.heap.size) (hg : Wr S w1 w2) (hS : ∀ b ∈ S, n ≤ b) : Below n w w2 := h.trans (hg.below (Nat.le_trans hn h.size) hS)
theorem Wr.belowN {w w' : World} (h : Wr [] w w') {n : Nat} (hn : n ≤ w.heap.size) : Below n w w' := h.below hn (by simp)
end Go.Proofs.YtfpifbfnebfdaaaDoor
