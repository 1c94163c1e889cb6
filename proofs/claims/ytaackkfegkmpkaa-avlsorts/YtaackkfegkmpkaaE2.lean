/- Trees in memory: a node's block, a tree's blocks, worlds that differ at some blocks alone. -/
import Derived.Test.YtaackkfegkmpkaaG2
import Derived.Test.YtaackkfegkmpkaaG3
import Derived.Test.YtaackkfegkmpkaaE1
import Derived.Test.YtaackkfegkmpkaaProg
namespace Go.Proofs.Ytaackkfegkmpkaa
open Go.RowKit

/-- Block b is a node. -/
def Nd (w : World) (b : Nat) (v : Int) (l r : Option Addr) (d : Int) : Prop := w.heap[b]? = some (.cells #[.int .i64 v, .pointer l, .pointer r, .int .i64 d] 54 (0, 0))
/-- Where a tree begins. -/
def AT.ptr : AT → Option Addr
  | .nil => none
  | .nd b _ _ _ => some ⟨b, 0, none⟩
/-- The tree lies in w. -/
def InT (w : World) : AT → Prop
  | .nil => True
  | .nd b v l r => Nd w b v l.ptr r.ptr (((AT.nd b v l r).ht : Nat) : Int) ∧ InT w l ∧ InT w r
/-- Nothing but the blocks S, and new ones, has turned. -/
structure Wr (S : List Nat) (w w' : World) : Prop where
  os : w'.os = w.os
  tape : w'.tape = w.tape
  output : w'.output = w.output
  size : w.heap.size ≤ w'.heap.size
  block : ∀ k, k < w.heap.size → k ∉ S → w'.heap[k]? = w.heap[k]?

theorem Wr.refl (S : List Nat) (w : World) : Wr S w w := ⟨rfl, rfl, rfl, Nat.le_refl _, fun _ _ _ => rfl⟩
theorem Wr.gr {S : List Nat} {w w' w'' : World} (h : Wr S w w') (hg : IsGr w' w'') : Wr S w w'' := by
  obtain ⟨h1, h2, h3, h4, h5⟩ := hg.below
  exact ⟨h1.trans h.os, h2.trans h.tape, h3.trans h.output, Nat.le_trans h.size h4, fun k hk hn => (h5 k (Nat.lt_of_lt_of_le hk h.size)).trans (h.block k hk hn)⟩
theorem Wr.of_gr {S : List Nat} {w w' : World} (h : IsGr w w') : Wr S w w' := (Wr.refl S w).gr h
theorem Wr.trans {S S' : List Nat} {w w' w'' : World} (h : Wr S w w') (k : Wr S' w' w'') (hs : ∀ b ∈ S', b < w.heap.size → b ∈ S) : Wr S w w'' :=
  ⟨k.os.trans h.os, k.tape.trans h.tape, k.output.trans h.output, Nat.le_trans h.size k.size, fun j hj hn => (k.block j (Nat.lt_of_lt_of_le hj h.size) (fun hm => hn (hs j hm hj))).trans (h.block j hj hn)⟩
theorem Wr.mono {S S' : List Nat} {w w' : World} (h : Wr S w w') (hs : ∀ b ∈ S, b ∈ S') : Wr S' w w' :=
  ⟨h.os, h.tape, h.output, h.size, fun k hk hn => h.block k hk (fun hm => hn (hs k hm))⟩
theorem set_block (w : World) (b o : Nat) (x : Value) (k : Nat) (h : k ≠ b) : (w.setCell ⟨b, o, none⟩ x).heap[k]? = w.heap[k]? := by
  simp only [World.setCell]
  rw [Array.getElem?_modify, if_neg (fun e => h e.symm)]
theorem set_size (w : World) (b o : Nat) (x : Value) : (w.setCell ⟨b, o, none⟩ x).heap.size = w.heap.size := by simp [World.setCell]
theorem Wr.set {S : List Nat} {w w' : World} (h : Wr S w w') (b o : Nat) (x : Value) (hb : b ∈ S ∨ w.heap.size ≤ b) : Wr S w (w'.setCell ⟨b, o, none⟩ x) :=
  ⟨h.os, h.tape, h.output, by rw [set_size]; exact h.size, fun k hk hn => by
    have hne : k ≠ b := by
      intro e
      subst e
      rcases hb with h1 | h1
      · exact hn h1
      · omega
    rw [set_block _ _ _ _ _ hne]
    exact h.block k hk hn⟩
theorem Wr.drew {S : List Nat} {w w' : World} (h : Wr S w w') : Wr S w w'.drew := h.gr ((IsGr.refl _).drew)
theorem Wr.below {S : List Nat} {w w' : World} (h : Wr S w w') {n : Nat} (hn : n ≤ w.heap.size) (hS : ∀ b ∈ S, n ≤ b) : Below n w w' :=
  ⟨h.os, h.tape, h.output, h.size, fun k hk => h.block k (by omega) (fun hm => by have := hS k hm; omega)⟩

theorem Nd.c0 {w : World} {b : Nat} {v : Int} {l r : Option Addr} {d : Int} (h : Nd w b v l r d) : w.cell? ⟨b, 0, none⟩ = some (.int .i64 v) := by unfold Nd at h; simp [World.cell?, h]
theorem Nd.c1 {w : World} {b : Nat} {v : Int} {l r : Option Addr} {d : Int} (h : Nd w b v l r d) : w.cell? ⟨b, 1, none⟩ = some (.pointer l) := by unfold Nd at h; simp [World.cell?, h]
theorem Nd.c2 {w : World} {b : Nat} {v : Int} {l r : Option Addr} {d : Int} (h : Nd w b v l r d) : w.cell? ⟨b, 2, none⟩ = some (.pointer r) := by unfold Nd at h; simp [World.cell?, h]
theorem Nd.c3 {w : World} {b : Nat} {v : Int} {l r : Option Addr} {d : Int} (h : Nd w b v l r d) : w.cell? ⟨b, 3, none⟩ = some (.int .i64 d) := by unfold Nd at h; simp [World.cell?, h]
theorem Nd.fz {w : World} {b : Nat} {v : Int} {l r : Option Addr} {d : Int} (h : Nd w b v l r d) (i : Nat) : w.frozen? ⟨b, i, none⟩ = false := by unfold Nd at h; simp [World.frozen?, h]
theorem Nd.lt {w : World} {b : Nat} {v : Int} {l r : Option Addr} {d : Int} (h : Nd w b v l r d) : b < w.heap.size := (Array.getElem?_eq_some_iff.1 h).1
theorem Nd.set1 {w : World} {b : Nat} {v : Int} {l r : Option Addr} {d : Int} (h : Nd w b v l r d) (p : Option Addr) : Nd (w.setCell ⟨b, 1, none⟩ (.pointer p)) b v p r d := by
  unfold Nd at *; simp only [World.setCell]; rw [Array.getElem?_modify, if_pos rfl, h]; rfl
theorem Nd.set2 {w : World} {b : Nat} {v : Int} {l r : Option Addr} {d : Int} (h : Nd w b v l r d) (p : Option Addr) : Nd (w.setCell ⟨b, 2, none⟩ (.pointer p)) b v l p d := by
  unfold Nd at *; simp only [World.setCell]; rw [Array.getElem?_modify, if_pos rfl, h]; rfl
theorem Nd.set3 {w : World} {b : Nat} {v : Int} {l r : Option Addr} {d : Int} (h : Nd w b v l r d) (e : Int) : Nd (w.setCell ⟨b, 3, none⟩ (.int .i64 e)) b v l r e := by
  unfold Nd at *; simp only [World.setCell]; rw [Array.getElem?_modify, if_pos rfl, h]; rfl
theorem Nd.other {w : World} {a b : Nat} {v : Int} {l r : Option Addr} {d : Int} (h : Nd w a v l r d) (o : Nat) (x : Value) (hn : a ≠ b) : Nd (w.setCell ⟨b, o, none⟩ x) a v l r d := by
  unfold Nd at *; rw [set_block _ _ _ _ _ hn]; exact h
theorem Nd.gr {w w' : World} {b : Nat} {v : Int} {l r : Option Addr} {d : Int} (h : Nd w b v l r d) (hg : IsGr w w') : Nd w' b v l r d := by
  have := h.lt
  unfold Nd at *; rw [hg.below.block b this]; exact h
theorem Nd.wr {S : List Nat} {w w' : World} {b : Nat} {v : Int} {l r : Option Addr} {d : Int} (h : Nd w b v l r d) (hg : Wr S w w') (hb : b ∉ S) : Nd w' b v l r d := by
  have := h.lt
  unfold Nd at *; rw [hg.block b this hb]; exact h
theorem InT.lt {w : World} : ∀ {t : AT}, InT w t → ∀ b ∈ t.ids, b < w.heap.size
  | .nil, _, b, hb => by simp [AT.ids, AT.inl] at hb
  | .nd c v l r, ⟨h1, h2, h3⟩, b, hb => by
    simp only [AT.ids, AT.inl, List.map_append, List.map_cons, List.mem_append, List.mem_cons] at hb
    rcases hb with hb | rfl | hb
    · exact InT.lt h2 b hb
    · exact h1.lt
    · exact InT.lt h3 b hb
theorem ids_nd (b : Nat) (v : Int) (l r : AT) : (AT.nd b v l r).ids = l.ids ++ b :: r.ids := by simp [AT.ids, AT.inl]
theorem InT.wr {S : List Nat} {w w' : World} (hg : Wr S w w') : ∀ {t : AT}, InT w t → (∀ b ∈ t.ids, b ∉ S) → InT w' t
  | .nil, _, _ => trivial
  | .nd c v l r, ⟨h1, h2, h3⟩, hd => by
    rw [ids_nd] at hd
    exact ⟨h1.wr hg (hd c (by simp)), InT.wr hg h2 (fun b hb => hd b (by simp [hb])), InT.wr hg h3 (fun b hb => hd b (by simp [hb]))⟩
theorem InT.gr {w w' : World} (hg : IsGr w w') {t : AT} (h : InT w t) : InT w' t := h.wr (Wr.of_gr (S := []) hg) (fun _ _ => by simp)
theorem InT.set {w : World} {t : AT} (h : InT w t) (b o : Nat) (x : Value) (hb : b ∉ t.ids) : InT (w.setCell ⟨b, o, none⟩ x) t :=
  h.wr (S := [b]) ((Wr.refl _ _).set b o x (Or.inl (by simp))) (fun c hc hm => hb (by simp at hm; subst hm; exact hc))
end Go.Proofs.Ytaackkfegkmpkaa
