/- Powers of two, and the number of some words, of package gromaref01. -/
import Derived.Test.YtfpifbfnebfdaaaDoorR5
namespace Go.Proofs.YtfpifbfnebfdaaaDoor
open Go.RowKit
attribute [local go_sem] Gr.size Gr.cell? Gr.frozen? Gr.setCell Gr.drew Gr.drewN Gr.of_drew Gr.of_drewN Gr.gr Gr.lt_of1 Gr.le_of1 Gr.lt_of2 Gr.le_of2 Gr.lt_of3 Gr.le_of3 Gr.lt_of4 Gr.le_of4 Gr.lt_of5 Gr.le_of5 Gr.lt_of6 Gr.le_of6 Gr.lt_of7 Gr.le_of7 Gr.lt_of8 Gr.le_of8

theorem Digs.stored {W : World} {b : Nat} {s : Bool} {a : Option Addr} {k c : Nat} {T : TypeId} {v : Value} {ds : List Int} (h : Digs W v ds) (hb : W.heap[b]? = some (.cells #[.bool s, .slice a k c] T (0, 0))) (x y : Value) :
    Digs ((W.setCell ⟨b, 0, none⟩ x).setCell ⟨b, 1, none⟩ y) v ds := by
  obtain ⟨p, q, h1, h2, h3, h4⟩ := h
  refine ⟨p, q, h1, h2, h3, ?_⟩
  rcases h4 with h4 | ⟨g, o, rfl, h5, h6⟩
  · exact Or.inl h4
  · refine Or.inr ⟨g, o, rfl, by simpa using h5, fun i hi => ?_⟩
    have h6i := h6 i hi
    by_cases hg : g = b
    · exfalso
      subst hg
      have e : W.cell? ⟨g, o + i, none⟩ = (#[.bool s, .slice a k c] : Array Value)[o + i]? := by simp [World.cell?, hb]
      rw [e] at h6i
      match hoi : o + i with
      | 0 => rw [hoi] at h6i; simp at h6i
      | 1 => rw [hoi] at h6i; simp at h6i
      | m + 2 => rw [hoi] at h6i; simp at h6i
    · rw [← h6i]
      apply World.cell?_of_block
      rw [Below.heap_setCell _ _ _ _ hg, Below.heap_setCell _ _ _ _ hg]
theorem IsBig.stored {W : World} {b : Nat} {s : Bool} {a : Option Addr} {k c : Nat} {T : TypeId} {v : Value} {z : Int} (h : IsBig W v z) (hb : W.heap[b]? = some (.cells #[.bool s, .slice a k c] T (0, 0))) (x y : Value) :
    IsBig ((W.setCell ⟨b, 0, none⟩ x).setCell ⟨b, 1, none⟩ y) v z := by
  obtain ⟨t, d, ds, h1, h2, h3⟩ := h; exact ⟨t, d, ds, h1, h2.stored hb x y, h3⟩
theorem heap_alloc_at (w : World) (o : Obj) (k : Nat) (hk : k = w.heap.size) : (w.alloc o).heap[k]? = some o := by subst hk; show (w.heap.push o)[w.heap.size]? = _; simp

theorem pow2_sm (k : Nat) (hk : k ≤ 512) : Sm (2 ^ k) := by
  have h1 : (0 : Int) < 2 ^ k := Int.pow_pos (by decide)
  have h2 := pow_le_pow' (by decide : (1 : Int) ≤ 2) hk
  have h3 : (2 : Int) ^ 512 ≤ 4149515568880992958512407863691161151012446232242436899995657329690652811412908146399707048947103794288197886611300789182395151075411775307886874834113963687061181803401509523685376 := by decide +kernel
  unfold Sm; omega

end Go.Proofs.YtfpifbfnebfdaaaDoor
