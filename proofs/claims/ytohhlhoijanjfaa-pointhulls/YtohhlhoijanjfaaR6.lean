/- Powers of two, and the number of some words, of package gromaref01. -/
import Derived.Test.YtohhlhoijanjfaaR5
namespace Go.Proofs.Ytohhlhoijanjfaa
open Go.RowKit
attribute [local go_sem] Gr.size Gr.cell? Gr.frozen? Gr.setCell Gr.drew Gr.drewN Gr.of_drew Gr.of_drewN Gr.gr Gr.lt_of1 Gr.le_of1 Gr.lt_of2 Gr.le_of2 Gr.lt_of3 Gr.le_of3 Gr.lt_of4 Gr.le_of4 Gr.lt_of5 Gr.le_of5 Gr.lt_of6 Gr.le_of6 Gr.lt_of7 Gr.le_of7 Gr.lt_of8 Gr.le_of8

theorem Digs.stored {W : World} {b : Nat} {s : Bool} {a : Option Addr} {k c : Nat} {T : TypeId} {v : Value} {ds : List Int} (h : Digs W v ds) (hb : W.heap[b]? = some (.cells #[.bool s, .slice a k c] T (0, 0))) (x y : Value) :
    Digs ((W.setCell ⟨b, 0, none⟩ x).setCell ⟨b, 1, none⟩ y) v ds := by
  obtain ⟨p, q, h1, h2, h3, h4⟩ := h
  refine ⟨p, q, h1, h2, h3, ?_⟩
  rcases h4 with h4 | ⟨g, o, rfl, h5, h6⟩
  · exact Or.inl h4
  · refine Or.inr ⟨g, o, rfl, by simpa using h5, fun i hi => ?_⟩
    have h6i := h6 i hi
    by_cases hg : g = b
    · exfalso
      subst hg
      have e : W.cell? ⟨g, o + i, none⟩ = (#[.bool s, .slice a k c] : Array Value)[o + i]? := by simp [World.cell?, hb]
      rw [e] at h6i
      match hoi : o + i with
      | 0 => rw [hoi] at h6i; simp at h6i
      | 1 => rw [hoi] at h6i; simp at h6i
      | m + 2 => rw [hoi] at h6i; simp at h6i
    · rw [← h6i]
      apply World.cell?_of_block
      rw [Below.heap_setCell _ _ _ _ hg, Below.heap_setCell _ _ _ _ hg]
theorem IsBig.stored {W : World} {b : Nat} {s : Bool} {a : Option Addr} {k c : Nat} {T : TypeId} {v : Value} {z : Int} (h : IsBig W v z) (hb : W.heap[b]? = some (.cells #[.bool s, .slice a k c] T (0, 0))) (x y : Value) :
    IsBig ((W.setCell ⟨b, 0, none⟩ x).setCell ⟨b, 1, none⟩ y) v z := by
  obtain ⟨t, d, ds, h1, h2, h3⟩ := h; exact ⟨t, d, ds, h1, h2.stored hb x y, h3⟩
theorem heap_alloc_at (w : World) (o : Obj) (k : Nat) (hk : k = w.heap.size) : (w.alloc o).heap[k]? = some o := by subst hk; show (w.heap.push o)[w.heap.size]? = _; simp

theorem pow2_sm (k : Nat) (hk : k ≤ 512) : Sm (2 ^ k) := by
  have h1 : (0 : Int) < 2 ^ k := Int.pow_pos (by decide)
  have h2 := pow_le_pow' (by decide : (1 : Int) ≤ 2) hk
  have h3 : (2 : Int) ^ 512 ≤ 4149515568880992958512407863691161151012446232242436899995657329690652811412908146399707048947103794288197886611300789182395151075411775307886874834113963687061181803401509523685376 := by decide +kernel
  unfold Sm; omega

set_option maxHeartbeats 2000000 in
theorem Power_any (n : Int) (w : World) (n0 : 0 ≤ n) (n1 : n ≤ 512) :
    Calls Try.prog 67 #[.int .i64 n] w fun e w' => ∃ z, e = .returned z ∧ IsBig w' z (2 ^ n.toNat) ∧ IsGr w w' := by
  obtain ⟨N, rfl⟩ := Int.eq_ofNat_of_zero_le n0
  rw [Int.toNat_natCast]
  go_enter Try.func67, Try.ntmps67
  go_wp2
  go_loopw [4] (fun t4 wr => ∃ (k : Nat) (s : Bool) (a : Option Addr) (m c : Nat) (os : Array Obj) (d : Nat), k ≤ N ∧ t4 = .int .i64 k ∧ IsBig wr (.agg #[.bool s, .slice a m c]) (2 ^ k) ∧ 
      wr = Gr (((w.alloc (.cells #[.bool false, .slice none 0 0] 53)).alloc (.cells #[.int .i64 1] 3)).alloc (.cells #[.bool s, .slice a m c] 53)) os d) (fun t4 _ => (N - intOf t4).toNat)
  case atStart =>
    refine ⟨0, false, some ⟨w.heap.size + 1, 0, none⟩, 1, 1, #[], w.drawn, by omega, rfl, ?_, Gr.nil _⟩
    refine ⟨false, _, [1], rfl, ⟨some ⟨w.heap.size + 1, 0, none⟩, 1, rfl, by simp, by simp [maxLen], Or.inr ⟨w.heap.size + 1, 0, rfl, by simp, fun i hi => ?_⟩⟩, fun d hd => by simp at hd; omega, fun _ => by simp, fun h => by simp at h, by simp [sgn, vl]⟩
    obtain rfl : i = 0 := by simp at hi; omega
    rw [World.cell?_alloc_past _ _ _ (by simp), World.cell?_alloc_at _ _ _ _ (by simp)]
    rfl
  case round =>
    obtain ⟨k, s, a, m, c, os, d, hk, rfl, hp, rfl⟩ := hrel
    by_cases hlt : k < N
    · have hsm := pow2_sm k (by omega)
      have HP : Hid (∀ x : Int, (2 : Int) ^ k + 2 ^ k = 2 ^ (k + 1)) := by intro x; rw [Int.pow_succ]; omega
      go_wp2_with fail
      refine (BigAdd_any _ _ (2 ^ k) (2 ^ k) _ hp hp hsm hsm).mono ?_
      rintro e w1 ⟨r, rfl, hr, os2, n2, rfl⟩
      obtain ⟨rs, ra, rn, rc, rfl⟩ := hr.shape
      go_wp2
      go_roundw
      case rel =>
        refine ⟨k + 1, rs, ra, rn, rc, os ++ os2, n2, by omega, by go_num, ?_, rfl⟩
        rw [← HP.out 0]
        simp only [Gr.gr] at hr
        exact IsBig.ret hr
      case measure => simp [intOf]; omega
    · obtain rfl : k = N := by omega
      have hst := hp.stored (b := w.heap.size) (s := false) (a := none) (k := 0) (c := 0) (T := 53) (by
        rw [Gr.heap_lt _ _ _ _ (by simp; omega), Below.heap_alloc _ _ _ (by simp; omega), Below.heap_alloc _ _ _ (by simp)]; exact heap_alloc_at _ _ _ rfl) (.bool s) (.slice a m c)
      simp [go_sem] at hst
      go_wp2
      exact bodyPost_ret (v := .agg #[.bool s, .slice a m c]) (by simp [results, Try.results67, go_sem]) rfl ⟨_, rfl, hst, (by with_reducible repeat (first | exact IsGr.refl _ | refine IsGr.gr ?_ _ _ | refine IsGr.alloc ?_ _ | refine IsGr.drew ?_ | refine IsGr.drewN ?_ _))⟩
end Go.Proofs.Ytohhlhoijanjfaa
