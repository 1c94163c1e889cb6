/- Contracts of package heap over the loaded program: a heap in memory; which stands behind; two change places. -/
import Derived.Test.YtdffpgfmodccgaaF1
import Derived.Test.YtdffpgfmodccgaaS2
import Derived.Test.YtdffpgfmodccgaaH1
import Derived.BigRegion
import Derived.Laws.OwnMore
import Derived.Maps.AppendAt
namespace Go.Proofs.Ytdffpgfmodccgaa
open Go.RowKit Go.Shelf
attribute [local go_sem] Gr.size Gr.cell? Gr.frozen? Gr.setCell Gr.drew Gr.drewN Gr.of_drew Gr.of_drewN Gr.gr Gr.lt_of1 Gr.le_of1 Gr.lt_of2 Gr.le_of2 Gr.lt_of3 Gr.le_of3 Gr.lt_of4 Gr.le_of4 Gr.lt_of5 Gr.le_of5 Gr.lt_of6 Gr.le_of6 Gr.lt_of7 Gr.le_of7 Gr.lt_of8 Gr.le_of8 Gr.lt_of9 Gr.le_of9 Gr.lt_of10 Gr.le_of10 Gr.lt_of11 Gr.le_of11 Gr.lt_of12 Gr.le_of12 Gr.lt_of13 Gr.le_of13 Gr.lt_of14 Gr.le_of14 Gr.lt_of15 Gr.le_of15 Gr.lt_of16 Gr.le_of16 Gr.lt_of17 Gr.le_of17 Gr.lt_of18 Gr.le_of18 Gr.lt_of19 Gr.le_of19 Gr.lt_of20 Gr.le_of20 Gr.lt_of21 Gr.le_of21 Gr.lt_of22 Gr.le_of22 Gr.lt_of23 Gr.le_of23 Gr.lt_of24 Gr.le_of24
/-- A heap's own block. -/
def Hb (w : World) (t f : Nat) (v : Value) : Prop := w.heap[t]? = some (.cells #[.func (.func f) #[] #[], v] 48 (0, 0))
theorem Hb.c0 {w : World} {t f : Nat} {v : Value} (h : Hb w t f v) : w.cell? ⟨t, 0, none⟩ = some (.func (.func f) #[] #[]) := by unfold Hb at h; simp [World.cell?, h]
theorem Hb.c1 {w : World} {t f : Nat} {v : Value} (h : Hb w t f v) : w.cell? ⟨t, 1, none⟩ = some v := by unfold Hb at h; simp [World.cell?, h]
theorem Hb.fz {w : World} {t f : Nat} {v : Value} (h : Hb w t f v) (i : Nat) : w.frozen? ⟨t, i, none⟩ = false := by unfold Hb at h; simp [World.frozen?, h]
theorem Hb.lt {w : World} {t f : Nat} {v : Value} (h : Hb w t f v) : t < w.heap.size := (Array.getElem?_eq_some_iff.1 h).1
theorem Hb.set1 {w : World} {t f : Nat} {v : Value} (h : Hb w t f v) (u : Value) : Hb (w.setCell ⟨t, 1, none⟩ u) t f u := by
  unfold Hb at *; simp only [World.setCell]; rw [Array.getElem?_modify, if_pos rfl, h]; rfl
theorem Hb.wr {S : List Nat} {w w' : World} {t f : Nat} {v : Value} (h : Hb w t f v) (hg : Wr S w w') (ht : t ∉ S) : Hb w' t f v := by
  have := h.lt
  unfold Hb at *; rw [hg.block t this ht]; exact h
/-- The blocks of a heap. -/
def hbs (t : Nat) (v : Value) : List Nat := t :: v.ownBlock.toList
/-- The heap at t, by the order f, holds the list L, which lies where v tells. -/
structure Hs (w : World) (base t f : Nat) (v : Value) (L : List Int) : Prop where
  hb : Hb w t f v
  lst : Lst w base v L
  apart : v.ownBlock ≠ some t
  ints : ∀ x ∈ L, I64 x
theorem Hs.wr {S : List Nat} {w w' : World} {base t f : Nat} {v : Value} {L : List Int} (h : Hs w base t f v L) (hg : Wr S w w') (hS : ∀ a ∈ S, a ∉ hbs t v) : Hs w' base t f v L :=
  ⟨h.hb.wr hg (fun hm => hS t hm (by simp [hbs])), h.lst.wr hg (fun g hgb hm => hS g hm (by simp [hbs, hgb])), h.apart, h.ints⟩
theorem Hs.gr {w w' : World} {base t f : Nat} {v : Value} {L : List Int} (h : Hs w base t f v L) (hg : IsGr w w') : Hs w' base t f v L := h.wr (S := []) (Wr.of_gr hg) (by simp)
theorem Hs.lt {w : World} {base t f : Nat} {v : Value} {L : List Int} (h : Hs w base t f v L) : ∀ a ∈ hbs t v, a < w.heap.size := fun a ha => by
  rcases List.mem_cons.1 ha with rfl | ha
  · exact h.hb.lt
  · exact (own_block h.lst a (by simpa using ha)).2
/-- Where there is something, it lies in a block. -/
theorem Hs.blk {w : World} {base t f : Nat} {v : Value} {L : List Int} (h : Hs w base t f v L) (hn : 0 < L.length) :
    ∃ g c, v = .slice (some ⟨g, 0, none⟩) L.length c ∧ g ≠ t ∧ base ≤ g ∧ g < w.heap.size ∧ L.length ≤ c := by
  obtain ⟨a, c, rfl, hf⟩ := h.lst.form
  rcases hf with rfl | ⟨g, rfl, h1, h2, _⟩
  · simp at hn
  · exact ⟨g, c, rfl, fun e => h.apart (by rw [← e]; rfl), h1, h2, h.lst.cap⟩
theorem Hs.cell {w : World} {base t f g c : Nat} {L : List Int} (h : Hs w base t f (.slice (Option.some ⟨g, 0, none⟩) L.length c) L) {i : Nat} (hi : i < L.length) :
    w.cell? ⟨g, i, none⟩ = Option.some (.int .i64 (L.getD i 0)) ∧ w.frozen? ⟨g, i, none⟩ = false := by
  refine ⟨?_, World.ownsRow.frozenAt h.lst i⟩
  rw [World.ownsRow.cellAt h.lst i (by omega)]
  simp [hi, List.getD]
theorem getD_i64 {L : List Int} (h : ∀ x ∈ L, I64 x) {i : Nat} (hi : i < L.length) : I64 (L.getD i 0) := by
  simp only [List.getD, List.getElem?_eq_getElem hi, Option.getD_some]; exact h _ (List.getElem_mem hi)
theorem sw_ints {L : List Int} (h : ∀ x ∈ L, I64 x) {i j : Nat} (hi : i < L.length) (hj : j < L.length) : ∀ x ∈ sw L i j, I64 x := fun x hx => h x ((sw_perm hi hj).subset hx)
theorem Hs.set {w : World} {base t f g c : Nat} {L : List Int} (h : Hs w base t f (.slice (Option.some ⟨g, 0, none⟩) L.length c) L) (hgt : g ≠ t) (i : Nat) {x : Int} (hx : I64 x) :
    Hs (w.setCell ⟨g, i, none⟩ (.int .i64 x)) base t f (.slice (Option.some ⟨g, 0, none⟩) L.length c) (L.set i x) := by
  refine ⟨h.hb.wr (S := [g]) ((Wr.refl [g] w).set _ _ _ (Or.inl (by simp))) (by simpa using fun e => hgt e.symm), ?_, h.apart, fun y hy => ?_⟩
  · have := (World.ownsRow.stored h.lst i (.int .i64 x)).1
    unfold Lst
    simpa [List.map_set] using this
  · rcases List.mem_or_eq_of_mem_set hy with h1 | rfl
    · exact h.ints y h1
    · exact hx
theorem Hs.swap {w : World} {base t f g c : Nat} {L : List Int} (h : Hs w base t f (.slice (Option.some ⟨g, 0, none⟩) L.length c) L) (hgt : g ≠ t) {i j : Nat} (hi : i < L.length) (hj : j < L.length) :
    Hs ((w.setCell ⟨g, i, none⟩ (.int .i64 (L.getD j 0))).setCell ⟨g, j, none⟩ (.int .i64 (L.getD i 0))) base t f (.slice (Option.some ⟨g, 0, none⟩) L.length c) (sw L i j) := by
  have h1 := h.set hgt i (getD_i64 h.ints hj)
  have e : (L.set i (L.getD j 0)).length = L.length := by simp
  have h2 := Hs.set (L := L.set i (L.getD j 0)) (by rw [e]; exact h1) hgt j (getD_i64 h.ints hi)
  rw [e] at h2
  exact h2
theorem Hs.nm {w : World} {base t f g c n : Nat} {L : List Int} (h : Hs w base t f (.slice (Option.some ⟨g, 0, none⟩) n c) L) : n = L.length := by
  obtain ⟨a, c', e, _⟩ := h.lst.form
  injection e
theorem nilf' (f : Nat) (w : World) : (binOp BinOp.neq 27 (.func (.func f) #[] #[]) .nilFunc).run Try.prog w = .ok (.bool true) w := by
  first | rfl | simp [binOp, run_underlying Try.underlying27, go_sem]

/-- Two things change places. -/
def ExR (w : World) (base t f g c : Nat) (L : List Int) (i j : Nat) (w' : World) : Prop :=
  Hs w' base t f (.slice (Option.some ⟨g, 0, none⟩) L.length c) (sw L i j) ∧ Wr [g] w w'
set_option maxRecDepth 20000 in set_option maxHeartbeats 2000000 in
theorem exch_ne (base t f g c : Nat) (L : List Int) (i j : Nat) (w : World) (h : Hs w base t f (.slice (Option.some ⟨g, 0, none⟩) L.length c) L) (hgt : g ≠ t) (hi : i < L.length) (hj : j < L.length) (hij : i ≠ j) :
    Calls Try.prog 27 #[.pointer (Option.some ⟨t, 0, none⟩), .int .i64 i, .int .i64 j] w fun e w' => e = .returned (.tuple #[]) ∧ ExR w base t f g c L i j w' := by
  have c1 := h.hb.c1
  obtain ⟨ci, fi⟩ := h.cell hi
  obtain ⟨cj, fj⟩ := h.cell hj
  have HS : ∀ q, Hid (ExR w base t f g c L i j (((w.drewN q).setCell ⟨g, i, none⟩ (.int .i64 (L.getD j 0))).setCell ⟨g, j, none⟩ (.int .i64 (L.getD i 0)))) := fun q =>
    ⟨(h.gr ((IsGr.refl w).drewN q)).swap hgt hi hj, ((Wr.of_gr ((IsGr.refl w).drewN q)).set _ _ _ (Or.inl (by simp))).set _ _ _ (Or.inl (by simp))⟩
  obtain ⟨x, hx⟩ : ∃ x, L.getD i 0 = x := ⟨_, rfl⟩
  obtain ⟨y, hy⟩ : ∃ y, L.getD j 0 = y := ⟨_, rfl⟩
  rw [hx] at ci HS
  rw [hy] at cj HS
  obtain ⟨n, hn⟩ : ∃ n, L.length = n := ⟨_, rfl⟩
  rw [hn] at c1 hi hj
  have hi' : (i : Int) < n := by omega
  have hj' : (j : Int) < n := by omega
  have HS1 := HS 1
  have n1 : ¬ i = j := hij
  have n2 : ¬ j = i := fun e => hij e.symm
  have n3 : ¬ (i : Int) = j := by omega
  have n4 : ¬ (j : Int) = i := by omega
  clear h hx hy hn
  go_enter Try.func27, Try.ntmps27
  go_wp2_with fail
  go_region
  go_wp2
  go_end0
  exact ⟨rfl, HS1.out⟩
set_option maxRecDepth 20000 in set_option maxHeartbeats 2000000 in
theorem exch_eq (base t f g c : Nat) (L : List Int) (i : Nat) (w : World) (h : Hs w base t f (.slice (Option.some ⟨g, 0, none⟩) L.length c) L) (hgt : g ≠ t) (hi : i < L.length) :
    Calls Try.prog 27 #[.pointer (Option.some ⟨t, 0, none⟩), .int .i64 i, .int .i64 i] w fun e w' => e = .returned (.tuple #[]) ∧ ExR w base t f g c L i i w' := by
  have c1 := h.hb.c1
  obtain ⟨ci, fi⟩ := h.cell hi
  have HS : ∀ q, Hid (ExR w base t f g c L i i (((w.drewN q).setCell ⟨g, i, none⟩ (.int .i64 (L.getD i 0))).setCell ⟨g, i, none⟩ (.int .i64 (L.getD i 0)))) := fun q =>
    ⟨(h.gr ((IsGr.refl w).drewN q)).swap hgt hi hi, ((Wr.of_gr ((IsGr.refl w).drewN q)).set _ _ _ (Or.inl (by simp))).set _ _ _ (Or.inl (by simp))⟩
  obtain ⟨x, hx⟩ : ∃ x, L.getD i 0 = x := ⟨_, rfl⟩
  rw [hx] at ci HS
  obtain ⟨n, hn⟩ : ∃ n, L.length = n := ⟨_, rfl⟩
  rw [hn] at c1 hi
  have hi' : (i : Int) < n := by omega
  have HS1 := HS 1
  clear h hx hn
  go_enter Try.func27, Try.ntmps27
  go_wp2_with fail
  go_region
  go_wp2
  go_end0
  exact ⟨rfl, HS1.out⟩
theorem exch_any (base t f g c : Nat) (L : List Int) (i j : Nat) (w : World) (h : Hs w base t f (.slice (Option.some ⟨g, 0, none⟩) L.length c) L) (hgt : g ≠ t) (hi : i < L.length) (hj : j < L.length) :
    Calls Try.prog 27 #[.pointer (Option.some ⟨t, 0, none⟩), .int .i64 i, .int .i64 j] w fun e w' => e = .returned (.tuple #[]) ∧ ExR w base t f g c L i j w' := by
  by_cases hij : i = j
  · subst hij; exact exch_eq base t f g c L i w h hgt hi
  · exact exch_ne base t f g c L i j w h hgt hi hj hij
end Go.Proofs.Ytdffpgfmodccgaa
