/- gromalaw05 over the loaded program: told. -/
import Derived.Test.YtaackkfegkmpkaaE22
namespace Go.Proofs.Ytaackkfegkmpkaa
open Go.RowKit Go.Shelf
attribute [local go_sem] Oper.semAt_some
/-- What lies in the boxes of told. -/
def TB (s : Nat) (v : Value) (stop : Int) (i : Nat) (W : World) : Prop :=
  W.cell? ⟨s, 0, none⟩ = some v ∧ W.cell? ⟨s + 1, 0, none⟩ = some (.int .i64 stop) ∧ (W.cell? ⟨s + 1 + 1, 0, none⟩ = some (.bool false) ∧ W.frozen? ⟨s + 1 + 1, 0, none⟩ = false) ∧
  W.cell? ⟨s + 1 + 1 + 1, 0, none⟩ = some (.int .i64 i) ∧ W.frozen? ⟨s + 1 + 1 + 1, 0, none⟩ = false
theorem TB.next {s : Nat} {v : Value} {stop : Int} {i : Nat} {W : World} (h : TB s v stop i W) : TB s v stop (i + 1) (W.setCell ⟨s + 1 + 1 + 1, 0, none⟩ (.int .i64 (i + 1 : Nat))) := by
  obtain ⟨h0, h1, ⟨h2, f2⟩, h3, f3⟩ := h
  refine ⟨?_, ?_, ⟨?_, ?_⟩, ?_, ?_⟩
  · rw [cell_o _ _ _ (by omega)]; exact h0
  · rw [cell_o _ _ _ (by omega)]; exact h1
  · rw [cell_o _ _ _ (by omega)]; exact h2
  · rw [World.frozen?_setCell]; exact f2
  · rw [cell_s h3]
  · rw [World.frozen?_setCell]; exact f3
theorem pre_next {A : List I64x} {x : I64x} {L : List Int} (h : A.map (·.1) <+: L) (hlt : A.length < L.length) : ((A ++ [x]).map (·.1) <+: L ↔ L.getD A.length 0 = x.1) := by
  have e : L.getD A.length 0 = L[A.length] := by simp [List.getD, hlt]
  rw [e]
  obtain ⟨R, rfl⟩ := h
  cases R with
  | nil => simp at hlt
  | cons r R => simp; exact ⟨fun h => h.symm, fun h => h.symm⟩
set_option maxRecDepth 100000 in
set_option maxHeartbeats 2000000 in
theorem told_yes (base t Bt : Nat) (v : Value) (T : AT) (stop : Int) (w : World) (h : Both w base t v T) (hbt : w.cell? ⟨Bt, 0, none⟩ = some (.pointer (some ⟨t, 0, none⟩))) (hl : T.inl.length ≤ 400) (hs : 0 ≤ stop) :
    Calls Try.prog 16 #[.func (.func 35) #[] #[.pointer (some ⟨Bt, 0, none⟩)], v, .int .i64 stop] w fun e w' => e = .returned (.bool true) ∧ Below w.heap.size w w' := by
  obtain ⟨a, c, rfl, hf⟩ := h.lst.form
  obtain ⟨m, hm⟩ : ∃ m, T.vals.length = m := ⟨_, rfl⟩
  have hcK : ∀ k, k < m → ∃ g, a = some ⟨g, 0, none⟩ ∧ ∀ W, Below w.heap.size w W → W.cell? ⟨g, k, none⟩ = some (.int .i64 (T.vals.getD k 0)) := fun k hk => by
    rcases hf with hf | ⟨g, h1, _, h2, h3⟩
    · rw [hf] at hm; simp at hm; omega
    · exact ⟨g, h1, fun W hB => (hB.cell (p := ⟨g, k, none⟩) h2).trans (h3 k (by omega))⟩
  have hm4 : m ≤ 400 := by rw [← hm, vals_len]; exact hl
  have HM : Hid (T.vals.length = m) := hm
  rw [hm]
  clear hf hm hl
  refine (callsIn_wide (n := 9)).1 ?_
  refine callsIn_of_wp_marks Try.func16 rfl trivial ?_ rfl
  simp only [Try.ntmps16, List.size_toArray, List.length_cons, List.length_nil, Nat.reduceAdd, Nat.reduceSub, Array.replicate_succ, Array.replicate_zero, List.push_toArray, List.append_toArray, List.nil_append, List.cons_append]
  gi_wp2
  have c0 := cell_new w (.slice a m c) 27
  have c1 := cell_new (w.alloc (.cells #[.slice a m c] 27)) (.int .i64 stop) 3
  have c2 := cell_new ((w.alloc (.cells #[.slice a m c] 27)).alloc (.cells #[.int .i64 stop] 3)) (.bool false) 4
  have c3 := cell_new (((w.alloc (.cells #[.slice a m c] 27)).alloc (.cells #[.int .i64 stop] 3)).alloc (.cells #[.bool false] 4)) (.int .i64 0) 3
  simp only [World.size_alloc] at c1 c2 c3
  obtain ⟨W0, hW0⟩ : ∃ W0, (((w.alloc (.cells #[.slice a m c] 27)).alloc (.cells #[.int .i64 stop] 3)).alloc (.cells #[.bool false] 4)).alloc (.cells #[.int .i64 0] 3) = W0 := ⟨_, rfl⟩
  have hB0 : Below w.heap.size w W0 := hW0 ▸ ((((Below.refl _ w).alloc (Nat.le_refl _) _).alloc (by simp) _).alloc (by simp; omega) _).alloc (by simp; omega) _
  have hsz : W0.heap.size = w.heap.size + 4 := by rw [← hW0]; simp
  have hrb : TB w.heap.size (.slice a m c) stop 0 W0 := hW0 ▸ ⟨cell_past _ (cell_past _ (cell_past _ c0.1)), cell_past _ (cell_past _ c1.1), ⟨cell_past _ c2.1, frozen_past _ c2.1 c2.2⟩, c3.1, c3.2⟩
  rw [hW0]
  clear hW0 c0 c1 c2 c3
  have hlt := h.st.hd.lt
  have hbl := block_lt hbt
  refine wpIn_rangeFunc_ownF rfl (by omega) (gf := 35) (lb := #[.pointer (some ⟨Bt, 0, none⟩)]) rfl trivial (enters_of Try.func35 (by kernel_rfl) rfl)
    (all_stops Fence.wide rfl _ trivial trivial rfl Bt t w.heap.size T W0 (by simp at hbl; omega) (by omega) ((hB0.cell (p := ⟨Bt, 0, none⟩) hbl).trans hbt) (h.st.tree.below hB0 h.st.tree.lt) h.st.ints (by omega) ((hB0.cell (p := ⟨t, 1, none⟩) hlt).trans h.st.hd.c1) h.st.tree.lt) (fun h1 h2 => h1.trans h2) (belowK_b (by omega)) (Below.refl _ _) (fun _ => rfl)
    (fun pre W => (TB w.heap.size (.slice a m c) stop pre.length W ∧ pre.map (·.1) <+: T.vals) ∧ Below w.heap.size w W)
    (fun cd pre W => ((cd = .ret ∧ ¬ pre.map (·.1) <+: T.vals) ∨ (cd = .exit 0 ∧ TB w.heap.size (.slice a m c) stop pre.length W ∧ (pre.length : Int) = stop)) ∧ Below w.heap.size w W)
    (OwnFrom.and (Own.from (fun s A B row hs hg hr => ⟨⟨cell_kept hs.1.1 hg hr, cell_kept hs.1.2.1 hg hr, ⟨cell_kept hs.1.2.2.1.1 hg hr, (frozen_kept hs.1.2.2.1.1 hg hr).trans hs.1.2.2.1.2⟩, cell_kept hs.1.2.2.2.1 hg hr, (frozen_kept hs.1.2.2.2.1 hg hr).trans hs.1.2.2.2.2⟩, hs.2⟩) _) (ownFrom_below (Nat.le_refl _) (by omega)))
    (fun cd => OwnFrom.and (Own.from (fun s A B row hs hg hr => hs.elim Or.inl (fun hs => Or.inr ⟨hs.1, ⟨cell_kept hs.2.1.1 hg hr, cell_kept hs.2.1.2.1 hg hr, ⟨cell_kept hs.2.1.2.2.1.1 hg hr, (frozen_kept hs.2.1.2.2.1.1 hg hr).trans hs.2.1.2.2.1.2⟩, cell_kept hs.2.1.2.2.2.1 hg hr, (frozen_kept hs.2.1.2.2.2.1 hg hr).trans hs.2.1.2.2.2.2⟩, hs.2.2⟩)) _) (ownFrom_below (Nat.le_refl _) (by omega)))
    ⟨⟨hrb, by simp⟩, hB0⟩
    (fun x => { tmps := #[.func (.func 35) #[] #[.pointer (some ⟨Bt, 0, none⟩)], .slice a m c, .int .i64 stop, undef, .pointer (some ⟨w.heap.size, 0, none⟩), .pointer (some ⟨w.heap.size + 1, 0, none⟩), .pointer (some ⟨w.heap.size + 1 + 1, 0, none⟩), .pointer (some ⟨w.heap.size + 1 + 1 + 1, 0, none⟩), .int .i64 x.1, .func (.func 35) #[] #[.pointer (some ⟨Bt, 0, none⟩)], .int .i64 x.1, undef, undef, undef, undef, undef, undef, undef, undef, undef, undef, undef, undef, undef, undef, undef, undef, undef, undef, undef, undef, undef, undef, undef, undef, undef, undef], defers := [] }) ?assign ?body ?done ?stop
  case assign =>
    intro l x W K hK
    gi_wp2
    exact hK
  case body =>
    rintro l pre x W ⟨⟨hrb, hpre⟩, hB⟩ hlen
    have hlm : pre.length < m := by have := HM.out; omega
    obtain ⟨g, rfl, hcell⟩ := hcK _ hlm
    have hnx := @pre_next pre x _ hpre hlen
    have hc := hcell W hB
    obtain ⟨y, hy⟩ : ∃ y, T.vals.getD pre.length 0 = y := ⟨_, rfl⟩
    rw [hy] at hc hnx
    have hnext := hrb.next
    have HN : Hid (((pre ++ [x]).map (·.1) <+: T.vals) ↔ y = x.1) := hnx
    obtain ⟨i, hi⟩ : ∃ i, pre.length = i := ⟨_, rfl⟩
    have HI : Hid (pre.length = i) := hi
    rw [hi] at hrb hc hlm hnext
    obtain ⟨h0, h1, ⟨h2, f2⟩, h3, f3⟩ := hrb
    have e1 : IntKind.i64.wrap ((i : Int) + 1) = (i : Int) + 1 := by rw [IntKind.wrap_i64]; omega
    have e2 : ¬ (m : Int) ≤ i := by omega
    have hb1 : ∀ u, Below w.heap.size W (W.setCell ⟨w.heap.size + 1 + 1 + 1, 0, none⟩ u) := fun u => (Below.refl _ W).setCell (p := ⟨w.heap.size + 1 + 1 + 1, 0, none⟩) (by simp; omega) _
    have HNX : Hid (TB w.heap.size (.slice (some ⟨g, 0, none⟩) m c) stop (i + 1) (W.setCell ⟨w.heap.size + 1 + 1 + 1, 0, none⟩ (.int .i64 (i + 1 : Nat)))) := hnext
    clear hcK hcell hnx hy hnext hi hpre hlen
    by_cases hyx : y = x.1
    · have HY : Hid (((pre ++ [x]).map (·.1) <+: T.vals)) := HN.out.2 hyx
      subst hyx
      by_cases hst : (i : Int) + 1 = stop
      · have HS : Hid ((i : Int) + 1 = stop) := hst
        subst hst
        clear HN
        gi_wp2
        refine ⟨KeepsOthers.setCell _ _ _, Or.inr ⟨rfl, ?_, ?_⟩, hB.trans (hb1 _)⟩
        · have := HNX.out
          simp only [List.length_append, List.length_cons, List.length_nil, HI.out]
          exact_mod_cast this
        · simp [HI.out]
      · clear HN
        gi_wp2
        refine ⟨KeepsOthers.setCell _ _ _, hb1 _, ⟨?_, HY.out⟩, hB.trans (hb1 _)⟩
        have := HNX.out
        simp only [List.length_append, List.length_cons, List.length_nil, HI.out]
        exact_mod_cast this
    · have HY : Hid (¬ ((pre ++ [x]).map (·.1) <+: T.vals)) := fun hh => hyx (HN.out.1 hh)
      clear HN
      gi_wp2
      exact ⟨KeepsOthers.setCell _ _ _, Or.inl ⟨rfl, HY.out⟩, hB.setCell (p := ⟨w.heap.size + 1 + 1, 0, none⟩) (by simp; omega) _⟩
  case done =>
    rintro D ys W hD hys ⟨⟨hrb, _⟩, hB⟩ hK
    have hlen : ys.length = m := by have := congrArg List.length hys; simp at this; rw [this]; exact HM.out
    rw [hlen] at hrb
    obtain ⟨h0, h1, ⟨h2, f2⟩, h3, f3⟩ := hrb
    clear hcK
    gi_wp2
    have hK' := (KeepsOthers.setCell W ⟨w.heap.size + 1 + 1, 0, none⟩ (.bool true)).same D _ hK rfl
    refine ⟨by simp, .inl ⟨_, _, rfl, run_takeDeferred hK', ?_⟩⟩
    have hc5 := cell_kept (cell_s (v := .bool true) h2) (grownBy_putObj' _ D (.deferred none)) (fun r e => by cases e; exact ⟨_, hK', rfl⟩)
    refine ⟨.bool true, ?_, rfl, (hB.setCell (p := ⟨w.heap.size + 1 + 1, 0, none⟩) (by simp; omega) _).trans (belowK_b (w := w) (Nat.le_refl _) _ D _ _ (by omega) hK' rfl rfl)⟩
    simp [results, Try.f16, go_sem, hc5]
  case stop =>
    rintro D cd pre W hD hpre ⟨hX | ⟨rfl, hrb, hst⟩, hB⟩ hK
    · exact absurd hpre hX.2
    · obtain ⟨i, hi⟩ : ∃ i, pre.length = i := ⟨_, rfl⟩
      rw [hi] at hrb hst
      subst hst
      obtain ⟨h0, h1, ⟨h2, f2⟩, h3, f3⟩ := hrb
      clear hcK hi hpre
      by_cases him : i = m
      · subst him
        gi_wp2
        have hK' := (KeepsOthers.setCell W ⟨w.heap.size + 1 + 1, 0, none⟩ (.bool true)).same D _ hK rfl
        refine ⟨by simp, .inl ⟨_, _, rfl, run_takeDeferred hK', ?_⟩⟩
        have hc5 := cell_kept (cell_s (v := .bool true) h2) (grownBy_putObj' _ D (.deferred none)) (fun r e => by cases e; exact ⟨_, hK', rfl⟩)
        refine ⟨.bool true, ?_, rfl, (hB.setCell (p := ⟨w.heap.size + 1 + 1, 0, none⟩) (by simp; omega) _).trans (belowK_b (w := w) (Nat.le_refl _) _ D _ _ (by omega) hK' rfl rfl)⟩
        simp [results, Try.f16, go_sem, hc5]
      · have him' : ¬ (i : Int) = m := by omega
        gi_wp2
        have hK' := (KeepsOthers.setCell W ⟨w.heap.size + 1 + 1, 0, none⟩ (.bool true)).same D _ hK rfl
        refine ⟨by simp, .inl ⟨_, _, rfl, run_takeDeferred hK', ?_⟩⟩
        have hc5 := cell_kept (cell_s (v := .bool true) h2) (grownBy_putObj' _ D (.deferred none)) (fun r e => by cases e; exact ⟨_, hK', rfl⟩)
        refine ⟨.bool true, ?_, rfl, (hB.setCell (p := ⟨w.heap.size + 1 + 1, 0, none⟩) (by simp; omega) _).trans (belowK_b (w := w) (Nat.le_refl _) _ D _ _ (by omega) hK' rfl rfl)⟩
        simp [results, Try.f16, go_sem, hc5]
end Go.Proofs.Ytaackkfegkmpkaa
