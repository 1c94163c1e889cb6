/- Contracts of package avl over the loaded program: rising, Check. -/
import Derived.Test.YtaackkfegkmpkaaE15
namespace Go.Proofs.Ytaackkfegkmpkaa
open Go.RowKit Go.Shelf
attribute [local go_sem] Oper.semAt_some
theorem Wr.of_below {w w' : World} (h : Below w.heap.size w w') : Wr [] w w' := by
  obtain ⟨h1, h2, h3, h4, h5⟩ := h
  exact ⟨h1, h2, h3, h4, fun k hk _ => h5 k hk⟩
theorem cell_box {W : World} {B : Nat} {v : Value} {t : TypeId} (h : W.heap[B]? = some (.cells #[v] t (0, 0))) : W.cell? ⟨B, 0, none⟩ = some v ∧ W.frozen? ⟨B, 0, none⟩ = false := by
  constructor <;> simp [World.cell?, World.frozen?, h]
theorem cell_new (W : World) (v : Value) (t : TypeId) : (W.alloc (.cells #[v] t)).cell? ⟨W.heap.size, 0, none⟩ = some v ∧ (W.alloc (.cells #[v] t)).frozen? ⟨W.heap.size, 0, none⟩ = false :=
  cell_box (World.alloc_heap_new W _)
theorem cell_past {W : World} {a : Addr} {v : Value} (o : Obj) (h : W.cell? a = some v) : (W.alloc o).cell? a = some v := cell_kept h (World.grownBy_alloc W o none) (fun r e => by cases e)
theorem frozen_past {W : World} {a : Addr} {v : Value} (o : Obj) (h : W.cell? a = some v) (hf : W.frozen? a = false) : (W.alloc o).frozen? a = false := (frozen_kept h (World.grownBy_alloc W o none) (fun r e => by cases e)).trans hf
theorem block_lt {W : World} {a : Addr} {v : Value} (h : W.cell? a = some v) : a.block < W.heap.size := by
  unfold World.cell? at h
  cases hb : W.heap[a.block]? with
  | none => rw [hb] at h; cases h
  | some o => exact (Array.getElem?_eq_some_iff.1 hb).1
theorem cellk {W W' : World} {a : Addr} {v : Value} (h : W.cell? a = some v) (hg : IsGr W W') : W'.cell? a = some v := (hg.below.cell (p := a) (block_lt h)).trans h
theorem frzk {W W' : World} {a : Addr} {v : Value} (h : W.cell? a = some v) (hf : W.frozen? a = false) (hg : IsGr W W') : W'.frozen? a = false := (hg.below.frozen (p := a) (block_lt h)).trans hf
theorem keeps_gr {W W' : World} (hg : IsGr W W') : KeepsOthers W W' := ⟨hg.size, fun k _ hk _ => (hg.below.block k (Array.getElem?_eq_some_iff.1 hk).1).trans hk⟩
theorem cell_o (W : World) {a b : Nat} (o : Nat) (v : Value) (h : a ≠ b) : (W.setCell ⟨a, o, none⟩ v).cell? ⟨b, 0, none⟩ = W.cell? ⟨b, 0, none⟩ := by
  unfold World.cell?
  simp only
  rw [set_block _ _ _ _ _ (Ne.symm h)]
theorem cell_s {W : World} {a : Nat} {v u : Value} (h : W.cell? ⟨a, 0, none⟩ = some u) : (W.setCell ⟨a, 0, none⟩ v).cell? ⟨a, 0, none⟩ = some v := World.cell?_setCell_same' _ _ _ (by rw [h]; rfl)
def lastv (pre : List I64x) : Int := (pre.getLast?.map (·.1)).getD 0
/-- What lies in the boxes of rising. -/
def RB (t s : Nat) (pre : List I64x) (W : World) : Prop :=
  W.cell? ⟨s, 0, none⟩ = some (.pointer (some ⟨t, 0, none⟩)) ∧ (W.cell? ⟨s + 1, 0, none⟩ = some (.bool false) ∧ W.frozen? ⟨s + 1, 0, none⟩ = false) ∧
  (W.cell? ⟨s + 1 + 1, 0, none⟩ = some (.int .i64 (lastv pre)) ∧ W.frozen? ⟨s + 1 + 1, 0, none⟩ = false) ∧ W.cell? ⟨s + 1 + 1 + 1, 0, none⟩ = some (.bool !pre.isEmpty) ∧ W.frozen? ⟨s + 1 + 1 + 1, 0, none⟩ = false
theorem RB.gr {t s : Nat} {pre : List I64x} {W W' : World} (h : RB t s pre W) (hg : IsGr W W') : RB t s pre W' := by
  obtain ⟨h0, ⟨h1, f1⟩, ⟨h2, f2⟩, h3, f3⟩ := h
  exact ⟨cellk h0 hg, ⟨cellk h1 hg, frzk h1 f1 hg⟩, ⟨cellk h2 hg, frzk h2 f2 hg⟩, cellk h3 hg, frzk h3 f3 hg⟩
theorem RB.set {t s : Nat} {pre : List I64x} {W : World} (h : RB t s pre W) (x : I64x) : RB t s (pre ++ [x]) ((W.setCell ⟨s + 1 + 1, 0, none⟩ (.int .i64 x.1)).setCell ⟨s + 1 + 1 + 1, 0, none⟩ (.bool true)) := by
  obtain ⟨h0, ⟨h1, f1⟩, ⟨h2, f2⟩, h3, f3⟩ := h
  refine ⟨?_, ⟨?_, ?_⟩, ⟨?_, ?_⟩, ?_, ?_⟩
  · rw [cell_o _ _ _ (by omega), cell_o _ _ _ (by omega)]; exact h0
  · rw [cell_o _ _ _ (by omega), cell_o _ _ _ (by omega)]; exact h1
  · rw [World.frozen?_setCell, World.frozen?_setCell]; exact f1
  · rw [cell_o _ _ _ (by omega), cell_s h2]; simp [lastv]
  · rw [World.frozen?_setCell, World.frozen?_setCell]; exact f2
  · rw [cell_s (u := .bool !pre.isEmpty) (by rw [cell_o _ _ _ (by omega)]; exact h3)]; simp
  · rw [World.frozen?_setCell, World.frozen?_setCell]; exact f3
def RiseL (k : Int → Int) (l : List Int) : Prop := l.Pairwise fun a b => k a < k b
theorem rise_vals {k : Int → Int} {T : AT} (h : Rise k T.inl) : RiseL k T.vals := List.pairwise_map.2 h
set_option maxRecDepth 100000 in
set_option maxHeartbeats 2000000 in
theorem rising_any {f : Nat} {k : Int → Int} (hO : Ordr f k) {t : Nat} {T : AT} (w : World) (h : St k w t f T) :
    Calls Try.prog 32 #[.pointer (some ⟨t, 0, none⟩)] w fun e w' => e = .returned (.bool true) ∧ Below w.heap.size w w' := by
  refine (callsIn_wide (n := 9)).1 ?_
  refine callsIn_of_wp_marks Try.func32 rfl trivial ?_ rfl
  simp only [Try.ntmps32, List.size_toArray, List.length_cons, List.length_nil, Nat.reduceAdd, Nat.reduceSub, Array.replicate_succ, Array.replicate_zero, List.push_toArray, List.append_toArray, List.nil_append, List.cons_append]
  gi_wp2_with (refine ⟨trivial, ?_⟩; gi_at_call 17; refine (all_in _ _ trivial rfl _ _).mono ?_; rintro e w' ⟨rfl, rfl⟩)
  have c0 := cell_new w (.pointer (some ⟨t, 0, none⟩)) 23
  have c1 := cell_new (w.alloc (.cells #[.pointer (some ⟨t, 0, none⟩)] 23)) (.bool false) 4
  have c2 := cell_new ((w.alloc (.cells #[.pointer (some ⟨t, 0, none⟩)] 23)).alloc (.cells #[.bool false] 4)) (.int .i64 0) 3
  have c3 := cell_new (((w.alloc (.cells #[.pointer (some ⟨t, 0, none⟩)] 23)).alloc (.cells #[.bool false] 4)).alloc (.cells #[.int .i64 0] 3)) (.bool false) 4
  have c4 := cell_new ((((w.alloc (.cells #[.pointer (some ⟨t, 0, none⟩)] 23)).alloc (.cells #[.bool false] 4)).alloc (.cells #[.int .i64 0] 3)).alloc (.cells #[.bool false] 4)) (.pointer (some ⟨t, 0, none⟩)) 23
  simp only [World.size_alloc] at c1 c2 c3 c4
  obtain ⟨W0, hW0⟩ : ∃ W0, ((((w.alloc (.cells #[.pointer (some ⟨t, 0, none⟩)] 23)).alloc (.cells #[.bool false] 4)).alloc (.cells #[.int .i64 0] 3)).alloc (.cells #[.bool false] 4)).alloc (.cells #[.pointer (some ⟨t, 0, none⟩)] 23) = W0 := ⟨_, rfl⟩
  have hB0 : Below w.heap.size w W0 := hW0 ▸ (((((Below.refl _ w).alloc (Nat.le_refl _) _).alloc (by simp) _).alloc (by simp; omega) _).alloc (by simp; omega) _).alloc (by simp; omega) _
  have hsz : W0.heap.size = w.heap.size + 5 := by rw [← hW0]; simp
  have hrb : RB t w.heap.size [] W0 := hW0 ▸ ⟨cell_past _ (cell_past _ (cell_past _ (cell_past _ c0.1))), ⟨cell_past _ (cell_past _ (cell_past _ c1.1)), frozen_past _ (cell_past _ (cell_past _ c1.1)) (frozen_past _ (cell_past _ c1.1) (frozen_past _ c1.1 c1.2))⟩, ⟨cell_past _ (cell_past _ c2.1), frozen_past _ (cell_past _ c2.1) (frozen_past _ c2.1 c2.2)⟩, cell_past _ c3.1, frozen_past _ c3.1 c3.2⟩
  rw [hW0] at c4 ⊢
  clear hW0 c0 c1 c2 c3
  have hlt := h.hd.lt
  have PO := fun W (hB : Below w.heap.size w W) => (h.hd.wr (Wr.of_below hB) (by simp)).c0
  refine wpIn_rangeFunc_ownF rfl (by omega) (gf := 35) (lb := #[.pointer (some ⟨w.heap.size + 1 + 1 + 1 + 1, 0, none⟩)]) rfl trivial (enters_of Try.func35 (by kernel_rfl) rfl)
    (all_stops Fence.wide rfl _ trivial trivial rfl (w.heap.size + 1 + 1 + 1 + 1) t w.heap.size T W0 (by omega) (by omega) c4.1 (h.tree.below hB0 h.tree.lt) h.ints (by omega) ((hB0.cell (p := ⟨t, 1, none⟩) hlt).trans h.hd.c1) h.tree.lt) (fun h1 h2 => h1.trans h2) (belowK_b (by omega)) (Below.refl _ _) (fun _ => rfl)
    (fun pre W => (RB t w.heap.size pre W ∧ RiseL k (pre.map (·.1))) ∧ Below w.heap.size w W)
    (fun _ pre _ => ¬ RiseL k (pre.map (·.1)))
    (OwnFrom.and (Own.from (fun s A B row hs hg hr => ⟨⟨cell_kept hs.1.1 hg hr, ⟨cell_kept hs.1.2.1.1 hg hr, (frozen_kept hs.1.2.1.1 hg hr).trans hs.1.2.1.2⟩, ⟨cell_kept hs.1.2.2.1.1 hg hr, (frozen_kept hs.1.2.2.1.1 hg hr).trans hs.1.2.2.1.2⟩, cell_kept hs.1.2.2.2.1 hg hr, (frozen_kept hs.1.2.2.2.1 hg hr).trans hs.1.2.2.2.2⟩, hs.2⟩) _) (ownFrom_below (Nat.le_refl _) (by omega)))
    (fun c => Own.from (fun s A B row hs hg hr => hs) _)
    ⟨⟨hrb, by simp [RiseL]⟩, hB0⟩
    (fun x => { tmps := #[.pointer (some ⟨t, 0, none⟩), .pointer (some ⟨w.heap.size, 0, none⟩), .pointer (some ⟨w.heap.size + 1, 0, none⟩), .pointer (some ⟨w.heap.size + 1 + 1, 0, none⟩), .pointer (some ⟨w.heap.size + 1 + 1 + 1, 0, none⟩), .int .i64 x.1, .pointer (some ⟨t, 0, none⟩), .func (.func 35) #[] #[.pointer (some ⟨w.heap.size + 1 + 1 + 1 + 1, 0, none⟩)], .int .i64 x.1, undef, undef, undef, undef, undef, undef, undef, undef, undef], defers := [] }) ?assign ?body ?done ?stop
  case assign =>
    intro l x W K hK
    gi_wp2
    exact hK
  case body =>
    rintro l pre x W ⟨⟨hrb, hri⟩, hB⟩ _
    have fin : ∀ W1, IsGr W W1 → RiseL k ((pre ++ [x]).map (·.1)) → KeepsOthers W ((W1.setCell ⟨w.heap.size + 1 + 1, 0, none⟩ (.int .i64 x.1)).setCell ⟨w.heap.size + 1 + 1 + 1, 0, none⟩ (.bool true)) ∧ Below w.heap.size W ((W1.setCell ⟨w.heap.size + 1 + 1, 0, none⟩ (.int .i64 x.1)).setCell ⟨w.heap.size + 1 + 1 + 1, 0, none⟩ (.bool true)) ∧
        (RB t w.heap.size (pre ++ [x]) ((W1.setCell ⟨w.heap.size + 1 + 1, 0, none⟩ (.int .i64 x.1)).setCell ⟨w.heap.size + 1 + 1 + 1, 0, none⟩ (.bool true)) ∧ RiseL k ((pre ++ [x]).map (·.1))) ∧ Below w.heap.size w ((W1.setCell ⟨w.heap.size + 1 + 1, 0, none⟩ (.int .i64 x.1)).setCell ⟨w.heap.size + 1 + 1 + 1, 0, none⟩ (.bool true)) := fun W1 hg hr => by
      have hb1 : Below w.heap.size W ((W1.setCell ⟨w.heap.size + 1 + 1, 0, none⟩ (.int .i64 x.1)).setCell ⟨w.heap.size + 1 + 1 + 1, 0, none⟩ (.bool true)) := ((hg.below.mono hB.size).setCell (p := ⟨w.heap.size + 1 + 1, 0, none⟩) (by simp; omega) _).setCell (p := ⟨w.heap.size + 1 + 1 + 1, 0, none⟩) (by simp; omega) _
      exact ⟨(keeps_gr hg).trans ((KeepsOthers.setCell _ _ _).trans (KeepsOthers.setCell _ _ _)), hb1, ⟨(hrb.gr hg).set x, hr⟩, hB.trans hb1⟩
    have PW := PO W hB
    rcases List.eq_nil_or_concat pre with rfl | ⟨ys, y, hpy⟩
    · obtain ⟨h0, ⟨h1, f1⟩, ⟨h2, f2⟩, h3, f3⟩ := hrb
      replace h3 : W.cell? ⟨w.heap.size + 1 + 1 + 1, 0, none⟩ = some (.bool false) := h3
      have F0 := fin W (IsGr.refl _) (by simp [RiseL])
      clear fin hri PO
      gi_wp2
      refine ⟨trivial, ?_⟩
      gi_wp2
      exact F0
    · rw [List.concat_eq_append] at hpy
      subst hpy
      have hrb' := hrb
      have hy : lastv (ys ++ [y]) = y.1 := by simp [lastv]
      obtain ⟨h0, ⟨h1, f1⟩, ⟨h2, f2⟩, h3, f3⟩ := hrb
      rw [hy] at h2
      replace h3 : W.cell? ⟨w.heap.size + 1 + 1 + 1, 0, none⟩ = some (.bool true) := by rw [h3]; simp
      have hnr : ¬ k y.1 < k x.1 → ¬ RiseL k ((ys ++ [y] ++ [x]).map (·.1)) := fun hn hr => hn (by
        simp only [RiseL, List.map_append, List.map_cons, List.map_nil, List.pairwise_append] at hr
        exact hr.2.2 y.1 (by simp) x.1 (by simp))
      rcases Int.lt_trichotomy (k y.1) (k x.1) with hk | hk | hk
      · have hrise : RiseL k ((ys ++ [y] ++ [x]).map (·.1)) := by
          simp only [RiseL, List.map_append, List.map_cons, List.map_nil] at hri ⊢
          rw [List.pairwise_append]
          refine ⟨hri, by simp, fun a ha b hb => ?_⟩
          obtain rfl : b = x.1 := by simpa using hb
          rw [List.pairwise_append] at hri
          rcases List.mem_append.1 ha with h | h
          · exact Int.lt_trans (hri.2.2 a h y.1 (by simp)) hk
          · obtain rfl : a = y.1 := by simpa using h
            exact hk
        have PL := fun W1 (hg : IsGr W W1) => place_lt hO t y.1 x.1 W1 (PW.gr hg) y.2 x.2 hk
        have F0 := fun W1 (hg : IsGr W W1) => fin W1 hg hrise
        clear hri hnr PO hk fin hrise PW
        gi_wp2
        refine ⟨trivial, ?_⟩
        refine (CallsIn.inRound l (callsIn_wide.2 (PL _ (IsGr.refl _)))).mono ?_
        rintro e W1 ⟨rfl, hg1⟩
        obtain ⟨_, ⟨_, _⟩, ⟨z2, y2⟩, z3, y3⟩ := hrb'.gr hg1
        rw [hy] at z2
        gi_wp2
        exact F0 _ hg1
      · have PL := fun W1 (hg : IsGr W W1) => place_eq hO t y.1 x.1 W1 (PW.gr hg) y.2 x.2 hk
        have hX := hnr (by omega)
        clear hri hnr PO hk fin PW
        gi_wp2
        refine ⟨trivial, ?_⟩
        refine (CallsIn.inRound l (callsIn_wide.2 (PL _ (IsGr.refl _)))).mono ?_
        rintro e W1 ⟨rfl, hg1⟩
        obtain ⟨_, ⟨z1, y1⟩, _⟩ := hrb'.gr hg1
        gi_wp2
        exact ⟨(keeps_gr hg1).trans (KeepsOthers.setCell _ _ _), hX⟩
      · have PL := fun W1 (hg : IsGr W W1) => place_gt hO t y.1 x.1 W1 (PW.gr hg) y.2 x.2 hk
        have hX := hnr (by omega)
        clear hri hnr PO hk fin PW
        gi_wp2
        refine ⟨trivial, ?_⟩
        refine (CallsIn.inRound l (callsIn_wide.2 (PL _ (IsGr.refl _)))).mono ?_
        rintro e W1 ⟨rfl, hg1⟩
        obtain ⟨_, ⟨z1, y1⟩, _⟩ := hrb'.gr hg1
        gi_wp2
        exact ⟨(keeps_gr hg1).trans (KeepsOthers.setCell _ _ _), hX⟩
  case done =>
    rintro D ys W hD hys ⟨⟨hrb, _⟩, hB⟩ hK
    obtain ⟨h0, ⟨h1, f1⟩, ⟨h2, f2⟩, h3, f3⟩ := hrb
    clear PO
    gi_wp2
    have hK' := (KeepsOthers.setCell W ⟨w.heap.size + 1, 0, none⟩ (.bool true)).same D _ hK rfl
    refine ⟨by simp, .inl ⟨_, _, rfl, run_takeDeferred hK', ?_⟩⟩
    have hc5 := cell_kept (cell_s (v := .bool true) h1) (grownBy_putObj' _ D (.deferred none)) (fun r e => by cases e; exact ⟨_, hK', rfl⟩)
    refine ⟨.bool true, ?_, rfl, (hB.setCell (p := ⟨w.heap.size + 1, 0, none⟩) (by simp) _).trans (belowK_b (w := w) (Nat.le_refl _) _ D _ _ (by omega) hK' rfl rfl)⟩
    simp [results, Try.f32, go_sem, hc5]
  case stop =>
    rintro D c pre W hD hpre hn hK
    exact absurd (List.Pairwise.sublist hpre.sublist (rise_vals h.rise)) hn
set_option maxRecDepth 20000 in
set_option maxHeartbeats 1000000 in
theorem Check_any {f : Nat} {k : Int → Int} (hO : Ordr f k) {t : Nat} {T : AT} (w : World) (h : St k w t f T) (hl : T.inl.length ≤ 400) :
    Calls Try.prog 12 #[.pointer (some ⟨t, 0, none⟩)] w fun e w' => e = .returned (.bool true) ∧ Below w.heap.size w w' := by
  have c1 := h.hd.c1
  have S := sound_any T w h.tree h.ok (Nat.le_trans (h.ht hl) (by omega))
  have R := fun w1 (hg : IsGr w w1) => rising_any hO w1 (h.gr hg)
  obtain ⟨q0, hq0⟩ : ∃ q, T.ptr = q := ⟨_, rfl⟩
  rw [hq0] at c1 S
  clear h hl hq0
  go_enter Try.func12, Try.ntmps12
  go_wp2_with fail
  refine S.mono ?_
  clear S
  rintro e w1 ⟨rfl, hg1⟩
  go_wp2_with fail
  refine (R _ hg1).mono ?_
  rintro e w2 ⟨rfl, hb2⟩
  go_wp2_with fail
  go_ret
  exact ⟨rfl, hg1.below.trans (hb2.mono hg1.size)⟩
end Go.Proofs.Ytaackkfegkmpkaa
