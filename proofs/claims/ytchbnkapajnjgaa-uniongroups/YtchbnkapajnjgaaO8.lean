/- Contracts of package union over the loaded program: New. -/
import Derived.Test.YtchbnkapajnjgaaO7
import Derived.BigRegion
import Derived.Deep.DeepCutAuto
namespace Go.Proofs.Ytchbnkapajnjgaa
open Go.RowKit Go.Shelf
attribute [local go_sem] Gr.size Gr.cell? Gr.frozen? Gr.setCell Gr.drew Gr.drewN Gr.of_drew Gr.of_drewN Gr.gr Gr.lt_of1 Gr.le_of1 Gr.lt_of2 Gr.le_of2 Gr.lt_of3 Gr.le_of3 Gr.lt_of4 Gr.le_of4 Gr.lt_of5 Gr.le_of5 Gr.lt_of6 Gr.le_of6 Gr.lt_of7 Gr.le_of7 Gr.lt_of8 Gr.le_of8 Gr.lt_of9 Gr.le_of9 Gr.lt_of10 Gr.le_of10 Gr.lt_of11 Gr.le_of11 Gr.lt_of12 Gr.le_of12 Gr.lt_of13 Gr.le_of13 Gr.lt_of14 Gr.le_of14 Gr.lt_of15 Gr.le_of15 Gr.lt_of16 Gr.le_of16 Gr.lt_of17 Gr.le_of17 Gr.lt_of18 Gr.le_of18 Gr.lt_of19 Gr.le_of19 Gr.lt_of20 Gr.le_of20 Gr.lt_of21 Gr.le_of21 Gr.lt_of22 Gr.le_of22 Gr.lt_of23 Gr.le_of23 Gr.lt_of24 Gr.le_of24
/-- The first a of n are told, the others are 0. -/
def prt (f : Nat → Int) (a n : Nat) : List Int := (List.range n).map fun i => if i < a then f i else 0
theorem prt_len (f : Nat → Int) (a n : Nat) : (prt f a n).length = n := by simp [prt]
theorem prt_zero (f : Nat → Int) (n : Nat) : prt f 0 n = List.replicate n 0 := by
  apply List.ext_getElem?
  intro i
  by_cases h : i < n <;> simp [prt, h]
theorem prt_full (f : Nat → Int) (n : Nat) : prt f n n = (List.range n).map f := by
  apply List.ext_getElem?
  intro i
  by_cases h : i < n <;> simp [prt, h]
theorem prt_set (f : Nat → Int) {a n : Nat} (h : a < n) : (prt f a n).set a (f a) = prt f (a + 1) n := by
  apply List.ext_getElem?
  intro i
  rw [List.getElem?_set]
  by_cases hi : i < n
  · by_cases e : a = i
    · subst e; simp [prt, hi]
    · have : (i < a) = (i < a + 1) := by apply propext; omega
      simp [prt, hi, e, this]
  · rw [if_neg (by omega)]; simp [prt, hi]
theorem prt_one (n : Nat) : prt (fun _ => 1) n n = List.replicate n 1 := by
  rw [prt_full]
  apply List.ext_getElem?
  intro i
  by_cases h : i < n <;> simp [h]
theorem prt_rng (n : Nat) : prt (fun i => (i : Int)) n n = rng n := by rw [prt_full]; rfl
/-- What New has laid, the first a of them told. -/
structure Nw (w0 : World) (t gu gz gm n a : Nat) (w : World) : Prop where
  m : Um w t gu gz gm (prt (fun i => (i : Int)) a n) (prt (fun _ => 1) a n) (prt (fun i => (i : Int)) a n) n n
  ds : Ds t gu gz gm
  low : w0.heap.size ≤ t ∧ w0.heap.size ≤ gu ∧ w0.heap.size ≤ gz ∧ w0.heap.size ≤ gm
  bel : Below w0.heap.size w0 w
theorem Nw.next {w0 w : World} {t gu gz gm n a : Nat} (h : Nw w0 t gu gz gm n a w) (ha : a < n) :
    Nw w0 t gu gz gm n (a + 1) (((w.setCell ⟨gu, a, none⟩ (.int .i64 a)).setCell ⟨gz, a, none⟩ (.int .i64 1)).setCell ⟨gm, a, none⟩ (.int .i64 a)) := by
  obtain ⟨hm, hd, hl, hb⟩ := h
  obtain ⟨d1, d2, d3, d4, d5, d6⟩ := hd
  have e1 := prt_set (fun i => (i : Int)) ha
  have e2 := prt_set (fun _ => (1 : Int)) ha
  refine ⟨⟨((hm.b.other _ _ d1).other _ _ d2).other _ _ d3, ?_, ?_, ?_⟩, ⟨d1, d2, d3, d4, d5, d6⟩, hl, ?_⟩
  · rw [← e1]; exact ((hm.ru.set _ _).other _ _ d4).other _ _ d5
  · rw [← e2]; exact ((hm.rz.other _ _ (Ne.symm d4)).set _ _).other _ _ d6
  · rw [← e1]; exact ((hm.rm.other _ _ (Ne.symm d5)).other _ _ (Ne.symm d6)).set _ _
  · exact ((hb.setCell (p := ⟨gu, a, none⟩) hl.2.1 _).setCell (p := ⟨gz, a, none⟩) hl.2.2.1 _).setCell (p := ⟨gm, a, none⟩) hl.2.2.2 _
theorem Nw.drew {w0 w : World} {t gu gz gm n a : Nat} (h : Nw w0 t gu gz gm n a w) : Nw w0 t gu gz gm n a w.drew :=
  ⟨h.m.gr ((IsGr.refl _).drew), h.ds, h.low, h.bel.drew⟩
theorem Nw.un {w0 w : World} {t gu gz gm n : Nat} (h : Nw w0 t gu gz gm n n w) (hn : n ≤ 1048576) : Un w w0.heap.size t gu gz gm (rng n) := by
  refine ⟨h.ds, h.low, by rw [rng_len]; exact hn, rng n, List.replicate n 1, rng n, Up.new n, ?_⟩
  have := h.m
  rw [prt_rng, prt_one] at this
  rw [rng_len, cntU_rng (Nat.le_refl _)]
  exact this
/-- The sets at t, wherever their rows lie. -/
def UnE (w : World) (base t : Nat) (x : List Int) : Prop := ∃ gu gz gm, Un w base t gu gz gm x
/-- What lies behind the region that makes them. -/
theorem Nw.first {w0 w1 w2 w3 w4 wa wb wc : World} {g1 g2 g3 gu gz gm n : Nat} (h1 : MkZ wa w1 g1 n) (h2 : MkZ wb w2 g2 n) (h3 : MkZ wc w3 g3 n) (k1 : IsGr w0 wa) (k2 : IsGr w1 wb) (k3 : IsGr w2 wc) (k4 : IsGr w3 w4)
    (hg : (gu = g1 ∨ gu = g2 ∨ gu = g3) ∧ (gz = g1 ∨ gz = g2 ∨ gz = g3) ∧ (gm = g1 ∨ gm = g2 ∨ gm = g3)) (hne : gu ≠ gz ∧ gu ≠ gm ∧ gz ≠ gm) :
    Nw w0 w4.heap.size gu gz gm n 0 (w4.alloc (.cells #[.slice (some ⟨gu, 0, none⟩) n n, .slice (some ⟨gz, 0, none⟩) n n, .slice (some ⟨gm, 0, none⟩) n n, .int .i64 n] 51)) := by
  obtain ⟨e1, r1, b1⟩ := h1
  obtain ⟨e2, r2, b2⟩ := h2
  obtain ⟨e3, r3, b3⟩ := h3
  have s1 := r1.lt
  have s2 := r2.lt
  have s3 := r3.lt
  have q1 := k1.size
  have q2 := k2.size
  have q3 := k3.size
  have q4 := k4.size
  have p1 := b1.size
  have p2 := b2.size
  have p3 := b3.size
  have kA := (IsGr.refl w4).alloc (.cells #[.slice (some ⟨gu, 0, none⟩) n n, .slice (some ⟨gz, 0, none⟩) n n, .slice (some ⟨gm, 0, none⟩) n n, .int .i64 n] 51)
  have R1 : Row (w4.alloc (.cells #[.slice (some ⟨gu, 0, none⟩) n n, .slice (some ⟨gz, 0, none⟩) n n, .slice (some ⟨gm, 0, none⟩) n n, .int .i64 n] 51)) g1 (List.replicate n 0) := (((((r1.gr k2).below b2).gr k3).below b3).gr k4).gr kA
  have R2 : Row (w4.alloc (.cells #[.slice (some ⟨gu, 0, none⟩) n n, .slice (some ⟨gz, 0, none⟩) n n, .slice (some ⟨gm, 0, none⟩) n n, .int .i64 n] 51)) g2 (List.replicate n 0) := (((r2.gr k3).below b3).gr k4).gr kA
  have R3 : Row (w4.alloc (.cells #[.slice (some ⟨gu, 0, none⟩) n n, .slice (some ⟨gz, 0, none⟩) n n, .slice (some ⟨gm, 0, none⟩) n n, .int .i64 n] 51)) g3 (List.replicate n 0) := (r3.gr k4).gr kA
  have pick : ∀ g, g = g1 ∨ g = g2 ∨ g = g3 → Row (w4.alloc (.cells #[.slice (some ⟨gu, 0, none⟩) n n, .slice (some ⟨gz, 0, none⟩) n n, .slice (some ⟨gm, 0, none⟩) n n, .int .i64 n] 51)) g (List.replicate n 0) ∧ w0.heap.size ≤ g ∧ g < w4.heap.size := fun g hg => by
    rcases hg with rfl | rfl | rfl
    · exact ⟨R1, by omega, by omega⟩
    · exact ⟨R2, by omega, by omega⟩
    · exact ⟨R3, by omega, by omega⟩
  have PU := pick gu hg.1
  have PZ := pick gz hg.2.1
  have PM := pick gm hg.2.2
  refine ⟨⟨?_, ?_, ?_, ?_⟩, ⟨by omega, by omega, by omega, hne.1, hne.2.1, hne.2.2⟩, ⟨by omega, PU.2.1, PZ.2.1, PM.2.1⟩, ?_⟩
  · exact World.alloc_heap_new w4 _
  · rw [prt_zero]; exact PU.1
  · rw [prt_zero]; exact PZ.1
  · rw [prt_zero]; exact PM.1
  · exact (k1.below).trans (((((b1.mono (by omega)).trans (k2.below.mono (by omega))).trans (b2.mono (by omega))).trans (k3.below.mono (by omega))).trans (((b3.mono (by omega)).trans (k4.below.mono (by omega))).trans (kA.below.mono (by omega))))

set_option maxRecDepth 20000 in set_option maxHeartbeats 2000000 in
theorem New_in (n : Nat) (w : World) (hn : n ≤ 1048576) : Calls Try.prog 8 #[.int .i64 n] w fun e w' => ∃ t, e = .returned (.pointer (some ⟨t, 0, none⟩)) ∧ UnE w' w.heap.size t (rng n) ∧ Below w.heap.size w w' := by
  have HN : Hid (n ≤ 1048576) := hn
  have q1 : ¬ (n : Int) < 0 := by omega
  have q2 : ¬ (1048576 : Int) < n := by omega
  have q3 : (n : Int) ≤ 1048576 := by omega
  go_enter Try.func8, Try.ntmps8
  go_upto_region 3 with fail
  go_cut [3] (fun t3 wr => ∃ t gu gz gm : Nat, t3 = .pointer (some ⟨t, 0, none⟩) ∧ Hid (Nw w t gu gz gm n 0 wr))
  case first =>
    refine wp_region_held_drew (S := (fun _ => True)) (by kernel_rfl) (by (try dsimp only); all_goals trivial) (fun hHeld => ?_)
    refine wpAnyH_take (i := 0) (oi := { dst := some 11, op := Op.move (Operand.tmp 0), type := 3, pos := "union.go:26", after := #[], guard := none }) (v := ?_) rfl (by kernel_rfl) (by kernel_rfl) (by kernel_rfl) (fun _ _ _ h => h) (Or.inl ⟨by rfl, ?_⟩) (by assumption) ?_
    rotate_left
    · (intro w hSw; (try dsimp only at hSw); go_simp <;> with_reducible rfl)
    (try simp only [Act.put, List.setIfInBounds_toArray, List.set_cons_zero, List.set_cons_succ])
    refine wpAnyH_take (i := 2) (oi := { dst := some 13, op := Op.move (Operand.tmp 0), type := 3, pos := "union.go:26", after := #[], guard := none }) (v := ?_) rfl (by kernel_rfl) (by kernel_rfl) (by kernel_rfl) (fun _ _ _ h => h) (Or.inl ⟨by rfl, ?_⟩) (by assumption) ?_
    rotate_left
    · (intro w hSw; (try dsimp only at hSw); go_simp <;> with_reducible rfl)
    (try simp only [Act.put, List.setIfInBounds_toArray, List.set_cons_zero, List.set_cons_succ])
    refine wpAnyH_take (i := 4) (oi := { dst := some 15, op := Op.move (Operand.tmp 0), type := 3, pos := "union.go:26", after := #[], guard := none }) (v := ?_) rfl (by kernel_rfl) (by kernel_rfl) (by kernel_rfl) (fun _ _ _ h => h) (Or.inl ⟨by rfl, ?_⟩) (by assumption) ?_
    rotate_left
    · (intro w hSw; (try dsimp only at hSw); go_simp <;> with_reducible rfl)
    (try simp only [Act.put, List.setIfInBounds_toArray, List.set_cons_zero, List.set_cons_succ])
    refine wpAnyH_take (i := 6) (oi := { dst := some 17, op := Op.move (Operand.tmp 0), type := 3, pos := "union.go:26", after := #[], guard := none }) (v := ?_) rfl (by kernel_rfl) (by kernel_rfl) (by kernel_rfl) (fun _ _ _ h => h) (Or.inl ⟨by rfl, ?_⟩) (by assumption) ?_
    rotate_left
    · (intro w hSw; (try dsimp only at hSw); go_simp <;> with_reducible rfl)
    (try simp only [Act.put, List.setIfInBounds_toArray, List.set_cons_zero, List.set_cons_succ])
    refine wpAnyH_ready (rs := [1, 3, 5]) (by kernel_rfl) (by simp) ?_
    refine AllReadyH.cons (o := { dst := some 12, op := Op.makeSlice 26 (Operand.tmp 11) (Operand.tmp 11), type := 26, pos := "union.go:26", after := #[{ on := 0, ground := Ground.data }, { on := 0, ground := Ground.data }], guard := none }) rfl (fun K hK => ?_) ?_
    · refine step_make_row rfl (.tmp 11) rfl n rfl HN.out ?_
      intro w1 b1 HB1
      refine hK.out _ _ (by (try dsimp only); all_goals trivial) (fun hHeld2 => ?_)
      clear hK K hHeld
      have hHeld := hHeld2
      clear hHeld2
      (try simp only [Act.put, List.setIfInBounds_toArray, List.set_cons_zero, List.set_cons_succ])
      refine wpAnyH_ready (rs := [3, 5]) (by kernel_rfl) (by simp) ?_
      refine AllReadyH.cons (o := { dst := some 14, op := Op.makeSlice 26 (Operand.tmp 13) (Operand.tmp 13), type := 26, pos := "union.go:26", after := #[{ on := 2, ground := Ground.data }, { on := 2, ground := Ground.data }], guard := none }) rfl (fun K hK => ?_) ?_
      · refine step_make_row rfl (.tmp 13) rfl n rfl HN.out ?_
        intro w2 b2 HB2
        refine hK.out _ _ (by (try dsimp only); all_goals trivial) (fun hHeld2 => ?_)
        clear hK K hHeld
        have hHeld := hHeld2
        clear hHeld2
        (try simp only [Act.put, List.setIfInBounds_toArray, List.set_cons_zero, List.set_cons_succ])
        refine wpAnyH_ready (rs := [5]) (by kernel_rfl) (by simp) ?_
        refine AllReadyH.cons (o := { dst := some 16, op := Op.makeSlice 26 (Operand.tmp 15) (Operand.tmp 15), type := 26, pos := "union.go:26", after := #[{ on := 4, ground := Ground.data }, { on := 4, ground := Ground.data }], guard := none }) rfl (fun K hK => ?_) ?_
        · refine step_make_row rfl (.tmp 15) rfl n rfl HN.out ?_
          intro w3 b3 HB3
          refine hK.out _ _ (by (try dsimp only); all_goals trivial) (fun hHeld2 => ?_)
          clear hK K hHeld
          have hHeld := hHeld2
          clear hHeld2
          (try simp only [Act.put, List.setIfInBounds_toArray, List.set_cons_zero, List.set_cons_succ])
          refine wpAnyH_take (i := 7) (oi := { dst := some 18, op := Op.build 51 #[(0, Operand.tmp 12), (1, Operand.tmp 14), (2, Operand.tmp 16), (3, Operand.tmp 17)], type := 51, pos := "union.go:26", after := #[{ on := 1, ground := Ground.data }, { on := 3, ground := Ground.data }, { on := 5, ground := Ground.data }, { on := 6, ground := Ground.data }], guard := none }) (v := ?_) rfl (by kernel_rfl) (by kernel_rfl) (by kernel_rfl) (fun _ _ _ h => h) (Or.inl ⟨by rfl, ?_⟩) (by assumption) ?_
          rotate_left
          · (intro w hSw; (try dsimp only at hSw); go_simp <;> with_reducible rfl)
          (try simp only [Act.put, List.setIfInBounds_toArray, List.set_cons_zero, List.set_cons_succ])
          refine wpAnyH_ready (rs := [8]) (by kernel_rfl) (by simp) ?_
          refine AllReadyH.cons (o := { dst := some 19, op := Op.box 51 (Operand.tmp 18), type := 24, pos := "union.go:26", after := #[{ on := 7, ground := Ground.data }], guard := none }) rfl (fun K hK => ?_) ?_
          · go_simp
            refine hK.out _ _ (by (try dsimp only); all_goals trivial) (fun hHeld2 => ?_)
            clear hK K hHeld
            have hHeld := hHeld2
            clear hHeld2
            (try simp only [Act.put, List.setIfInBounds_toArray, List.set_cons_zero, List.set_cons_succ])
            refine wpAnyH_take (i := 9) (oi := { dst := some 3, op := Op.assign (Operand.tmp 19), type := 24, pos := "union.go:26", after := #[{ on := 8, ground := Ground.data }, { on := 0, ground := Ground.phase }, { on := 1, ground := Ground.phase }, { on := 2, ground := Ground.phase }, { on := 3, ground := Ground.phase }, { on := 4, ground := Ground.phase }, { on := 5, ground := Ground.phase }, { on := 6, ground := Ground.phase }, { on := 7, ground := Ground.phase }, { on := 8, ground := Ground.phase }], guard := none }) (v := ?_) rfl (by kernel_rfl) (by kernel_rfl) (by kernel_rfl) (fun _ _ _ h => h) (Or.inl ⟨by rfl, ?_⟩) (by assumption) ?_
            rotate_left
            · (intro w hSw; (try dsimp only at hSw); go_simp <;> with_reducible rfl)
            (try simp only [Act.put, List.setIfInBounds_toArray, List.set_cons_zero, List.set_cons_succ])
            refine wpAnyH_done (by kernel_rfl) ?_ _
            go_wp2_with fail
            go_meet
            exact ⟨_, _, _, _, rfl, Nw.first HB1.out HB2.out HB3.out (by with_reducible repeat (first | exact IsGr.refl _ | refine IsGr.gr ?_ _ _ | refine IsGr.alloc ?_ _ | refine IsGr.drew ?_ | refine IsGr.drewN ?_ _)) (by with_reducible repeat (first | exact IsGr.refl _ | refine IsGr.gr ?_ _ _ | refine IsGr.alloc ?_ _ | refine IsGr.drew ?_ | refine IsGr.drewN ?_ _)) (by with_reducible repeat (first | exact IsGr.refl _ | refine IsGr.gr ?_ _ _ | refine IsGr.alloc ?_ _ | refine IsGr.drew ?_ | refine IsGr.drewN ?_ _)) (by with_reducible repeat (first | exact IsGr.refl _ | refine IsGr.gr ?_ _ _ | refine IsGr.alloc ?_ _ | refine IsGr.drew ?_ | refine IsGr.drewN ?_ _)) ⟨by simp, by simp, by simp⟩ (by have h1 := HB1.out.1; have h2 := HB2.out.1; have h3 := HB3.out.1; have k1 := HB1.out.2.1.lt; have k2 := HB2.out.2.1.lt; simp at h1 h2 h3; omega)⟩
          exact AllReadyH.nil
        exact AllReadyH.nil
      refine AllReadyH.cons (o := { dst := some 16, op := Op.makeSlice 26 (Operand.tmp 15) (Operand.tmp 15), type := 26, pos := "union.go:26", after := #[{ on := 4, ground := Ground.data }, { on := 4, ground := Ground.data }], guard := none }) rfl (fun K hK => ?_) ?_
      · refine step_make_row rfl (.tmp 15) rfl n rfl HN.out ?_
        intro w3 b3 HB3
        refine hK.out _ _ (by (try dsimp only); all_goals trivial) (fun hHeld2 => ?_)
        clear hK K hHeld
        have hHeld := hHeld2
        clear hHeld2
        (try simp only [Act.put, List.setIfInBounds_toArray, List.set_cons_zero, List.set_cons_succ])
        refine wpAnyH_ready (rs := [3]) (by kernel_rfl) (by simp) ?_
        refine AllReadyH.cons (o := { dst := some 14, op := Op.makeSlice 26 (Operand.tmp 13) (Operand.tmp 13), type := 26, pos := "union.go:26", after := #[{ on := 2, ground := Ground.data }, { on := 2, ground := Ground.data }], guard := none }) rfl (fun K hK => ?_) ?_
        · refine step_make_row rfl (.tmp 13) rfl n rfl HN.out ?_
          intro w2 b2 HB2
          refine hK.out _ _ (by (try dsimp only); all_goals trivial) (fun hHeld2 => ?_)
          clear hK K hHeld
          have hHeld := hHeld2
          clear hHeld2
          (try simp only [Act.put, List.setIfInBounds_toArray, List.set_cons_zero, List.set_cons_succ])
          refine wpAnyH_take (i := 7) (oi := { dst := some 18, op := Op.build 51 #[(0, Operand.tmp 12), (1, Operand.tmp 14), (2, Operand.tmp 16), (3, Operand.tmp 17)], type := 51, pos := "union.go:26", after := #[{ on := 1, ground := Ground.data }, { on := 3, ground := Ground.data }, { on := 5, ground := Ground.data }, { on := 6, ground := Ground.data }], guard := none }) (v := ?_) rfl (by kernel_rfl) (by kernel_rfl) (by kernel_rfl) (fun _ _ _ h => h) (Or.inl ⟨by rfl, ?_⟩) (by assumption) ?_
          rotate_left
          · (intro w hSw; (try dsimp only at hSw); go_simp <;> with_reducible rfl)
          (try simp only [Act.put, List.setIfInBounds_toArray, List.set_cons_zero, List.set_cons_succ])
          refine wpAnyH_ready (rs := [8]) (by kernel_rfl) (by simp) ?_
          refine AllReadyH.cons (o := { dst := some 19, op := Op.box 51 (Operand.tmp 18), type := 24, pos := "union.go:26", after := #[{ on := 7, ground := Ground.data }], guard := none }) rfl (fun K hK => ?_) ?_
          · go_simp
            refine hK.out _ _ (by (try dsimp only); all_goals trivial) (fun hHeld2 => ?_)
            clear hK K hHeld
            have hHeld := hHeld2
            clear hHeld2
            (try simp only [Act.put, List.setIfInBounds_toArray, List.set_cons_zero, List.set_cons_succ])
            refine wpAnyH_take (i := 9) (oi := { dst := some 3, op := Op.assign (Operand.tmp 19), type := 24, pos := "union.go:26", after := #[{ on := 8, ground := Ground.data }, { on := 0, ground := Ground.phase }, { on := 1, ground := Ground.phase }, { on := 2, ground := Ground.phase }, { on := 3, ground := Ground.phase }, { on := 4, ground := Ground.phase }, { on := 5, ground := Ground.phase }, { on := 6, ground := Ground.phase }, { on := 7, ground := Ground.phase }, { on := 8, ground := Ground.phase }], guard := none }) (v := ?_) rfl (by kernel_rfl) (by kernel_rfl) (by kernel_rfl) (fun _ _ _ h => h) (Or.inl ⟨by rfl, ?_⟩) (by assumption) ?_
            rotate_left
            · (intro w hSw; (try dsimp only at hSw); go_simp <;> with_reducible rfl)
            (try simp only [Act.put, List.setIfInBounds_toArray, List.set_cons_zero, List.set_cons_succ])
            refine wpAnyH_done (by kernel_rfl) ?_ _
            go_wp2_with fail
            go_meet
            exact ⟨_, _, _, _, rfl, Nw.first HB1.out HB3.out HB2.out (by with_reducible repeat (first | exact IsGr.refl _ | refine IsGr.gr ?_ _ _ | refine IsGr.alloc ?_ _ | refine IsGr.drew ?_ | refine IsGr.drewN ?_ _)) (by with_reducible repeat (first | exact IsGr.refl _ | refine IsGr.gr ?_ _ _ | refine IsGr.alloc ?_ _ | refine IsGr.drew ?_ | refine IsGr.drewN ?_ _)) (by with_reducible repeat (first | exact IsGr.refl _ | refine IsGr.gr ?_ _ _ | refine IsGr.alloc ?_ _ | refine IsGr.drew ?_ | refine IsGr.drewN ?_ _)) (by with_reducible repeat (first | exact IsGr.refl _ | refine IsGr.gr ?_ _ _ | refine IsGr.alloc ?_ _ | refine IsGr.drew ?_ | refine IsGr.drewN ?_ _)) ⟨by simp, by simp, by simp⟩ (by have h1 := HB1.out.1; have h2 := HB3.out.1; have h3 := HB2.out.1; have k1 := HB1.out.2.1.lt; have k2 := HB3.out.2.1.lt; simp at h1 h2 h3; omega)⟩
          exact AllReadyH.nil
        exact AllReadyH.nil
      exact AllReadyH.nil
    refine AllReadyH.cons (o := { dst := some 14, op := Op.makeSlice 26 (Operand.tmp 13) (Operand.tmp 13), type := 26, pos := "union.go:26", after := #[{ on := 2, ground := Ground.data }, { on := 2, ground := Ground.data }], guard := none }) rfl (fun K hK => ?_) ?_
    · refine step_make_row rfl (.tmp 13) rfl n rfl HN.out ?_
      intro w2 b2 HB2
      refine hK.out _ _ (by (try dsimp only); all_goals trivial) (fun hHeld2 => ?_)
      clear hK K hHeld
      have hHeld := hHeld2
      clear hHeld2
      (try simp only [Act.put, List.setIfInBounds_toArray, List.set_cons_zero, List.set_cons_succ])
      refine wpAnyH_ready (rs := [1, 5]) (by kernel_rfl) (by simp) ?_
      refine AllReadyH.cons (o := { dst := some 12, op := Op.makeSlice 26 (Operand.tmp 11) (Operand.tmp 11), type := 26, pos := "union.go:26", after := #[{ on := 0, ground := Ground.data }, { on := 0, ground := Ground.data }], guard := none }) rfl (fun K hK => ?_) ?_
      · refine step_make_row rfl (.tmp 11) rfl n rfl HN.out ?_
        intro w1 b1 HB1
        refine hK.out _ _ (by (try dsimp only); all_goals trivial) (fun hHeld2 => ?_)
        clear hK K hHeld
        have hHeld := hHeld2
        clear hHeld2
        (try simp only [Act.put, List.setIfInBounds_toArray, List.set_cons_zero, List.set_cons_succ])
        refine wpAnyH_ready (rs := [5]) (by kernel_rfl) (by simp) ?_
        refine AllReadyH.cons (o := { dst := some 16, op := Op.makeSlice 26 (Operand.tmp 15) (Operand.tmp 15), type := 26, pos := "union.go:26", after := #[{ on := 4, ground := Ground.data }, { on := 4, ground := Ground.data }], guard := none }) rfl (fun K hK => ?_) ?_
        · refine step_make_row rfl (.tmp 15) rfl n rfl HN.out ?_
          intro w3 b3 HB3
          refine hK.out _ _ (by (try dsimp only); all_goals trivial) (fun hHeld2 => ?_)
          clear hK K hHeld
          have hHeld := hHeld2
          clear hHeld2
          (try simp only [Act.put, List.setIfInBounds_toArray, List.set_cons_zero, List.set_cons_succ])
          refine wpAnyH_take (i := 7) (oi := { dst := some 18, op := Op.build 51 #[(0, Operand.tmp 12), (1, Operand.tmp 14), (2, Operand.tmp 16), (3, Operand.tmp 17)], type := 51, pos := "union.go:26", after := #[{ on := 1, ground := Ground.data }, { on := 3, ground := Ground.data }, { on := 5, ground := Ground.data }, { on := 6, ground := Ground.data }], guard := none }) (v := ?_) rfl (by kernel_rfl) (by kernel_rfl) (by kernel_rfl) (fun _ _ _ h => h) (Or.inl ⟨by rfl, ?_⟩) (by assumption) ?_
          rotate_left
          · (intro w hSw; (try dsimp only at hSw); go_simp <;> with_reducible rfl)
          (try simp only [Act.put, List.setIfInBounds_toArray, List.set_cons_zero, List.set_cons_succ])
          refine wpAnyH_ready (rs := [8]) (by kernel_rfl) (by simp) ?_
          refine AllReadyH.cons (o := { dst := some 19, op := Op.box 51 (Operand.tmp 18), type := 24, pos := "union.go:26", after := #[{ on := 7, ground := Ground.data }], guard := none }) rfl (fun K hK => ?_) ?_
          · go_simp
            refine hK.out _ _ (by (try dsimp only); all_goals trivial) (fun hHeld2 => ?_)
            clear hK K hHeld
            have hHeld := hHeld2
            clear hHeld2
            (try simp only [Act.put, List.setIfInBounds_toArray, List.set_cons_zero, List.set_cons_succ])
            refine wpAnyH_take (i := 9) (oi := { dst := some 3, op := Op.assign (Operand.tmp 19), type := 24, pos := "union.go:26", after := #[{ on := 8, ground := Ground.data }, { on := 0, ground := Ground.phase }, { on := 1, ground := Ground.phase }, { on := 2, ground := Ground.phase }, { on := 3, ground := Ground.phase }, { on := 4, ground := Ground.phase }, { on := 5, ground := Ground.phase }, { on := 6, ground := Ground.phase }, { on := 7, ground := Ground.phase }, { on := 8, ground := Ground.phase }], guard := none }) (v := ?_) rfl (by kernel_rfl) (by kernel_rfl) (by kernel_rfl) (fun _ _ _ h => h) (Or.inl ⟨by rfl, ?_⟩) (by assumption) ?_
            rotate_left
            · (intro w hSw; (try dsimp only at hSw); go_simp <;> with_reducible rfl)
            (try simp only [Act.put, List.setIfInBounds_toArray, List.set_cons_zero, List.set_cons_succ])
            refine wpAnyH_done (by kernel_rfl) ?_ _
            go_wp2_with fail
            go_meet
            exact ⟨_, _, _, _, rfl, Nw.first HB2.out HB1.out HB3.out (by with_reducible repeat (first | exact IsGr.refl _ | refine IsGr.gr ?_ _ _ | refine IsGr.alloc ?_ _ | refine IsGr.drew ?_ | refine IsGr.drewN ?_ _)) (by with_reducible repeat (first | exact IsGr.refl _ | refine IsGr.gr ?_ _ _ | refine IsGr.alloc ?_ _ | refine IsGr.drew ?_ | refine IsGr.drewN ?_ _)) (by with_reducible repeat (first | exact IsGr.refl _ | refine IsGr.gr ?_ _ _ | refine IsGr.alloc ?_ _ | refine IsGr.drew ?_ | refine IsGr.drewN ?_ _)) (by with_reducible repeat (first | exact IsGr.refl _ | refine IsGr.gr ?_ _ _ | refine IsGr.alloc ?_ _ | refine IsGr.drew ?_ | refine IsGr.drewN ?_ _)) ⟨by simp, by simp, by simp⟩ (by have h1 := HB2.out.1; have h2 := HB1.out.1; have h3 := HB3.out.1; have k1 := HB2.out.2.1.lt; have k2 := HB1.out.2.1.lt; simp at h1 h2 h3; omega)⟩
          exact AllReadyH.nil
        exact AllReadyH.nil
      refine AllReadyH.cons (o := { dst := some 16, op := Op.makeSlice 26 (Operand.tmp 15) (Operand.tmp 15), type := 26, pos := "union.go:26", after := #[{ on := 4, ground := Ground.data }, { on := 4, ground := Ground.data }], guard := none }) rfl (fun K hK => ?_) ?_
      · refine step_make_row rfl (.tmp 15) rfl n rfl HN.out ?_
        intro w3 b3 HB3
        refine hK.out _ _ (by (try dsimp only); all_goals trivial) (fun hHeld2 => ?_)
        clear hK K hHeld
        have hHeld := hHeld2
        clear hHeld2
        (try simp only [Act.put, List.setIfInBounds_toArray, List.set_cons_zero, List.set_cons_succ])
        refine wpAnyH_ready (rs := [1]) (by kernel_rfl) (by simp) ?_
        refine AllReadyH.cons (o := { dst := some 12, op := Op.makeSlice 26 (Operand.tmp 11) (Operand.tmp 11), type := 26, pos := "union.go:26", after := #[{ on := 0, ground := Ground.data }, { on := 0, ground := Ground.data }], guard := none }) rfl (fun K hK => ?_) ?_
        · refine step_make_row rfl (.tmp 11) rfl n rfl HN.out ?_
          intro w1 b1 HB1
          refine hK.out _ _ (by (try dsimp only); all_goals trivial) (fun hHeld2 => ?_)
          clear hK K hHeld
          have hHeld := hHeld2
          clear hHeld2
          (try simp only [Act.put, List.setIfInBounds_toArray, List.set_cons_zero, List.set_cons_succ])
          refine wpAnyH_take (i := 7) (oi := { dst := some 18, op := Op.build 51 #[(0, Operand.tmp 12), (1, Operand.tmp 14), (2, Operand.tmp 16), (3, Operand.tmp 17)], type := 51, pos := "union.go:26", after := #[{ on := 1, ground := Ground.data }, { on := 3, ground := Ground.data }, { on := 5, ground := Ground.data }, { on := 6, ground := Ground.data }], guard := none }) (v := ?_) rfl (by kernel_rfl) (by kernel_rfl) (by kernel_rfl) (fun _ _ _ h => h) (Or.inl ⟨by rfl, ?_⟩) (by assumption) ?_
          rotate_left
          · (intro w hSw; (try dsimp only at hSw); go_simp <;> with_reducible rfl)
          (try simp only [Act.put, List.setIfInBounds_toArray, List.set_cons_zero, List.set_cons_succ])
          refine wpAnyH_ready (rs := [8]) (by kernel_rfl) (by simp) ?_
          refine AllReadyH.cons (o := { dst := some 19, op := Op.box 51 (Operand.tmp 18), type := 24, pos := "union.go:26", after := #[{ on := 7, ground := Ground.data }], guard := none }) rfl (fun K hK => ?_) ?_
          · go_simp
            refine hK.out _ _ (by (try dsimp only); all_goals trivial) (fun hHeld2 => ?_)
            clear hK K hHeld
            have hHeld := hHeld2
            clear hHeld2
            (try simp only [Act.put, List.setIfInBounds_toArray, List.set_cons_zero, List.set_cons_succ])
            refine wpAnyH_take (i := 9) (oi := { dst := some 3, op := Op.assign (Operand.tmp 19), type := 24, pos := "union.go:26", after := #[{ on := 8, ground := Ground.data }, { on := 0, ground := Ground.phase }, { on := 1, ground := Ground.phase }, { on := 2, ground := Ground.phase }, { on := 3, ground := Ground.phase }, { on := 4, ground := Ground.phase }, { on := 5, ground := Ground.phase }, { on := 6, ground := Ground.phase }, { on := 7, ground := Ground.phase }, { on := 8, ground := Ground.phase }], guard := none }) (v := ?_) rfl (by kernel_rfl) (by kernel_rfl) (by kernel_rfl) (fun _ _ _ h => h) (Or.inl ⟨by rfl, ?_⟩) (by assumption) ?_
            rotate_left
            · (intro w hSw; (try dsimp only at hSw); go_simp <;> with_reducible rfl)
            (try simp only [Act.put, List.setIfInBounds_toArray, List.set_cons_zero, List.set_cons_succ])
            refine wpAnyH_done (by kernel_rfl) ?_ _
            go_wp2_with fail
            go_meet
            exact ⟨_, _, _, _, rfl, Nw.first HB2.out HB3.out HB1.out (by with_reducible repeat (first | exact IsGr.refl _ | refine IsGr.gr ?_ _ _ | refine IsGr.alloc ?_ _ | refine IsGr.drew ?_ | refine IsGr.drewN ?_ _)) (by with_reducible repeat (first | exact IsGr.refl _ | refine IsGr.gr ?_ _ _ | refine IsGr.alloc ?_ _ | refine IsGr.drew ?_ | refine IsGr.drewN ?_ _)) (by with_reducible repeat (first | exact IsGr.refl _ | refine IsGr.gr ?_ _ _ | refine IsGr.alloc ?_ _ | refine IsGr.drew ?_ | refine IsGr.drewN ?_ _)) (by with_reducible repeat (first | exact IsGr.refl _ | refine IsGr.gr ?_ _ _ | refine IsGr.alloc ?_ _ | refine IsGr.drew ?_ | refine IsGr.drewN ?_ _)) ⟨by simp, by simp, by simp⟩ (by have h1 := HB2.out.1; have h2 := HB3.out.1; have h3 := HB1.out.1; have k1 := HB2.out.2.1.lt; have k2 := HB3.out.2.1.lt; simp at h1 h2 h3; omega)⟩
          exact AllReadyH.nil
        exact AllReadyH.nil
      exact AllReadyH.nil
    refine AllReadyH.cons (o := { dst := some 16, op := Op.makeSlice 26 (Operand.tmp 15) (Operand.tmp 15), type := 26, pos := "union.go:26", after := #[{ on := 4, ground := Ground.data }, { on := 4, ground := Ground.data }], guard := none }) rfl (fun K hK => ?_) ?_
    · refine step_make_row rfl (.tmp 15) rfl n rfl HN.out ?_
      intro w3 b3 HB3
      refine hK.out _ _ (by (try dsimp only); all_goals trivial) (fun hHeld2 => ?_)
      clear hK K hHeld
      have hHeld := hHeld2
      clear hHeld2
      (try simp only [Act.put, List.setIfInBounds_toArray, List.set_cons_zero, List.set_cons_succ])
      refine wpAnyH_ready (rs := [1, 3]) (by kernel_rfl) (by simp) ?_
      refine AllReadyH.cons (o := { dst := some 12, op := Op.makeSlice 26 (Operand.tmp 11) (Operand.tmp 11), type := 26, pos := "union.go:26", after := #[{ on := 0, ground := Ground.data }, { on := 0, ground := Ground.data }], guard := none }) rfl (fun K hK => ?_) ?_
      · refine step_make_row rfl (.tmp 11) rfl n rfl HN.out ?_
        intro w1 b1 HB1
        refine hK.out _ _ (by (try dsimp only); all_goals trivial) (fun hHeld2 => ?_)
        clear hK K hHeld
        have hHeld := hHeld2
        clear hHeld2
        (try simp only [Act.put, List.setIfInBounds_toArray, List.set_cons_zero, List.set_cons_succ])
        refine wpAnyH_ready (rs := [3]) (by kernel_rfl) (by simp) ?_
        refine AllReadyH.cons (o := { dst := some 14, op := Op.makeSlice 26 (Operand.tmp 13) (Operand.tmp 13), type := 26, pos := "union.go:26", after := #[{ on := 2, ground := Ground.data }, { on := 2, ground := Ground.data }], guard := none }) rfl (fun K hK => ?_) ?_
        · refine step_make_row rfl (.tmp 13) rfl n rfl HN.out ?_
          intro w2 b2 HB2
          refine hK.out _ _ (by (try dsimp only); all_goals trivial) (fun hHeld2 => ?_)
          clear hK K hHeld
          have hHeld := hHeld2
          clear hHeld2
          (try simp only [Act.put, List.setIfInBounds_toArray, List.set_cons_zero, List.set_cons_succ])
          refine wpAnyH_take (i := 7) (oi := { dst := some 18, op := Op.build 51 #[(0, Operand.tmp 12), (1, Operand.tmp 14), (2, Operand.tmp 16), (3, Operand.tmp 17)], type := 51, pos := "union.go:26", after := #[{ on := 1, ground := Ground.data }, { on := 3, ground := Ground.data }, { on := 5, ground := Ground.data }, { on := 6, ground := Ground.data }], guard := none }) (v := ?_) rfl (by kernel_rfl) (by kernel_rfl) (by kernel_rfl) (fun _ _ _ h => h) (Or.inl ⟨by rfl, ?_⟩) (by assumption) ?_
          rotate_left
          · (intro w hSw; (try dsimp only at hSw); go_simp <;> with_reducible rfl)
          (try simp only [Act.put, List.setIfInBounds_toArray, List.set_cons_zero, List.set_cons_succ])
          refine wpAnyH_ready (rs := [8]) (by kernel_rfl) (by simp) ?_
          refine AllReadyH.cons (o := { dst := some 19, op := Op.box 51 (Operand.tmp 18), type := 24, pos := "union.go:26", after := #[{ on := 7, ground := Ground.data }], guard := none }) rfl (fun K hK => ?_) ?_
          · go_simp
            refine hK.out _ _ (by (try dsimp only); all_goals trivial) (fun hHeld2 => ?_)
            clear hK K hHeld
            have hHeld := hHeld2
            clear hHeld2
            (try simp only [Act.put, List.setIfInBounds_toArray, List.set_cons_zero, List.set_cons_succ])
            refine wpAnyH_take (i := 9) (oi := { dst := some 3, op := Op.assign (Operand.tmp 19), type := 24, pos := "union.go:26", after := #[{ on := 8, ground := Ground.data }, { on := 0, ground := Ground.phase }, { on := 1, ground := Ground.phase }, { on := 2, ground := Ground.phase }, { on := 3, ground := Ground.phase }, { on := 4, ground := Ground.phase }, { on := 5, ground := Ground.phase }, { on := 6, ground := Ground.phase }, { on := 7, ground := Ground.phase }, { on := 8, ground := Ground.phase }], guard := none }) (v := ?_) rfl (by kernel_rfl) (by kernel_rfl) (by kernel_rfl) (fun _ _ _ h => h) (Or.inl ⟨by rfl, ?_⟩) (by assumption) ?_
            rotate_left
            · (intro w hSw; (try dsimp only at hSw); go_simp <;> with_reducible rfl)
            (try simp only [Act.put, List.setIfInBounds_toArray, List.set_cons_zero, List.set_cons_succ])
            refine wpAnyH_done (by kernel_rfl) ?_ _
            go_wp2_with fail
            go_meet
            exact ⟨_, _, _, _, rfl, Nw.first HB3.out HB1.out HB2.out (by with_reducible repeat (first | exact IsGr.refl _ | refine IsGr.gr ?_ _ _ | refine IsGr.alloc ?_ _ | refine IsGr.drew ?_ | refine IsGr.drewN ?_ _)) (by with_reducible repeat (first | exact IsGr.refl _ | refine IsGr.gr ?_ _ _ | refine IsGr.alloc ?_ _ | refine IsGr.drew ?_ | refine IsGr.drewN ?_ _)) (by with_reducible repeat (first | exact IsGr.refl _ | refine IsGr.gr ?_ _ _ | refine IsGr.alloc ?_ _ | refine IsGr.drew ?_ | refine IsGr.drewN ?_ _)) (by with_reducible repeat (first | exact IsGr.refl _ | refine IsGr.gr ?_ _ _ | refine IsGr.alloc ?_ _ | refine IsGr.drew ?_ | refine IsGr.drewN ?_ _)) ⟨by simp, by simp, by simp⟩ (by have h1 := HB3.out.1; have h2 := HB1.out.1; have h3 := HB2.out.1; have k1 := HB3.out.2.1.lt; have k2 := HB1.out.2.1.lt; simp at h1 h2 h3; omega)⟩
          exact AllReadyH.nil
        exact AllReadyH.nil
      refine AllReadyH.cons (o := { dst := some 14, op := Op.makeSlice 26 (Operand.tmp 13) (Operand.tmp 13), type := 26, pos := "union.go:26", after := #[{ on := 2, ground := Ground.data }, { on := 2, ground := Ground.data }], guard := none }) rfl (fun K hK => ?_) ?_
      · refine step_make_row rfl (.tmp 13) rfl n rfl HN.out ?_
        intro w2 b2 HB2
        refine hK.out _ _ (by (try dsimp only); all_goals trivial) (fun hHeld2 => ?_)
        clear hK K hHeld
        have hHeld := hHeld2
        clear hHeld2
        (try simp only [Act.put, List.setIfInBounds_toArray, List.set_cons_zero, List.set_cons_succ])
        refine wpAnyH_ready (rs := [1]) (by kernel_rfl) (by simp) ?_
        refine AllReadyH.cons (o := { dst := some 12, op := Op.makeSlice 26 (Operand.tmp 11) (Operand.tmp 11), type := 26, pos := "union.go:26", after := #[{ on := 0, ground := Ground.data }, { on := 0, ground := Ground.data }], guard := none }) rfl (fun K hK => ?_) ?_
        · refine step_make_row rfl (.tmp 11) rfl n rfl HN.out ?_
          intro w1 b1 HB1
          refine hK.out _ _ (by (try dsimp only); all_goals trivial) (fun hHeld2 => ?_)
          clear hK K hHeld
          have hHeld := hHeld2
          clear hHeld2
          (try simp only [Act.put, List.setIfInBounds_toArray, List.set_cons_zero, List.set_cons_succ])
          refine wpAnyH_take (i := 7) (oi := { dst := some 18, op := Op.build 51 #[(0, Operand.tmp 12), (1, Operand.tmp 14), (2, Operand.tmp 16), (3, Operand.tmp 17)], type := 51, pos := "union.go:26", after := #[{ on := 1, ground := Ground.data }, { on := 3, ground := Ground.data }, { on := 5, ground := Ground.data }, { on := 6, ground := Ground.data }], guard := none }) (v := ?_) rfl (by kernel_rfl) (by kernel_rfl) (by kernel_rfl) (fun _ _ _ h => h) (Or.inl ⟨by rfl, ?_⟩) (by assumption) ?_
          rotate_left
          · (intro w hSw; (try dsimp only at hSw); go_simp <;> with_reducible rfl)
          (try simp only [Act.put, List.setIfInBounds_toArray, List.set_cons_zero, List.set_cons_succ])
          refine wpAnyH_ready (rs := [8]) (by kernel_rfl) (by simp) ?_
          refine AllReadyH.cons (o := { dst := some 19, op := Op.box 51 (Operand.tmp 18), type := 24, pos := "union.go:26", after := #[{ on := 7, ground := Ground.data }], guard := none }) rfl (fun K hK => ?_) ?_
          · go_simp
            refine hK.out _ _ (by (try dsimp only); all_goals trivial) (fun hHeld2 => ?_)
            clear hK K hHeld
            have hHeld := hHeld2
            clear hHeld2
            (try simp only [Act.put, List.setIfInBounds_toArray, List.set_cons_zero, List.set_cons_succ])
            refine wpAnyH_take (i := 9) (oi := { dst := some 3, op := Op.assign (Operand.tmp 19), type := 24, pos := "union.go:26", after := #[{ on := 8, ground := Ground.data }, { on := 0, ground := Ground.phase }, { on := 1, ground := Ground.phase }, { on := 2, ground := Ground.phase }, { on := 3, ground := Ground.phase }, { on := 4, ground := Ground.phase }, { on := 5, ground := Ground.phase }, { on := 6, ground := Ground.phase }, { on := 7, ground := Ground.phase }, { on := 8, ground := Ground.phase }], guard := none }) (v := ?_) rfl (by kernel_rfl) (by kernel_rfl) (by kernel_rfl) (fun _ _ _ h => h) (Or.inl ⟨by rfl, ?_⟩) (by assumption) ?_
            rotate_left
            · (intro w hSw; (try dsimp only at hSw); go_simp <;> with_reducible rfl)
            (try simp only [Act.put, List.setIfInBounds_toArray, List.set_cons_zero, List.set_cons_succ])
            refine wpAnyH_done (by kernel_rfl) ?_ _
            go_wp2_with fail
            go_meet
            exact ⟨_, _, _, _, rfl, Nw.first HB3.out HB2.out HB1.out (by with_reducible repeat (first | exact IsGr.refl _ | refine IsGr.gr ?_ _ _ | refine IsGr.alloc ?_ _ | refine IsGr.drew ?_ | refine IsGr.drewN ?_ _)) (by with_reducible repeat (first | exact IsGr.refl _ | refine IsGr.gr ?_ _ _ | refine IsGr.alloc ?_ _ | refine IsGr.drew ?_ | refine IsGr.drewN ?_ _)) (by with_reducible repeat (first | exact IsGr.refl _ | refine IsGr.gr ?_ _ _ | refine IsGr.alloc ?_ _ | refine IsGr.drew ?_ | refine IsGr.drewN ?_ _)) (by with_reducible repeat (first | exact IsGr.refl _ | refine IsGr.gr ?_ _ _ | refine IsGr.alloc ?_ _ | refine IsGr.drew ?_ | refine IsGr.drewN ?_ _)) ⟨by simp, by simp, by simp⟩ (by have h1 := HB3.out.1; have h2 := HB2.out.1; have h3 := HB1.out.1; have k1 := HB3.out.2.1.lt; have k2 := HB2.out.2.1.lt; simp at h1 h2 h3; omega)⟩
          exact AllReadyH.nil
        exact AllReadyH.nil
      exact AllReadyH.nil
    exact AllReadyH.nil

  case rest =>
    obtain ⟨t, gu, gz, gm, rfl, HW⟩ := hcut
    go_wp2_with fail
    go_loopg [21] n (fun r p21 wr => ∃ a : Nat, a + r = n ∧ p21 = .int .i64 a ∧ Hid (Nw w t gu gz gm n a wr))
    case atStart => exact ⟨0, by omega, rfl, HW.out⟩
    case round =>
      obtain ⟨a, hk, rfl, HA⟩ := hrel
      by_cases han : a < n
      · have han' : (a : Int) < n := by omega
        have e1 : IntKind.i64.wrap ((a : Int) + 1) = (a : Int) + 1 := by rw [IntKind.wrap_i64]; have := HN.out; omega
        have c0 := HA.out.m.b.c0
        have c1 := HA.out.m.b.c1
        have c2 := HA.out.m.b.c2
        have cu := HA.out.m.ru.cell (i := a) (by rw [prt_len]; exact han)
        have cz := HA.out.m.rz.cell (i := a) (by rw [prt_len]; exact han)
        have cm := HA.out.m.rm.cell (i := a) (by rw [prt_len]; exact han)
        have fu := HA.out.m.ru.fz a
        have fz := HA.out.m.rz.fz a
        have fm := HA.out.m.rm.fz a
        obtain ⟨d1, d2, d3, d4, d5, d6⟩ := HA.out.ds
        have x4 := Ne.symm d4
        have x5 := Ne.symm d5
        have x6 := Ne.symm d6
        have HB := HA.out.drew.next han
        have HB2 : Hid _ := HB
        clear HB
        go_upto_region 7 with fail
        go_region
        go_wp2_with fail
        go_roundg (n - (a + 1))
        case measure => omega
        case rel => exact ⟨a + 1, by omega, by simp, HB2.out⟩
      · obtain rfl : a = n := by omega
        have han' : ¬ (a : Int) < a := by omega
        go_wp2_with fail
        go_ret
        exact ⟨t, rfl, ⟨gu, gz, gm, HA.out.un HN.out⟩, HA.out.bel⟩

set_option maxRecDepth 20000 in set_option maxHeartbeats 2000000 in
theorem New_lo (k : Int) (w : World) (q1 : k < 0) : Calls Try.prog 8 #[.int .i64 k] w fun e w' => ∃ t, e = .returned (.pointer (some ⟨t, 0, none⟩)) ∧ UnE w' w.heap.size t (rng 0) ∧ Below w.heap.size w w' := by
  go_enter Try.func8, Try.ntmps8
  go_upto_region 3 with fail
  go_cut [3] (fun t3 wr => ∃ t gu gz gm : Nat, t3 = .pointer (some ⟨t, 0, none⟩) ∧ Hid (Nw w t gu gz gm 0 0 wr))
  case first =>
    refine wp_region_held_drew (S := (fun _ => True)) (by kernel_rfl) (by (try dsimp only); all_goals trivial) (fun hHeld => ?_)
    refine wpAnyH_take (i := 0) (oi := { dst := some 11, op := Op.move (Operand.tmp 0), type := 3, pos := "union.go:26", after := #[], guard := none }) (v := ?_) rfl (by kernel_rfl) (by kernel_rfl) (by kernel_rfl) (fun _ _ _ h => h) (Or.inl ⟨by rfl, ?_⟩) (by assumption) ?_
    rotate_left
    · (intro w hSw; (try dsimp only at hSw); go_simp <;> with_reducible rfl)
    (try simp only [Act.put, List.setIfInBounds_toArray, List.set_cons_zero, List.set_cons_succ])
    refine wpAnyH_take (i := 2) (oi := { dst := some 13, op := Op.move (Operand.tmp 0), type := 3, pos := "union.go:26", after := #[], guard := none }) (v := ?_) rfl (by kernel_rfl) (by kernel_rfl) (by kernel_rfl) (fun _ _ _ h => h) (Or.inl ⟨by rfl, ?_⟩) (by assumption) ?_
    rotate_left
    · (intro w hSw; (try dsimp only at hSw); go_simp <;> with_reducible rfl)
    (try simp only [Act.put, List.setIfInBounds_toArray, List.set_cons_zero, List.set_cons_succ])
    refine wpAnyH_take (i := 4) (oi := { dst := some 15, op := Op.move (Operand.tmp 0), type := 3, pos := "union.go:26", after := #[], guard := none }) (v := ?_) rfl (by kernel_rfl) (by kernel_rfl) (by kernel_rfl) (fun _ _ _ h => h) (Or.inl ⟨by rfl, ?_⟩) (by assumption) ?_
    rotate_left
    · (intro w hSw; (try dsimp only at hSw); go_simp <;> with_reducible rfl)
    (try simp only [Act.put, List.setIfInBounds_toArray, List.set_cons_zero, List.set_cons_succ])
    refine wpAnyH_take (i := 6) (oi := { dst := some 17, op := Op.move (Operand.tmp 0), type := 3, pos := "union.go:26", after := #[], guard := none }) (v := ?_) rfl (by kernel_rfl) (by kernel_rfl) (by kernel_rfl) (fun _ _ _ h => h) (Or.inl ⟨by rfl, ?_⟩) (by assumption) ?_
    rotate_left
    · (intro w hSw; (try dsimp only at hSw); go_simp <;> with_reducible rfl)
    (try simp only [Act.put, List.setIfInBounds_toArray, List.set_cons_zero, List.set_cons_succ])
    refine wpAnyH_ready (rs := [1, 3, 5]) (by kernel_rfl) (by simp) ?_
    refine AllReadyH.cons (o := { dst := some 12, op := Op.makeSlice 26 (Operand.tmp 11) (Operand.tmp 11), type := 26, pos := "union.go:26", after := #[{ on := 0, ground := Ground.data }, { on := 0, ground := Ground.data }], guard := none }) rfl (fun K hK => ?_) ?_
    · refine step_make_row rfl (.tmp 11) rfl 0 rfl (by decide) ?_
      intro w1 b1 HB1
      refine hK.out _ _ (by (try dsimp only); all_goals trivial) (fun hHeld2 => ?_)
      clear hK K hHeld
      have hHeld := hHeld2
      clear hHeld2
      (try simp only [Act.put, List.setIfInBounds_toArray, List.set_cons_zero, List.set_cons_succ])
      refine wpAnyH_ready (rs := [3, 5]) (by kernel_rfl) (by simp) ?_
      refine AllReadyH.cons (o := { dst := some 14, op := Op.makeSlice 26 (Operand.tmp 13) (Operand.tmp 13), type := 26, pos := "union.go:26", after := #[{ on := 2, ground := Ground.data }, { on := 2, ground := Ground.data }], guard := none }) rfl (fun K hK => ?_) ?_
      · refine step_make_row rfl (.tmp 13) rfl 0 rfl (by decide) ?_
        intro w2 b2 HB2
        refine hK.out _ _ (by (try dsimp only); all_goals trivial) (fun hHeld2 => ?_)
        clear hK K hHeld
        have hHeld := hHeld2
        clear hHeld2
        (try simp only [Act.put, List.setIfInBounds_toArray, List.set_cons_zero, List.set_cons_succ])
        refine wpAnyH_ready (rs := [5]) (by kernel_rfl) (by simp) ?_
        refine AllReadyH.cons (o := { dst := some 16, op := Op.makeSlice 26 (Operand.tmp 15) (Operand.tmp 15), type := 26, pos := "union.go:26", after := #[{ on := 4, ground := Ground.data }, { on := 4, ground := Ground.data }], guard := none }) rfl (fun K hK => ?_) ?_
        · refine step_make_row rfl (.tmp 15) rfl 0 rfl (by decide) ?_
          intro w3 b3 HB3
          refine hK.out _ _ (by (try dsimp only); all_goals trivial) (fun hHeld2 => ?_)
          clear hK K hHeld
          have hHeld := hHeld2
          clear hHeld2
          (try simp only [Act.put, List.setIfInBounds_toArray, List.set_cons_zero, List.set_cons_succ])
          refine wpAnyH_take (i := 7) (oi := { dst := some 18, op := Op.build 51 #[(0, Operand.tmp 12), (1, Operand.tmp 14), (2, Operand.tmp 16), (3, Operand.tmp 17)], type := 51, pos := "union.go:26", after := #[{ on := 1, ground := Ground.data }, { on := 3, ground := Ground.data }, { on := 5, ground := Ground.data }, { on := 6, ground := Ground.data }], guard := none }) (v := ?_) rfl (by kernel_rfl) (by kernel_rfl) (by kernel_rfl) (fun _ _ _ h => h) (Or.inl ⟨by rfl, ?_⟩) (by assumption) ?_
          rotate_left
          · (intro w hSw; (try dsimp only at hSw); go_simp <;> with_reducible rfl)
          (try simp only [Act.put, List.setIfInBounds_toArray, List.set_cons_zero, List.set_cons_succ])
          refine wpAnyH_ready (rs := [8]) (by kernel_rfl) (by simp) ?_
          refine AllReadyH.cons (o := { dst := some 19, op := Op.box 51 (Operand.tmp 18), type := 24, pos := "union.go:26", after := #[{ on := 7, ground := Ground.data }], guard := none }) rfl (fun K hK => ?_) ?_
          · go_simp
            refine hK.out _ _ (by (try dsimp only); all_goals trivial) (fun hHeld2 => ?_)
            clear hK K hHeld
            have hHeld := hHeld2
            clear hHeld2
            (try simp only [Act.put, List.setIfInBounds_toArray, List.set_cons_zero, List.set_cons_succ])
            refine wpAnyH_take (i := 9) (oi := { dst := some 3, op := Op.assign (Operand.tmp 19), type := 24, pos := "union.go:26", after := #[{ on := 8, ground := Ground.data }, { on := 0, ground := Ground.phase }, { on := 1, ground := Ground.phase }, { on := 2, ground := Ground.phase }, { on := 3, ground := Ground.phase }, { on := 4, ground := Ground.phase }, { on := 5, ground := Ground.phase }, { on := 6, ground := Ground.phase }, { on := 7, ground := Ground.phase }, { on := 8, ground := Ground.phase }], guard := none }) (v := ?_) rfl (by kernel_rfl) (by kernel_rfl) (by kernel_rfl) (fun _ _ _ h => h) (Or.inl ⟨by rfl, ?_⟩) (by assumption) ?_
            rotate_left
            · (intro w hSw; (try dsimp only at hSw); go_simp <;> with_reducible rfl)
            (try simp only [Act.put, List.setIfInBounds_toArray, List.set_cons_zero, List.set_cons_succ])
            refine wpAnyH_done (by kernel_rfl) ?_ _
            go_wp2_with fail
            go_meet
            exact ⟨_, _, _, _, rfl, Nw.first HB1.out HB2.out HB3.out (by with_reducible repeat (first | exact IsGr.refl _ | refine IsGr.gr ?_ _ _ | refine IsGr.alloc ?_ _ | refine IsGr.drew ?_ | refine IsGr.drewN ?_ _)) (by with_reducible repeat (first | exact IsGr.refl _ | refine IsGr.gr ?_ _ _ | refine IsGr.alloc ?_ _ | refine IsGr.drew ?_ | refine IsGr.drewN ?_ _)) (by with_reducible repeat (first | exact IsGr.refl _ | refine IsGr.gr ?_ _ _ | refine IsGr.alloc ?_ _ | refine IsGr.drew ?_ | refine IsGr.drewN ?_ _)) (by with_reducible repeat (first | exact IsGr.refl _ | refine IsGr.gr ?_ _ _ | refine IsGr.alloc ?_ _ | refine IsGr.drew ?_ | refine IsGr.drewN ?_ _)) ⟨by simp, by simp, by simp⟩ (by have h1 := HB1.out.1; have h2 := HB2.out.1; have h3 := HB3.out.1; have k1 := HB1.out.2.1.lt; have k2 := HB2.out.2.1.lt; simp at h1 h2 h3; omega)⟩
          exact AllReadyH.nil
        exact AllReadyH.nil
      refine AllReadyH.cons (o := { dst := some 16, op := Op.makeSlice 26 (Operand.tmp 15) (Operand.tmp 15), type := 26, pos := "union.go:26", after := #[{ on := 4, ground := Ground.data }, { on := 4, ground := Ground.data }], guard := none }) rfl (fun K hK => ?_) ?_
      · refine step_make_row rfl (.tmp 15) rfl 0 rfl (by decide) ?_
        intro w3 b3 HB3
        refine hK.out _ _ (by (try dsimp only); all_goals trivial) (fun hHeld2 => ?_)
        clear hK K hHeld
        have hHeld := hHeld2
        clear hHeld2
        (try simp only [Act.put, List.setIfInBounds_toArray, List.set_cons_zero, List.set_cons_succ])
        refine wpAnyH_ready (rs := [3]) (by kernel_rfl) (by simp) ?_
        refine AllReadyH.cons (o := { dst := some 14, op := Op.makeSlice 26 (Operand.tmp 13) (Operand.tmp 13), type := 26, pos := "union.go:26", after := #[{ on := 2, ground := Ground.data }, { on := 2, ground := Ground.data }], guard := none }) rfl (fun K hK => ?_) ?_
        · refine step_make_row rfl (.tmp 13) rfl 0 rfl (by decide) ?_
          intro w2 b2 HB2
          refine hK.out _ _ (by (try dsimp only); all_goals trivial) (fun hHeld2 => ?_)
          clear hK K hHeld
          have hHeld := hHeld2
          clear hHeld2
          (try simp only [Act.put, List.setIfInBounds_toArray, List.set_cons_zero, List.set_cons_succ])
          refine wpAnyH_take (i := 7) (oi := { dst := some 18, op := Op.build 51 #[(0, Operand.tmp 12), (1, Operand.tmp 14), (2, Operand.tmp 16), (3, Operand.tmp 17)], type := 51, pos := "union.go:26", after := #[{ on := 1, ground := Ground.data }, { on := 3, ground := Ground.data }, { on := 5, ground := Ground.data }, { on := 6, ground := Ground.data }], guard := none }) (v := ?_) rfl (by kernel_rfl) (by kernel_rfl) (by kernel_rfl) (fun _ _ _ h => h) (Or.inl ⟨by rfl, ?_⟩) (by assumption) ?_
          rotate_left
          · (intro w hSw; (try dsimp only at hSw); go_simp <;> with_reducible rfl)
          (try simp only [Act.put, List.setIfInBounds_toArray, List.set_cons_zero, List.set_cons_succ])
          refine wpAnyH_ready (rs := [8]) (by kernel_rfl) (by simp) ?_
          refine AllReadyH.cons (o := { dst := some 19, op := Op.box 51 (Operand.tmp 18), type := 24, pos := "union.go:26", after := #[{ on := 7, ground := Ground.data }], guard := none }) rfl (fun K hK => ?_) ?_
          · go_simp
            refine hK.out _ _ (by (try dsimp only); all_goals trivial) (fun hHeld2 => ?_)
            clear hK K hHeld
            have hHeld := hHeld2
            clear hHeld2
            (try simp only [Act.put, List.setIfInBounds_toArray, List.set_cons_zero, List.set_cons_succ])
            refine wpAnyH_take (i := 9) (oi := { dst := some 3, op := Op.assign (Operand.tmp 19), type := 24, pos := "union.go:26", after := #[{ on := 8, ground := Ground.data }, { on := 0, ground := Ground.phase }, { on := 1, ground := Ground.phase }, { on := 2, ground := Ground.phase }, { on := 3, ground := Ground.phase }, { on := 4, ground := Ground.phase }, { on := 5, ground := Ground.phase }, { on := 6, ground := Ground.phase }, { on := 7, ground := Ground.phase }, { on := 8, ground := Ground.phase }], guard := none }) (v := ?_) rfl (by kernel_rfl) (by kernel_rfl) (by kernel_rfl) (fun _ _ _ h => h) (Or.inl ⟨by rfl, ?_⟩) (by assumption) ?_
            rotate_left
            · (intro w hSw; (try dsimp only at hSw); go_simp <;> with_reducible rfl)
            (try simp only [Act.put, List.setIfInBounds_toArray, List.set_cons_zero, List.set_cons_succ])
            refine wpAnyH_done (by kernel_rfl) ?_ _
            go_wp2_with fail
            go_meet
            exact ⟨_, _, _, _, rfl, Nw.first HB1.out HB3.out HB2.out (by with_reducible repeat (first | exact IsGr.refl _ | refine IsGr.gr ?_ _ _ | refine IsGr.alloc ?_ _ | refine IsGr.drew ?_ | refine IsGr.drewN ?_ _)) (by with_reducible repeat (first | exact IsGr.refl _ | refine IsGr.gr ?_ _ _ | refine IsGr.alloc ?_ _ | refine IsGr.drew ?_ | refine IsGr.drewN ?_ _)) (by with_reducible repeat (first | exact IsGr.refl _ | refine IsGr.gr ?_ _ _ | refine IsGr.alloc ?_ _ | refine IsGr.drew ?_ | refine IsGr.drewN ?_ _)) (by with_reducible repeat (first | exact IsGr.refl _ | refine IsGr.gr ?_ _ _ | refine IsGr.alloc ?_ _ | refine IsGr.drew ?_ | refine IsGr.drewN ?_ _)) ⟨by simp, by simp, by simp⟩ (by have h1 := HB1.out.1; have h2 := HB3.out.1; have h3 := HB2.out.1; have k1 := HB1.out.2.1.lt; have k2 := HB3.out.2.1.lt; simp at h1 h2 h3; omega)⟩
          exact AllReadyH.nil
        exact AllReadyH.nil
      exact AllReadyH.nil
    refine AllReadyH.cons (o := { dst := some 14, op := Op.makeSlice 26 (Operand.tmp 13) (Operand.tmp 13), type := 26, pos := "union.go:26", after := #[{ on := 2, ground := Ground.data }, { on := 2, ground := Ground.data }], guard := none }) rfl (fun K hK => ?_) ?_
    · refine step_make_row rfl (.tmp 13) rfl 0 rfl (by decide) ?_
      intro w2 b2 HB2
      refine hK.out _ _ (by (try dsimp only); all_goals trivial) (fun hHeld2 => ?_)
      clear hK K hHeld
      have hHeld := hHeld2
      clear hHeld2
      (try simp only [Act.put, List.setIfInBounds_toArray, List.set_cons_zero, List.set_cons_succ])
      refine wpAnyH_ready (rs := [1, 5]) (by kernel_rfl) (by simp) ?_
      refine AllReadyH.cons (o := { dst := some 12, op := Op.makeSlice 26 (Operand.tmp 11) (Operand.tmp 11), type := 26, pos := "union.go:26", after := #[{ on := 0, ground := Ground.data }, { on := 0, ground := Ground.data }], guard := none }) rfl (fun K hK => ?_) ?_
      · refine step_make_row rfl (.tmp 11) rfl 0 rfl (by decide) ?_
        intro w1 b1 HB1
        refine hK.out _ _ (by (try dsimp only); all_goals trivial) (fun hHeld2 => ?_)
        clear hK K hHeld
        have hHeld := hHeld2
        clear hHeld2
        (try simp only [Act.put, List.setIfInBounds_toArray, List.set_cons_zero, List.set_cons_succ])
        refine wpAnyH_ready (rs := [5]) (by kernel_rfl) (by simp) ?_
        refine AllReadyH.cons (o := { dst := some 16, op := Op.makeSlice 26 (Operand.tmp 15) (Operand.tmp 15), type := 26, pos := "union.go:26", after := #[{ on := 4, ground := Ground.data }, { on := 4, ground := Ground.data }], guard := none }) rfl (fun K hK => ?_) ?_
        · refine step_make_row rfl (.tmp 15) rfl 0 rfl (by decide) ?_
          intro w3 b3 HB3
          refine hK.out _ _ (by (try dsimp only); all_goals trivial) (fun hHeld2 => ?_)
          clear hK K hHeld
          have hHeld := hHeld2
          clear hHeld2
          (try simp only [Act.put, List.setIfInBounds_toArray, List.set_cons_zero, List.set_cons_succ])
          refine wpAnyH_take (i := 7) (oi := { dst := some 18, op := Op.build 51 #[(0, Operand.tmp 12), (1, Operand.tmp 14), (2, Operand.tmp 16), (3, Operand.tmp 17)], type := 51, pos := "union.go:26", after := #[{ on := 1, ground := Ground.data }, { on := 3, ground := Ground.data }, { on := 5, ground := Ground.data }, { on := 6, ground := Ground.data }], guard := none }) (v := ?_) rfl (by kernel_rfl) (by kernel_rfl) (by kernel_rfl) (fun _ _ _ h => h) (Or.inl ⟨by rfl, ?_⟩) (by assumption) ?_
          rotate_left
          · (intro w hSw; (try dsimp only at hSw); go_simp <;> with_reducible rfl)
          (try simp only [Act.put, List.setIfInBounds_toArray, List.set_cons_zero, List.set_cons_succ])
          refine wpAnyH_ready (rs := [8]) (by kernel_rfl) (by simp) ?_
          refine AllReadyH.cons (o := { dst := some 19, op := Op.box 51 (Operand.tmp 18), type := 24, pos := "union.go:26", after := #[{ on := 7, ground := Ground.data }], guard := none }) rfl (fun K hK => ?_) ?_
          · go_simp
            refine hK.out _ _ (by (try dsimp only); all_goals trivial) (fun hHeld2 => ?_)
            clear hK K hHeld
            have hHeld := hHeld2
            clear hHeld2
            (try simp only [Act.put, List.setIfInBounds_toArray, List.set_cons_zero, List.set_cons_succ])
            refine wpAnyH_take (i := 9) (oi := { dst := some 3, op := Op.assign (Operand.tmp 19), type := 24, pos := "union.go:26", after := #[{ on := 8, ground := Ground.data }, { on := 0, ground := Ground.phase }, { on := 1, ground := Ground.phase }, { on := 2, ground := Ground.phase }, { on := 3, ground := Ground.phase }, { on := 4, ground := Ground.phase }, { on := 5, ground := Ground.phase }, { on := 6, ground := Ground.phase }, { on := 7, ground := Ground.phase }, { on := 8, ground := Ground.phase }], guard := none }) (v := ?_) rfl (by kernel_rfl) (by kernel_rfl) (by kernel_rfl) (fun _ _ _ h => h) (Or.inl ⟨by rfl, ?_⟩) (by assumption) ?_
            rotate_left
            · (intro w hSw; (try dsimp only at hSw); go_simp <;> with_reducible rfl)
            (try simp only [Act.put, List.setIfInBounds_toArray, List.set_cons_zero, List.set_cons_succ])
            refine wpAnyH_done (by kernel_rfl) ?_ _
            go_wp2_with fail
            go_meet
            exact ⟨_, _, _, _, rfl, Nw.first HB2.out HB1.out HB3.out (by with_reducible repeat (first | exact IsGr.refl _ | refine IsGr.gr ?_ _ _ | refine IsGr.alloc ?_ _ | refine IsGr.drew ?_ | refine IsGr.drewN ?_ _)) (by with_reducible repeat (first | exact IsGr.refl _ | refine IsGr.gr ?_ _ _ | refine IsGr.alloc ?_ _ | refine IsGr.drew ?_ | refine IsGr.drewN ?_ _)) (by with_reducible repeat (first | exact IsGr.refl _ | refine IsGr.gr ?_ _ _ | refine IsGr.alloc ?_ _ | refine IsGr.drew ?_ | refine IsGr.drewN ?_ _)) (by with_reducible repeat (first | exact IsGr.refl _ | refine IsGr.gr ?_ _ _ | refine IsGr.alloc ?_ _ | refine IsGr.drew ?_ | refine IsGr.drewN ?_ _)) ⟨by simp, by simp, by simp⟩ (by have h1 := HB2.out.1; have h2 := HB1.out.1; have h3 := HB3.out.1; have k1 := HB2.out.2.1.lt; have k2 := HB1.out.2.1.lt; simp at h1 h2 h3; omega)⟩
          exact AllReadyH.nil
        exact AllReadyH.nil
      refine AllReadyH.cons (o := { dst := some 16, op := Op.makeSlice 26 (Operand.tmp 15) (Operand.tmp 15), type := 26, pos := "union.go:26", after := #[{ on := 4, ground := Ground.data }, { on := 4, ground := Ground.data }], guard := none }) rfl (fun K hK => ?_) ?_
      · refine step_make_row rfl (.tmp 15) rfl 0 rfl (by decide) ?_
        intro w3 b3 HB3
        refine hK.out _ _ (by (try dsimp only); all_goals trivial) (fun hHeld2 => ?_)
        clear hK K hHeld
        have hHeld := hHeld2
        clear hHeld2
        (try simp only [Act.put, List.setIfInBounds_toArray, List.set_cons_zero, List.set_cons_succ])
        refine wpAnyH_ready (rs := [1]) (by kernel_rfl) (by simp) ?_
        refine AllReadyH.cons (o := { dst := some 12, op := Op.makeSlice 26 (Operand.tmp 11) (Operand.tmp 11), type := 26, pos := "union.go:26", after := #[{ on := 0, ground := Ground.data }, { on := 0, ground := Ground.data }], guard := none }) rfl (fun K hK => ?_) ?_
        · refine step_make_row rfl (.tmp 11) rfl 0 rfl (by decide) ?_
          intro w1 b1 HB1
          refine hK.out _ _ (by (try dsimp only); all_goals trivial) (fun hHeld2 => ?_)
          clear hK K hHeld
          have hHeld := hHeld2
          clear hHeld2
          (try simp only [Act.put, List.setIfInBounds_toArray, List.set_cons_zero, List.set_cons_succ])
          refine wpAnyH_take (i := 7) (oi := { dst := some 18, op := Op.build 51 #[(0, Operand.tmp 12), (1, Operand.tmp 14), (2, Operand.tmp 16), (3, Operand.tmp 17)], type := 51, pos := "union.go:26", after := #[{ on := 1, ground := Ground.data }, { on := 3, ground := Ground.data }, { on := 5, ground := Ground.data }, { on := 6, ground := Ground.data }], guard := none }) (v := ?_) rfl (by kernel_rfl) (by kernel_rfl) (by kernel_rfl) (fun _ _ _ h => h) (Or.inl ⟨by rfl, ?_⟩) (by assumption) ?_
          rotate_left
          · (intro w hSw; (try dsimp only at hSw); go_simp <;> with_reducible rfl)
          (try simp only [Act.put, List.setIfInBounds_toArray, List.set_cons_zero, List.set_cons_succ])
          refine wpAnyH_ready (rs := [8]) (by kernel_rfl) (by simp) ?_
          refine AllReadyH.cons (o := { dst := some 19, op := Op.box 51 (Operand.tmp 18), type := 24, pos := "union.go:26", after := #[{ on := 7, ground := Ground.data }], guard := none }) rfl (fun K hK => ?_) ?_
          · go_simp
            refine hK.out _ _ (by (try dsimp only); all_goals trivial) (fun hHeld2 => ?_)
            clear hK K hHeld
            have hHeld := hHeld2
            clear hHeld2
            (try simp only [Act.put, List.setIfInBounds_toArray, List.set_cons_zero, List.set_cons_succ])
            refine wpAnyH_take (i := 9) (oi := { dst := some 3, op := Op.assign (Operand.tmp 19), type := 24, pos := "union.go:26", after := #[{ on := 8, ground := Ground.data }, { on := 0, ground := Ground.phase }, { on := 1, ground := Ground.phase }, { on := 2, ground := Ground.phase }, { on := 3, ground := Ground.phase }, { on := 4, ground := Ground.phase }, { on := 5, ground := Ground.phase }, { on := 6, ground := Ground.phase }, { on := 7, ground := Ground.phase }, { on := 8, ground := Ground.phase }], guard := none }) (v := ?_) rfl (by kernel_rfl) (by kernel_rfl) (by kernel_rfl) (fun _ _ _ h => h) (Or.inl ⟨by rfl, ?_⟩) (by assumption) ?_
            rotate_left
            · (intro w hSw; (try dsimp only at hSw); go_simp <;> with_reducible rfl)
            (try simp only [Act.put, List.setIfInBounds_toArray, List.set_cons_zero, List.set_cons_succ])
            refine wpAnyH_done (by kernel_rfl) ?_ _
            go_wp2_with fail
            go_meet
            exact ⟨_, _, _, _, rfl, Nw.first HB2.out HB3.out HB1.out (by with_reducible repeat (first | exact IsGr.refl _ | refine IsGr.gr ?_ _ _ | refine IsGr.alloc ?_ _ | refine IsGr.drew ?_ | refine IsGr.drewN ?_ _)) (by with_reducible repeat (first | exact IsGr.refl _ | refine IsGr.gr ?_ _ _ | refine IsGr.alloc ?_ _ | refine IsGr.drew ?_ | refine IsGr.drewN ?_ _)) (by with_reducible repeat (first | exact IsGr.refl _ | refine IsGr.gr ?_ _ _ | refine IsGr.alloc ?_ _ | refine IsGr.drew ?_ | refine IsGr.drewN ?_ _)) (by with_reducible repeat (first | exact IsGr.refl _ | refine IsGr.gr ?_ _ _ | refine IsGr.alloc ?_ _ | refine IsGr.drew ?_ | refine IsGr.drewN ?_ _)) ⟨by simp, by simp, by simp⟩ (by have h1 := HB2.out.1; have h2 := HB3.out.1; have h3 := HB1.out.1; have k1 := HB2.out.2.1.lt; have k2 := HB3.out.2.1.lt; simp at h1 h2 h3; omega)⟩
          exact AllReadyH.nil
        exact AllReadyH.nil
      exact AllReadyH.nil
    refine AllReadyH.cons (o := { dst := some 16, op := Op.makeSlice 26 (Operand.tmp 15) (Operand.tmp 15), type := 26, pos := "union.go:26", after := #[{ on := 4, ground := Ground.data }, { on := 4, ground := Ground.data }], guard := none }) rfl (fun K hK => ?_) ?_
    · refine step_make_row rfl (.tmp 15) rfl 0 rfl (by decide) ?_
      intro w3 b3 HB3
      refine hK.out _ _ (by (try dsimp only); all_goals trivial) (fun hHeld2 => ?_)
      clear hK K hHeld
      have hHeld := hHeld2
      clear hHeld2
      (try simp only [Act.put, List.setIfInBounds_toArray, List.set_cons_zero, List.set_cons_succ])
      refine wpAnyH_ready (rs := [1, 3]) (by kernel_rfl) (by simp) ?_
      refine AllReadyH.cons (o := { dst := some 12, op := Op.makeSlice 26 (Operand.tmp 11) (Operand.tmp 11), type := 26, pos := "union.go:26", after := #[{ on := 0, ground := Ground.data }, { on := 0, ground := Ground.data }], guard := none }) rfl (fun K hK => ?_) ?_
      · refine step_make_row rfl (.tmp 11) rfl 0 rfl (by decide) ?_
        intro w1 b1 HB1
        refine hK.out _ _ (by (try dsimp only); all_goals trivial) (fun hHeld2 => ?_)
        clear hK K hHeld
        have hHeld := hHeld2
        clear hHeld2
        (try simp only [Act.put, List.setIfInBounds_toArray, List.set_cons_zero, List.set_cons_succ])
        refine wpAnyH_ready (rs := [3]) (by kernel_rfl) (by simp) ?_
        refine AllReadyH.cons (o := { dst := some 14, op := Op.makeSlice 26 (Operand.tmp 13) (Operand.tmp 13), type := 26, pos := "union.go:26", after := #[{ on := 2, ground := Ground.data }, { on := 2, ground := Ground.data }], guard := none }) rfl (fun K hK => ?_) ?_
        · refine step_make_row rfl (.tmp 13) rfl 0 rfl (by decide) ?_
          intro w2 b2 HB2
          refine hK.out _ _ (by (try dsimp only); all_goals trivial) (fun hHeld2 => ?_)
          clear hK K hHeld
          have hHeld := hHeld2
          clear hHeld2
          (try simp only [Act.put, List.setIfInBounds_toArray, List.set_cons_zero, List.set_cons_succ])
          refine wpAnyH_take (i := 7) (oi := { dst := some 18, op := Op.build 51 #[(0, Operand.tmp 12), (1, Operand.tmp 14), (2, Operand.tmp 16), (3, Operand.tmp 17)], type := 51, pos := "union.go:26", after := #[{ on := 1, ground := Ground.data }, { on := 3, ground := Ground.data }, { on := 5, ground := Ground.data }, { on := 6, ground := Ground.data }], guard := none }) (v := ?_) rfl (by kernel_rfl) (by kernel_rfl) (by kernel_rfl) (fun _ _ _ h => h) (Or.inl ⟨by rfl, ?_⟩) (by assumption) ?_
          rotate_left
          · (intro w hSw; (try dsimp only at hSw); go_simp <;> with_reducible rfl)
          (try simp only [Act.put, List.setIfInBounds_toArray, List.set_cons_zero, List.set_cons_succ])
          refine wpAnyH_ready (rs := [8]) (by kernel_rfl) (by simp) ?_
          refine AllReadyH.cons (o := { dst := some 19, op := Op.box 51 (Operand.tmp 18), type := 24, pos := "union.go:26", after := #[{ on := 7, ground := Ground.data }], guard := none }) rfl (fun K hK => ?_) ?_
          · go_simp
            refine hK.out _ _ (by (try dsimp only); all_goals trivial) (fun hHeld2 => ?_)
            clear hK K hHeld
            have hHeld := hHeld2
            clear hHeld2
            (try simp only [Act.put, List.setIfInBounds_toArray, List.set_cons_zero, List.set_cons_succ])
            refine wpAnyH_take (i := 9) (oi := { dst := some 3, op := Op.assign (Operand.tmp 19), type := 24, pos := "union.go:26", after := #[{ on := 8, ground := Ground.data }, { on := 0, ground := Ground.phase }, { on := 1, ground := Ground.phase }, { on := 2, ground := Ground.phase }, { on := 3, ground := Ground.phase }, { on := 4, ground := Ground.phase }, { on := 5, ground := Ground.phase }, { on := 6, ground := Ground.phase }, { on := 7, ground := Ground.phase }, { on := 8, ground := Ground.phase }], guard := none }) (v := ?_) rfl (by kernel_rfl) (by kernel_rfl) (by kernel_rfl) (fun _ _ _ h => h) (Or.inl ⟨by rfl, ?_⟩) (by assumption) ?_
            rotate_left
            · (intro w hSw; (try dsimp only at hSw); go_simp <;> with_reducible rfl)
            (try simp only [Act.put, List.setIfInBounds_toArray, List.set_cons_zero, List.set_cons_succ])
            refine wpAnyH_done (by kernel_rfl) ?_ _
            go_wp2_with fail
            go_meet
            exact ⟨_, _, _, _, rfl, Nw.first HB3.out HB1.out HB2.out (by with_reducible repeat (first | exact IsGr.refl _ | refine IsGr.gr ?_ _ _ | refine IsGr.alloc ?_ _ | refine IsGr.drew ?_ | refine IsGr.drewN ?_ _)) (by with_reducible repeat (first | exact IsGr.refl _ | refine IsGr.gr ?_ _ _ | refine IsGr.alloc ?_ _ | refine IsGr.drew ?_ | refine IsGr.drewN ?_ _)) (by with_reducible repeat (first | exact IsGr.refl _ | refine IsGr.gr ?_ _ _ | refine IsGr.alloc ?_ _ | refine IsGr.drew ?_ | refine IsGr.drewN ?_ _)) (by with_reducible repeat (first | exact IsGr.refl _ | refine IsGr.gr ?_ _ _ | refine IsGr.alloc ?_ _ | refine IsGr.drew ?_ | refine IsGr.drewN ?_ _)) ⟨by simp, by simp, by simp⟩ (by have h1 := HB3.out.1; have h2 := HB1.out.1; have h3 := HB2.out.1; have k1 := HB3.out.2.1.lt; have k2 := HB1.out.2.1.lt; simp at h1 h2 h3; omega)⟩
          exact AllReadyH.nil
        exact AllReadyH.nil
      refine AllReadyH.cons (o := { dst := some 14, op := Op.makeSlice 26 (Operand.tmp 13) (Operand.tmp 13), type := 26, pos := "union.go:26", after := #[{ on := 2, ground := Ground.data }, { on := 2, ground := Ground.data }], guard := none }) rfl (fun K hK => ?_) ?_
      · refine step_make_row rfl (.tmp 13) rfl 0 rfl (by decide) ?_
        intro w2 b2 HB2
        refine hK.out _ _ (by (try dsimp only); all_goals trivial) (fun hHeld2 => ?_)
        clear hK K hHeld
        have hHeld := hHeld2
        clear hHeld2
        (try simp only [Act.put, List.setIfInBounds_toArray, List.set_cons_zero, List.set_cons_succ])
        refine wpAnyH_ready (rs := [1]) (by kernel_rfl) (by simp) ?_
        refine AllReadyH.cons (o := { dst := some 12, op := Op.makeSlice 26 (Operand.tmp 11) (Operand.tmp 11), type := 26, pos := "union.go:26", after := #[{ on := 0, ground := Ground.data }, { on := 0, ground := Ground.data }], guard := none }) rfl (fun K hK => ?_) ?_
        · refine step_make_row rfl (.tmp 11) rfl 0 rfl (by decide) ?_
          intro w1 b1 HB1
          refine hK.out _ _ (by (try dsimp only); all_goals trivial) (fun hHeld2 => ?_)
          clear hK K hHeld
          have hHeld := hHeld2
          clear hHeld2
          (try simp only [Act.put, List.setIfInBounds_toArray, List.set_cons_zero, List.set_cons_succ])
          refine wpAnyH_take (i := 7) (oi := { dst := some 18, op := Op.build 51 #[(0, Operand.tmp 12), (1, Operand.tmp 14), (2, Operand.tmp 16), (3, Operand.tmp 17)], type := 51, pos := "union.go:26", after := #[{ on := 1, ground := Ground.data }, { on := 3, ground := Ground.data }, { on := 5, ground := Ground.data }, { on := 6, ground := Ground.data }], guard := none }) (v := ?_) rfl (by kernel_rfl) (by kernel_rfl) (by kernel_rfl) (fun _ _ _ h => h) (Or.inl ⟨by rfl, ?_⟩) (by assumption) ?_
          rotate_left
          · (intro w hSw; (try dsimp only at hSw); go_simp <;> with_reducible rfl)
          (try simp only [Act.put, List.setIfInBounds_toArray, List.set_cons_zero, List.set_cons_succ])
          refine wpAnyH_ready (rs := [8]) (by kernel_rfl) (by simp) ?_
          refine AllReadyH.cons (o := { dst := some 19, op := Op.box 51 (Operand.tmp 18), type := 24, pos := "union.go:26", after := #[{ on := 7, ground := Ground.data }], guard := none }) rfl (fun K hK => ?_) ?_
          · go_simp
            refine hK.out _ _ (by (try dsimp only); all_goals trivial) (fun hHeld2 => ?_)
            clear hK K hHeld
            have hHeld := hHeld2
            clear hHeld2
            (try simp only [Act.put, List.setIfInBounds_toArray, List.set_cons_zero, List.set_cons_succ])
            refine wpAnyH_take (i := 9) (oi := { dst := some 3, op := Op.assign (Operand.tmp 19), type := 24, pos := "union.go:26", after := #[{ on := 8, ground := Ground.data }, { on := 0, ground := Ground.phase }, { on := 1, ground := Ground.phase }, { on := 2, ground := Ground.phase }, { on := 3, ground := Ground.phase }, { on := 4, ground := Ground.phase }, { on := 5, ground := Ground.phase }, { on := 6, ground := Ground.phase }, { on := 7, ground := Ground.phase }, { on := 8, ground := Ground.phase }], guard := none }) (v := ?_) rfl (by kernel_rfl) (by kernel_rfl) (by kernel_rfl) (fun _ _ _ h => h) (Or.inl ⟨by rfl, ?_⟩) (by assumption) ?_
            rotate_left
            · (intro w hSw; (try dsimp only at hSw); go_simp <;> with_reducible rfl)
            (try simp only [Act.put, List.setIfInBounds_toArray, List.set_cons_zero, List.set_cons_succ])
            refine wpAnyH_done (by kernel_rfl) ?_ _
            go_wp2_with fail
            go_meet
            exact ⟨_, _, _, _, rfl, Nw.first HB3.out HB2.out HB1.out (by with_reducible repeat (first | exact IsGr.refl _ | refine IsGr.gr ?_ _ _ | refine IsGr.alloc ?_ _ | refine IsGr.drew ?_ | refine IsGr.drewN ?_ _)) (by with_reducible repeat (first | exact IsGr.refl _ | refine IsGr.gr ?_ _ _ | refine IsGr.alloc ?_ _ | refine IsGr.drew ?_ | refine IsGr.drewN ?_ _)) (by with_reducible repeat (first | exact IsGr.refl _ | refine IsGr.gr ?_ _ _ | refine IsGr.alloc ?_ _ | refine IsGr.drew ?_ | refine IsGr.drewN ?_ _)) (by with_reducible repeat (first | exact IsGr.refl _ | refine IsGr.gr ?_ _ _ | refine IsGr.alloc ?_ _ | refine IsGr.drew ?_ | refine IsGr.drewN ?_ _)) ⟨by simp, by simp, by simp⟩ (by have h1 := HB3.out.1; have h2 := HB2.out.1; have h3 := HB1.out.1; have k1 := HB3.out.2.1.lt; have k2 := HB2.out.2.1.lt; simp at h1 h2 h3; omega)⟩
          exact AllReadyH.nil
        exact AllReadyH.nil
      exact AllReadyH.nil
    exact AllReadyH.nil

  case rest =>
    obtain ⟨t, gu, gz, gm, rfl, HW⟩ := hcut
    go_wp2_with fail
    refine wp_loop_rounds 1 ?_
    rw [rounds_succ]
    go_wp2_with fail
    go_ret
    exact ⟨t, rfl, ⟨gu, gz, gm, HW.out.un (by decide)⟩, HW.out.bel⟩

set_option maxRecDepth 20000 in set_option maxHeartbeats 2000000 in
theorem New_hi (k : Int) (w : World) (q2 : 1048576 < k) : Calls Try.prog 8 #[.int .i64 k] w fun e w' => ∃ t, e = .returned (.pointer (some ⟨t, 0, none⟩)) ∧ UnE w' w.heap.size t (rng 0) ∧ Below w.heap.size w w' := by
  have q1 : ¬ k < 0 := by omega
  go_enter Try.func8, Try.ntmps8
  go_upto_region 3 with fail
  go_cut [3] (fun t3 wr => ∃ t gu gz gm : Nat, t3 = .pointer (some ⟨t, 0, none⟩) ∧ Hid (Nw w t gu gz gm 0 0 wr))
  case first =>
    refine wp_region_held_drew (S := (fun _ => True)) (by kernel_rfl) (by (try dsimp only); all_goals trivial) (fun hHeld => ?_)
    refine wpAnyH_take (i := 0) (oi := { dst := some 11, op := Op.move (Operand.tmp 0), type := 3, pos := "union.go:26", after := #[], guard := none }) (v := ?_) rfl (by kernel_rfl) (by kernel_rfl) (by kernel_rfl) (fun _ _ _ h => h) (Or.inl ⟨by rfl, ?_⟩) (by assumption) ?_
    rotate_left
    · (intro w hSw; (try dsimp only at hSw); go_simp <;> with_reducible rfl)
    (try simp only [Act.put, List.setIfInBounds_toArray, List.set_cons_zero, List.set_cons_succ])
    refine wpAnyH_take (i := 2) (oi := { dst := some 13, op := Op.move (Operand.tmp 0), type := 3, pos := "union.go:26", after := #[], guard := none }) (v := ?_) rfl (by kernel_rfl) (by kernel_rfl) (by kernel_rfl) (fun _ _ _ h => h) (Or.inl ⟨by rfl, ?_⟩) (by assumption) ?_
    rotate_left
    · (intro w hSw; (try dsimp only at hSw); go_simp <;> with_reducible rfl)
    (try simp only [Act.put, List.setIfInBounds_toArray, List.set_cons_zero, List.set_cons_succ])
    refine wpAnyH_take (i := 4) (oi := { dst := some 15, op := Op.move (Operand.tmp 0), type := 3, pos := "union.go:26", after := #[], guard := none }) (v := ?_) rfl (by kernel_rfl) (by kernel_rfl) (by kernel_rfl) (fun _ _ _ h => h) (Or.inl ⟨by rfl, ?_⟩) (by assumption) ?_
    rotate_left
    · (intro w hSw; (try dsimp only at hSw); go_simp <;> with_reducible rfl)
    (try simp only [Act.put, List.setIfInBounds_toArray, List.set_cons_zero, List.set_cons_succ])
    refine wpAnyH_take (i := 6) (oi := { dst := some 17, op := Op.move (Operand.tmp 0), type := 3, pos := "union.go:26", after := #[], guard := none }) (v := ?_) rfl (by kernel_rfl) (by kernel_rfl) (by kernel_rfl) (fun _ _ _ h => h) (Or.inl ⟨by rfl, ?_⟩) (by assumption) ?_
    rotate_left
    · (intro w hSw; (try dsimp only at hSw); go_simp <;> with_reducible rfl)
    (try simp only [Act.put, List.setIfInBounds_toArray, List.set_cons_zero, List.set_cons_succ])
    refine wpAnyH_ready (rs := [1, 3, 5]) (by kernel_rfl) (by simp) ?_
    refine AllReadyH.cons (o := { dst := some 12, op := Op.makeSlice 26 (Operand.tmp 11) (Operand.tmp 11), type := 26, pos := "union.go:26", after := #[{ on := 0, ground := Ground.data }, { on := 0, ground := Ground.data }], guard := none }) rfl (fun K hK => ?_) ?_
    · refine step_make_row rfl (.tmp 11) rfl 0 rfl (by decide) ?_
      intro w1 b1 HB1
      refine hK.out _ _ (by (try dsimp only); all_goals trivial) (fun hHeld2 => ?_)
      clear hK K hHeld
      have hHeld := hHeld2
      clear hHeld2
      (try simp only [Act.put, List.setIfInBounds_toArray, List.set_cons_zero, List.set_cons_succ])
      refine wpAnyH_ready (rs := [3, 5]) (by kernel_rfl) (by simp) ?_
      refine AllReadyH.cons (o := { dst := some 14, op := Op.makeSlice 26 (Operand.tmp 13) (Operand.tmp 13), type := 26, pos := "union.go:26", after := #[{ on := 2, ground := Ground.data }, { on := 2, ground := Ground.data }], guard := none }) rfl (fun K hK => ?_) ?_
      · refine step_make_row rfl (.tmp 13) rfl 0 rfl (by decide) ?_
        intro w2 b2 HB2
        refine hK.out _ _ (by (try dsimp only); all_goals trivial) (fun hHeld2 => ?_)
        clear hK K hHeld
        have hHeld := hHeld2
        clear hHeld2
        (try simp only [Act.put, List.setIfInBounds_toArray, List.set_cons_zero, List.set_cons_succ])
        refine wpAnyH_ready (rs := [5]) (by kernel_rfl) (by simp) ?_
        refine AllReadyH.cons (o := { dst := some 16, op := Op.makeSlice 26 (Operand.tmp 15) (Operand.tmp 15), type := 26, pos := "union.go:26", after := #[{ on := 4, ground := Ground.data }, { on := 4, ground := Ground.data }], guard := none }) rfl (fun K hK => ?_) ?_
        · refine step_make_row rfl (.tmp 15) rfl 0 rfl (by decide) ?_
          intro w3 b3 HB3
          refine hK.out _ _ (by (try dsimp only); all_goals trivial) (fun hHeld2 => ?_)
          clear hK K hHeld
          have hHeld := hHeld2
          clear hHeld2
          (try simp only [Act.put, List.setIfInBounds_toArray, List.set_cons_zero, List.set_cons_succ])
          refine wpAnyH_take (i := 7) (oi := { dst := some 18, op := Op.build 51 #[(0, Operand.tmp 12), (1, Operand.tmp 14), (2, Operand.tmp 16), (3, Operand.tmp 17)], type := 51, pos := "union.go:26", after := #[{ on := 1, ground := Ground.data }, { on := 3, ground := Ground.data }, { on := 5, ground := Ground.data }, { on := 6, ground := Ground.data }], guard := none }) (v := ?_) rfl (by kernel_rfl) (by kernel_rfl) (by kernel_rfl) (fun _ _ _ h => h) (Or.inl ⟨by rfl, ?_⟩) (by assumption) ?_
          rotate_left
          · (intro w hSw; (try dsimp only at hSw); go_simp <;> with_reducible rfl)
          (try simp only [Act.put, List.setIfInBounds_toArray, List.set_cons_zero, List.set_cons_succ])
          refine wpAnyH_ready (rs := [8]) (by kernel_rfl) (by simp) ?_
          refine AllReadyH.cons (o := { dst := some 19, op := Op.box 51 (Operand.tmp 18), type := 24, pos := "union.go:26", after := #[{ on := 7, ground := Ground.data }], guard := none }) rfl (fun K hK => ?_) ?_
          · go_simp
            refine hK.out _ _ (by (try dsimp only); all_goals trivial) (fun hHeld2 => ?_)
            clear hK K hHeld
            have hHeld := hHeld2
            clear hHeld2
            (try simp only [Act.put, List.setIfInBounds_toArray, List.set_cons_zero, List.set_cons_succ])
            refine wpAnyH_take (i := 9) (oi := { dst := some 3, op := Op.assign (Operand.tmp 19), type := 24, pos := "union.go:26", after := #[{ on := 8, ground := Ground.data }, { on := 0, ground := Ground.phase }, { on := 1, ground := Ground.phase }, { on := 2, ground := Ground.phase }, { on := 3, ground := Ground.phase }, { on := 4, ground := Ground.phase }, { on := 5, ground := Ground.phase }, { on := 6, ground := Ground.phase }, { on := 7, ground := Ground.phase }, { on := 8, ground := Ground.phase }], guard := none }) (v := ?_) rfl (by kernel_rfl) (by kernel_rfl) (by kernel_rfl) (fun _ _ _ h => h) (Or.inl ⟨by rfl, ?_⟩) (by assumption) ?_
            rotate_left
            · (intro w hSw; (try dsimp only at hSw); go_simp <;> with_reducible rfl)
            (try simp only [Act.put, List.setIfInBounds_toArray, List.set_cons_zero, List.set_cons_succ])
            refine wpAnyH_done (by kernel_rfl) ?_ _
            go_wp2_with fail
            go_meet
            exact ⟨_, _, _, _, rfl, Nw.first HB1.out HB2.out HB3.out (by with_reducible repeat (first | exact IsGr.refl _ | refine IsGr.gr ?_ _ _ | refine IsGr.alloc ?_ _ | refine IsGr.drew ?_ | refine IsGr.drewN ?_ _)) (by with_reducible repeat (first | exact IsGr.refl _ | refine IsGr.gr ?_ _ _ | refine IsGr.alloc ?_ _ | refine IsGr.drew ?_ | refine IsGr.drewN ?_ _)) (by with_reducible repeat (first | exact IsGr.refl _ | refine IsGr.gr ?_ _ _ | refine IsGr.alloc ?_ _ | refine IsGr.drew ?_ | refine IsGr.drewN ?_ _)) (by with_reducible repeat (first | exact IsGr.refl _ | refine IsGr.gr ?_ _ _ | refine IsGr.alloc ?_ _ | refine IsGr.drew ?_ | refine IsGr.drewN ?_ _)) ⟨by simp, by simp, by simp⟩ (by have h1 := HB1.out.1; have h2 := HB2.out.1; have h3 := HB3.out.1; have k1 := HB1.out.2.1.lt; have k2 := HB2.out.2.1.lt; simp at h1 h2 h3; omega)⟩
          exact AllReadyH.nil
        exact AllReadyH.nil
      refine AllReadyH.cons (o := { dst := some 16, op := Op.makeSlice 26 (Operand.tmp 15) (Operand.tmp 15), type := 26, pos := "union.go:26", after := #[{ on := 4, ground := Ground.data }, { on := 4, ground := Ground.data }], guard := none }) rfl (fun K hK => ?_) ?_
      · refine step_make_row rfl (.tmp 15) rfl 0 rfl (by decide) ?_
        intro w3 b3 HB3
        refine hK.out _ _ (by (try dsimp only); all_goals trivial) (fun hHeld2 => ?_)
        clear hK K hHeld
        have hHeld := hHeld2
        clear hHeld2
        (try simp only [Act.put, List.setIfInBounds_toArray, List.set_cons_zero, List.set_cons_succ])
        refine wpAnyH_ready (rs := [3]) (by kernel_rfl) (by simp) ?_
        refine AllReadyH.cons (o := { dst := some 14, op := Op.makeSlice 26 (Operand.tmp 13) (Operand.tmp 13), type := 26, pos := "union.go:26", after := #[{ on := 2, ground := Ground.data }, { on := 2, ground := Ground.data }], guard := none }) rfl (fun K hK => ?_) ?_
        · refine step_make_row rfl (.tmp 13) rfl 0 rfl (by decide) ?_
          intro w2 b2 HB2
          refine hK.out _ _ (by (try dsimp only); all_goals trivial) (fun hHeld2 => ?_)
          clear hK K hHeld
          have hHeld := hHeld2
          clear hHeld2
          (try simp only [Act.put, List.setIfInBounds_toArray, List.set_cons_zero, List.set_cons_succ])
          refine wpAnyH_take (i := 7) (oi := { dst := some 18, op := Op.build 51 #[(0, Operand.tmp 12), (1, Operand.tmp 14), (2, Operand.tmp 16), (3, Operand.tmp 17)], type := 51, pos := "union.go:26", after := #[{ on := 1, ground := Ground.data }, { on := 3, ground := Ground.data }, { on := 5, ground := Ground.data }, { on := 6, ground := Ground.data }], guard := none }) (v := ?_) rfl (by kernel_rfl) (by kernel_rfl) (by kernel_rfl) (fun _ _ _ h => h) (Or.inl ⟨by rfl, ?_⟩) (by assumption) ?_
          rotate_left
          · (intro w hSw; (try dsimp only at hSw); go_simp <;> with_reducible rfl)
          (try simp only [Act.put, List.setIfInBounds_toArray, List.set_cons_zero, List.set_cons_succ])
          refine wpAnyH_ready (rs := [8]) (by kernel_rfl) (by simp) ?_
          refine AllReadyH.cons (o := { dst := some 19, op := Op.box 51 (Operand.tmp 18), type := 24, pos := "union.go:26", after := #[{ on := 7, ground := Ground.data }], guard := none }) rfl (fun K hK => ?_) ?_
          · go_simp
            refine hK.out _ _ (by (try dsimp only); all_goals trivial) (fun hHeld2 => ?_)
            clear hK K hHeld
            have hHeld := hHeld2
            clear hHeld2
            (try simp only [Act.put, List.setIfInBounds_toArray, List.set_cons_zero, List.set_cons_succ])
            refine wpAnyH_take (i := 9) (oi := { dst := some 3, op := Op.assign (Operand.tmp 19), type := 24, pos := "union.go:26", after := #[{ on := 8, ground := Ground.data }, { on := 0, ground := Ground.phase }, { on := 1, ground := Ground.phase }, { on := 2, ground := Ground.phase }, { on := 3, ground := Ground.phase }, { on := 4, ground := Ground.phase }, { on := 5, ground := Ground.phase }, { on := 6, ground := Ground.phase }, { on := 7, ground := Ground.phase }, { on := 8, ground := Ground.phase }], guard := none }) (v := ?_) rfl (by kernel_rfl) (by kernel_rfl) (by kernel_rfl) (fun _ _ _ h => h) (Or.inl ⟨by rfl, ?_⟩) (by assumption) ?_
            rotate_left
            · (intro w hSw; (try dsimp only at hSw); go_simp <;> with_reducible rfl)
            (try simp only [Act.put, List.setIfInBounds_toArray, List.set_cons_zero, List.set_cons_succ])
            refine wpAnyH_done (by kernel_rfl) ?_ _
            go_wp2_with fail
            go_meet
            exact ⟨_, _, _, _, rfl, Nw.first HB1.out HB3.out HB2.out (by with_reducible repeat (first | exact IsGr.refl _ | refine IsGr.gr ?_ _ _ | refine IsGr.alloc ?_ _ | refine IsGr.drew ?_ | refine IsGr.drewN ?_ _)) (by with_reducible repeat (first | exact IsGr.refl _ | refine IsGr.gr ?_ _ _ | refine IsGr.alloc ?_ _ | refine IsGr.drew ?_ | refine IsGr.drewN ?_ _)) (by with_reducible repeat (first | exact IsGr.refl _ | refine IsGr.gr ?_ _ _ | refine IsGr.alloc ?_ _ | refine IsGr.drew ?_ | refine IsGr.drewN ?_ _)) (by with_reducible repeat (first | exact IsGr.refl _ | refine IsGr.gr ?_ _ _ | refine IsGr.alloc ?_ _ | refine IsGr.drew ?_ | refine IsGr.drewN ?_ _)) ⟨by simp, by simp, by simp⟩ (by have h1 := HB1.out.1; have h2 := HB3.out.1; have h3 := HB2.out.1; have k1 := HB1.out.2.1.lt; have k2 := HB3.out.2.1.lt; simp at h1 h2 h3; omega)⟩
          exact AllReadyH.nil
        exact AllReadyH.nil
      exact AllReadyH.nil
    refine AllReadyH.cons (o := { dst := some 14, op := Op.makeSlice 26 (Operand.tmp 13) (Operand.tmp 13), type := 26, pos := "union.go:26", after := #[{ on := 2, ground := Ground.data }, { on := 2, ground := Ground.data }], guard := none }) rfl (fun K hK => ?_) ?_
    · refine step_make_row rfl (.tmp 13) rfl 0 rfl (by decide) ?_
      intro w2 b2 HB2
      refine hK.out _ _ (by (try dsimp only); all_goals trivial) (fun hHeld2 => ?_)
      clear hK K hHeld
      have hHeld := hHeld2
      clear hHeld2
      (try simp only [Act.put, List.setIfInBounds_toArray, List.set_cons_zero, List.set_cons_succ])
      refine wpAnyH_ready (rs := [1, 5]) (by kernel_rfl) (by simp) ?_
      refine AllReadyH.cons (o := { dst := some 12, op := Op.makeSlice 26 (Operand.tmp 11) (Operand.tmp 11), type := 26, pos := "union.go:26", after := #[{ on := 0, ground := Ground.data }, { on := 0, ground := Ground.data }], guard := none }) rfl (fun K hK => ?_) ?_
      · refine step_make_row rfl (.tmp 11) rfl 0 rfl (by decide) ?_
        intro w1 b1 HB1
        refine hK.out _ _ (by (try dsimp only); all_goals trivial) (fun hHeld2 => ?_)
        clear hK K hHeld
        have hHeld := hHeld2
        clear hHeld2
        (try simp only [Act.put, List.setIfInBounds_toArray, List.set_cons_zero, List.set_cons_succ])
        refine wpAnyH_ready (rs := [5]) (by kernel_rfl) (by simp) ?_
        refine AllReadyH.cons (o := { dst := some 16, op := Op.makeSlice 26 (Operand.tmp 15) (Operand.tmp 15), type := 26, pos := "union.go:26", after := #[{ on := 4, ground := Ground.data }, { on := 4, ground := Ground.data }], guard := none }) rfl (fun K hK => ?_) ?_
        · refine step_make_row rfl (.tmp 15) rfl 0 rfl (by decide) ?_
          intro w3 b3 HB3
          refine hK.out _ _ (by (try dsimp only); all_goals trivial) (fun hHeld2 => ?_)
          clear hK K hHeld
          have hHeld := hHeld2
          clear hHeld2
          (try simp only [Act.put, List.setIfInBounds_toArray, List.set_cons_zero, List.set_cons_succ])
          refine wpAnyH_take (i := 7) (oi := { dst := some 18, op := Op.build 51 #[(0, Operand.tmp 12), (1, Operand.tmp 14), (2, Operand.tmp 16), (3, Operand.tmp 17)], type := 51, pos := "union.go:26", after := #[{ on := 1, ground := Ground.data }, { on := 3, ground := Ground.data }, { on := 5, ground := Ground.data }, { on := 6, ground := Ground.data }], guard := none }) (v := ?_) rfl (by kernel_rfl) (by kernel_rfl) (by kernel_rfl) (fun _ _ _ h => h) (Or.inl ⟨by rfl, ?_⟩) (by assumption) ?_
          rotate_left
          · (intro w hSw; (try dsimp only at hSw); go_simp <;> with_reducible rfl)
          (try simp only [Act.put, List.setIfInBounds_toArray, List.set_cons_zero, List.set_cons_succ])
          refine wpAnyH_ready (rs := [8]) (by kernel_rfl) (by simp) ?_
          refine AllReadyH.cons (o := { dst := some 19, op := Op.box 51 (Operand.tmp 18), type := 24, pos := "union.go:26", after := #[{ on := 7, ground := Ground.data }], guard := none }) rfl (fun K hK => ?_) ?_
          · go_simp
            refine hK.out _ _ (by (try dsimp only); all_goals trivial) (fun hHeld2 => ?_)
            clear hK K hHeld
            have hHeld := hHeld2
            clear hHeld2
            (try simp only [Act.put, List.setIfInBounds_toArray, List.set_cons_zero, List.set_cons_succ])
            refine wpAnyH_take (i := 9) (oi := { dst := some 3, op := Op.assign (Operand.tmp 19), type := 24, pos := "union.go:26", after := #[{ on := 8, ground := Ground.data }, { on := 0, ground := Ground.phase }, { on := 1, ground := Ground.phase }, { on := 2, ground := Ground.phase }, { on := 3, ground := Ground.phase }, { on := 4, ground := Ground.phase }, { on := 5, ground := Ground.phase }, { on := 6, ground := Ground.phase }, { on := 7, ground := Ground.phase }, { on := 8, ground := Ground.phase }], guard := none }) (v := ?_) rfl (by kernel_rfl) (by kernel_rfl) (by kernel_rfl) (fun _ _ _ h => h) (Or.inl ⟨by rfl, ?_⟩) (by assumption) ?_
            rotate_left
            · (intro w hSw; (try dsimp only at hSw); go_simp <;> with_reducible rfl)
            (try simp only [Act.put, List.setIfInBounds_toArray, List.set_cons_zero, List.set_cons_succ])
            refine wpAnyH_done (by kernel_rfl) ?_ _
            go_wp2_with fail
            go_meet
            exact ⟨_, _, _, _, rfl, Nw.first HB2.out HB1.out HB3.out (by with_reducible repeat (first | exact IsGr.refl _ | refine IsGr.gr ?_ _ _ | refine IsGr.alloc ?_ _ | refine IsGr.drew ?_ | refine IsGr.drewN ?_ _)) (by with_reducible repeat (first | exact IsGr.refl _ | refine IsGr.gr ?_ _ _ | refine IsGr.alloc ?_ _ | refine IsGr.drew ?_ | refine IsGr.drewN ?_ _)) (by with_reducible repeat (first | exact IsGr.refl _ | refine IsGr.gr ?_ _ _ | refine IsGr.alloc ?_ _ | refine IsGr.drew ?_ | refine IsGr.drewN ?_ _)) (by with_reducible repeat (first | exact IsGr.refl _ | refine IsGr.gr ?_ _ _ | refine IsGr.alloc ?_ _ | refine IsGr.drew ?_ | refine IsGr.drewN ?_ _)) ⟨by simp, by simp, by simp⟩ (by have h1 := HB2.out.1; have h2 := HB1.out.1; have h3 := HB3.out.1; have k1 := HB2.out.2.1.lt; have k2 := HB1.out.2.1.lt; simp at h1 h2 h3; omega)⟩
          exact AllReadyH.nil
        exact AllReadyH.nil
      refine AllReadyH.cons (o := { dst := some 16, op := Op.makeSlice 26 (Operand.tmp 15) (Operand.tmp 15), type := 26, pos := "union.go:26", after := #[{ on := 4, ground := Ground.data }, { on := 4, ground := Ground.data }], guard := none }) rfl (fun K hK => ?_) ?_
      · refine step_make_row rfl (.tmp 15) rfl 0 rfl (by decide) ?_
        intro w3 b3 HB3
        refine hK.out _ _ (by (try dsimp only); all_goals trivial) (fun hHeld2 => ?_)
        clear hK K hHeld
        have hHeld := hHeld2
        clear hHeld2
        (try simp only [Act.put, List.setIfInBounds_toArray, List.set_cons_zero, List.set_cons_succ])
        refine wpAnyH_ready (rs := [1]) (by kernel_rfl) (by simp) ?_
        refine AllReadyH.cons (o := { dst := some 12, op := Op.makeSlice 26 (Operand.tmp 11) (Operand.tmp 11), type := 26, pos := "union.go:26", after := #[{ on := 0, ground := Ground.data }, { on := 0, ground := Ground.data }], guard := none }) rfl (fun K hK => ?_) ?_
        · refine step_make_row rfl (.tmp 11) rfl 0 rfl (by decide) ?_
          intro w1 b1 HB1
          refine hK.out _ _ (by (try dsimp only); all_goals trivial) (fun hHeld2 => ?_)
          clear hK K hHeld
          have hHeld := hHeld2
          clear hHeld2
          (try simp only [Act.put, List.setIfInBounds_toArray, List.set_cons_zero, List.set_cons_succ])
          refine wpAnyH_take (i := 7) (oi := { dst := some 18, op := Op.build 51 #[(0, Operand.tmp 12), (1, Operand.tmp 14), (2, Operand.tmp 16), (3, Operand.tmp 17)], type := 51, pos := "union.go:26", after := #[{ on := 1, ground := Ground.data }, { on := 3, ground := Ground.data }, { on := 5, ground := Ground.data }, { on := 6, ground := Ground.data }], guard := none }) (v := ?_) rfl (by kernel_rfl) (by kernel_rfl) (by kernel_rfl) (fun _ _ _ h => h) (Or.inl ⟨by rfl, ?_⟩) (by assumption) ?_
          rotate_left
          · (intro w hSw; (try dsimp only at hSw); go_simp <;> with_reducible rfl)
          (try simp only [Act.put, List.setIfInBounds_toArray, List.set_cons_zero, List.set_cons_succ])
          refine wpAnyH_ready (rs := [8]) (by kernel_rfl) (by simp) ?_
          refine AllReadyH.cons (o := { dst := some 19, op := Op.box 51 (Operand.tmp 18), type := 24, pos := "union.go:26", after := #[{ on := 7, ground := Ground.data }], guard := none }) rfl (fun K hK => ?_) ?_
          · go_simp
            refine hK.out _ _ (by (try dsimp only); all_goals trivial) (fun hHeld2 => ?_)
            clear hK K hHeld
            have hHeld := hHeld2
            clear hHeld2
            (try simp only [Act.put, List.setIfInBounds_toArray, List.set_cons_zero, List.set_cons_succ])
            refine wpAnyH_take (i := 9) (oi := { dst := some 3, op := Op.assign (Operand.tmp 19), type := 24, pos := "union.go:26", after := #[{ on := 8, ground := Ground.data }, { on := 0, ground := Ground.phase }, { on := 1, ground := Ground.phase }, { on := 2, ground := Ground.phase }, { on := 3, ground := Ground.phase }, { on := 4, ground := Ground.phase }, { on := 5, ground := Ground.phase }, { on := 6, ground := Ground.phase }, { on := 7, ground := Ground.phase }, { on := 8, ground := Ground.phase }], guard := none }) (v := ?_) rfl (by kernel_rfl) (by kernel_rfl) (by kernel_rfl) (fun _ _ _ h => h) (Or.inl ⟨by rfl, ?_⟩) (by assumption) ?_
            rotate_left
            · (intro w hSw; (try dsimp only at hSw); go_simp <;> with_reducible rfl)
            (try simp only [Act.put, List.setIfInBounds_toArray, List.set_cons_zero, List.set_cons_succ])
            refine wpAnyH_done (by kernel_rfl) ?_ _
            go_wp2_with fail
            go_meet
            exact ⟨_, _, _, _, rfl, Nw.first HB2.out HB3.out HB1.out (by with_reducible repeat (first | exact IsGr.refl _ | refine IsGr.gr ?_ _ _ | refine IsGr.alloc ?_ _ | refine IsGr.drew ?_ | refine IsGr.drewN ?_ _)) (by with_reducible repeat (first | exact IsGr.refl _ | refine IsGr.gr ?_ _ _ | refine IsGr.alloc ?_ _ | refine IsGr.drew ?_ | refine IsGr.drewN ?_ _)) (by with_reducible repeat (first | exact IsGr.refl _ | refine IsGr.gr ?_ _ _ | refine IsGr.alloc ?_ _ | refine IsGr.drew ?_ | refine IsGr.drewN ?_ _)) (by with_reducible repeat (first | exact IsGr.refl _ | refine IsGr.gr ?_ _ _ | refine IsGr.alloc ?_ _ | refine IsGr.drew ?_ | refine IsGr.drewN ?_ _)) ⟨by simp, by simp, by simp⟩ (by have h1 := HB2.out.1; have h2 := HB3.out.1; have h3 := HB1.out.1; have k1 := HB2.out.2.1.lt; have k2 := HB3.out.2.1.lt; simp at h1 h2 h3; omega)⟩
          exact AllReadyH.nil
        exact AllReadyH.nil
      exact AllReadyH.nil
    refine AllReadyH.cons (o := { dst := some 16, op := Op.makeSlice 26 (Operand.tmp 15) (Operand.tmp 15), type := 26, pos := "union.go:26", after := #[{ on := 4, ground := Ground.data }, { on := 4, ground := Ground.data }], guard := none }) rfl (fun K hK => ?_) ?_
    · refine step_make_row rfl (.tmp 15) rfl 0 rfl (by decide) ?_
      intro w3 b3 HB3
      refine hK.out _ _ (by (try dsimp only); all_goals trivial) (fun hHeld2 => ?_)
      clear hK K hHeld
      have hHeld := hHeld2
      clear hHeld2
      (try simp only [Act.put, List.setIfInBounds_toArray, List.set_cons_zero, List.set_cons_succ])
      refine wpAnyH_ready (rs := [1, 3]) (by kernel_rfl) (by simp) ?_
      refine AllReadyH.cons (o := { dst := some 12, op := Op.makeSlice 26 (Operand.tmp 11) (Operand.tmp 11), type := 26, pos := "union.go:26", after := #[{ on := 0, ground := Ground.data }, { on := 0, ground := Ground.data }], guard := none }) rfl (fun K hK => ?_) ?_
      · refine step_make_row rfl (.tmp 11) rfl 0 rfl (by decide) ?_
        intro w1 b1 HB1
        refine hK.out _ _ (by (try dsimp only); all_goals trivial) (fun hHeld2 => ?_)
        clear hK K hHeld
        have hHeld := hHeld2
        clear hHeld2
        (try simp only [Act.put, List.setIfInBounds_toArray, List.set_cons_zero, List.set_cons_succ])
        refine wpAnyH_ready (rs := [3]) (by kernel_rfl) (by simp) ?_
        refine AllReadyH.cons (o := { dst := some 14, op := Op.makeSlice 26 (Operand.tmp 13) (Operand.tmp 13), type := 26, pos := "union.go:26", after := #[{ on := 2, ground := Ground.data }, { on := 2, ground := Ground.data }], guard := none }) rfl (fun K hK => ?_) ?_
        · refine step_make_row rfl (.tmp 13) rfl 0 rfl (by decide) ?_
          intro w2 b2 HB2
          refine hK.out _ _ (by (try dsimp only); all_goals trivial) (fun hHeld2 => ?_)
          clear hK K hHeld
          have hHeld := hHeld2
          clear hHeld2
          (try simp only [Act.put, List.setIfInBounds_toArray, List.set_cons_zero, List.set_cons_succ])
          refine wpAnyH_take (i := 7) (oi := { dst := some 18, op := Op.build 51 #[(0, Operand.tmp 12), (1, Operand.tmp 14), (2, Operand.tmp 16), (3, Operand.tmp 17)], type := 51, pos := "union.go:26", after := #[{ on := 1, ground := Ground.data }, { on := 3, ground := Ground.data }, { on := 5, ground := Ground.data }, { on := 6, ground := Ground.data }], guard := none }) (v := ?_) rfl (by kernel_rfl) (by kernel_rfl) (by kernel_rfl) (fun _ _ _ h => h) (Or.inl ⟨by rfl, ?_⟩) (by assumption) ?_
          rotate_left
          · (intro w hSw; (try dsimp only at hSw); go_simp <;> with_reducible rfl)
          (try simp only [Act.put, List.setIfInBounds_toArray, List.set_cons_zero, List.set_cons_succ])
          refine wpAnyH_ready (rs := [8]) (by kernel_rfl) (by simp) ?_
          refine AllReadyH.cons (o := { dst := some 19, op := Op.box 51 (Operand.tmp 18), type := 24, pos := "union.go:26", after := #[{ on := 7, ground := Ground.data }], guard := none }) rfl (fun K hK => ?_) ?_
          · go_simp
            refine hK.out _ _ (by (try dsimp only); all_goals trivial) (fun hHeld2 => ?_)
            clear hK K hHeld
            have hHeld := hHeld2
            clear hHeld2
            (try simp only [Act.put, List.setIfInBounds_toArray, List.set_cons_zero, List.set_cons_succ])
            refine wpAnyH_take (i := 9) (oi := { dst := some 3, op := Op.assign (Operand.tmp 19), type := 24, pos := "union.go:26", after := #[{ on := 8, ground := Ground.data }, { on := 0, ground := Ground.phase }, { on := 1, ground := Ground.phase }, { on := 2, ground := Ground.phase }, { on := 3, ground := Ground.phase }, { on := 4, ground := Ground.phase }, { on := 5, ground := Ground.phase }, { on := 6, ground := Ground.phase }, { on := 7, ground := Ground.phase }, { on := 8, ground := Ground.phase }], guard := none }) (v := ?_) rfl (by kernel_rfl) (by kernel_rfl) (by kernel_rfl) (fun _ _ _ h => h) (Or.inl ⟨by rfl, ?_⟩) (by assumption) ?_
            rotate_left
            · (intro w hSw; (try dsimp only at hSw); go_simp <;> with_reducible rfl)
            (try simp only [Act.put, List.setIfInBounds_toArray, List.set_cons_zero, List.set_cons_succ])
            refine wpAnyH_done (by kernel_rfl) ?_ _
            go_wp2_with fail
            go_meet
            exact ⟨_, _, _, _, rfl, Nw.first HB3.out HB1.out HB2.out (by with_reducible repeat (first | exact IsGr.refl _ | refine IsGr.gr ?_ _ _ | refine IsGr.alloc ?_ _ | refine IsGr.drew ?_ | refine IsGr.drewN ?_ _)) (by with_reducible repeat (first | exact IsGr.refl _ | refine IsGr.gr ?_ _ _ | refine IsGr.alloc ?_ _ | refine IsGr.drew ?_ | refine IsGr.drewN ?_ _)) (by with_reducible repeat (first | exact IsGr.refl _ | refine IsGr.gr ?_ _ _ | refine IsGr.alloc ?_ _ | refine IsGr.drew ?_ | refine IsGr.drewN ?_ _)) (by with_reducible repeat (first | exact IsGr.refl _ | refine IsGr.gr ?_ _ _ | refine IsGr.alloc ?_ _ | refine IsGr.drew ?_ | refine IsGr.drewN ?_ _)) ⟨by simp, by simp, by simp⟩ (by have h1 := HB3.out.1; have h2 := HB1.out.1; have h3 := HB2.out.1; have k1 := HB3.out.2.1.lt; have k2 := HB1.out.2.1.lt; simp at h1 h2 h3; omega)⟩
          exact AllReadyH.nil
        exact AllReadyH.nil
      refine AllReadyH.cons (o := { dst := some 14, op := Op.makeSlice 26 (Operand.tmp 13) (Operand.tmp 13), type := 26, pos := "union.go:26", after := #[{ on := 2, ground := Ground.data }, { on := 2, ground := Ground.data }], guard := none }) rfl (fun K hK => ?_) ?_
      · refine step_make_row rfl (.tmp 13) rfl 0 rfl (by decide) ?_
        intro w2 b2 HB2
        refine hK.out _ _ (by (try dsimp only); all_goals trivial) (fun hHeld2 => ?_)
        clear hK K hHeld
        have hHeld := hHeld2
        clear hHeld2
        (try simp only [Act.put, List.setIfInBounds_toArray, List.set_cons_zero, List.set_cons_succ])
        refine wpAnyH_ready (rs := [1]) (by kernel_rfl) (by simp) ?_
        refine AllReadyH.cons (o := { dst := some 12, op := Op.makeSlice 26 (Operand.tmp 11) (Operand.tmp 11), type := 26, pos := "union.go:26", after := #[{ on := 0, ground := Ground.data }, { on := 0, ground := Ground.data }], guard := none }) rfl (fun K hK => ?_) ?_
        · refine step_make_row rfl (.tmp 11) rfl 0 rfl (by decide) ?_
          intro w1 b1 HB1
          refine hK.out _ _ (by (try dsimp only); all_goals trivial) (fun hHeld2 => ?_)
          clear hK K hHeld
          have hHeld := hHeld2
          clear hHeld2
          (try simp only [Act.put, List.setIfInBounds_toArray, List.set_cons_zero, List.set_cons_succ])
          refine wpAnyH_take (i := 7) (oi := { dst := some 18, op := Op.build 51 #[(0, Operand.tmp 12), (1, Operand.tmp 14), (2, Operand.tmp 16), (3, Operand.tmp 17)], type := 51, pos := "union.go:26", after := #[{ on := 1, ground := Ground.data }, { on := 3, ground := Ground.data }, { on := 5, ground := Ground.data }, { on := 6, ground := Ground.data }], guard := none }) (v := ?_) rfl (by kernel_rfl) (by kernel_rfl) (by kernel_rfl) (fun _ _ _ h => h) (Or.inl ⟨by rfl, ?_⟩) (by assumption) ?_
          rotate_left
          · (intro w hSw; (try dsimp only at hSw); go_simp <;> with_reducible rfl)
          (try simp only [Act.put, List.setIfInBounds_toArray, List.set_cons_zero, List.set_cons_succ])
          refine wpAnyH_ready (rs := [8]) (by kernel_rfl) (by simp) ?_
          refine AllReadyH.cons (o := { dst := some 19, op := Op.box 51 (Operand.tmp 18), type := 24, pos := "union.go:26", after := #[{ on := 7, ground := Ground.data }], guard := none }) rfl (fun K hK => ?_) ?_
          · go_simp
            refine hK.out _ _ (by (try dsimp only); all_goals trivial) (fun hHeld2 => ?_)
            clear hK K hHeld
            have hHeld := hHeld2
            clear hHeld2
            (try simp only [Act.put, List.setIfInBounds_toArray, List.set_cons_zero, List.set_cons_succ])
            refine wpAnyH_take (i := 9) (oi := { dst := some 3, op := Op.assign (Operand.tmp 19), type := 24, pos := "union.go:26", after := #[{ on := 8, ground := Ground.data }, { on := 0, ground := Ground.phase }, { on := 1, ground := Ground.phase }, { on := 2, ground := Ground.phase }, { on := 3, ground := Ground.phase }, { on := 4, ground := Ground.phase }, { on := 5, ground := Ground.phase }, { on := 6, ground := Ground.phase }, { on := 7, ground := Ground.phase }, { on := 8, ground := Ground.phase }], guard := none }) (v := ?_) rfl (by kernel_rfl) (by kernel_rfl) (by kernel_rfl) (fun _ _ _ h => h) (Or.inl ⟨by rfl, ?_⟩) (by assumption) ?_
            rotate_left
            · (intro w hSw; (try dsimp only at hSw); go_simp <;> with_reducible rfl)
            (try simp only [Act.put, List.setIfInBounds_toArray, List.set_cons_zero, List.set_cons_succ])
            refine wpAnyH_done (by kernel_rfl) ?_ _
            go_wp2_with fail
            go_meet
            exact ⟨_, _, _, _, rfl, Nw.first HB3.out HB2.out HB1.out (by with_reducible repeat (first | exact IsGr.refl _ | refine IsGr.gr ?_ _ _ | refine IsGr.alloc ?_ _ | refine IsGr.drew ?_ | refine IsGr.drewN ?_ _)) (by with_reducible repeat (first | exact IsGr.refl _ | refine IsGr.gr ?_ _ _ | refine IsGr.alloc ?_ _ | refine IsGr.drew ?_ | refine IsGr.drewN ?_ _)) (by with_reducible repeat (first | exact IsGr.refl _ | refine IsGr.gr ?_ _ _ | refine IsGr.alloc ?_ _ | refine IsGr.drew ?_ | refine IsGr.drewN ?_ _)) (by with_reducible repeat (first | exact IsGr.refl _ | refine IsGr.gr ?_ _ _ | refine IsGr.alloc ?_ _ | refine IsGr.drew ?_ | refine IsGr.drewN ?_ _)) ⟨by simp, by simp, by simp⟩ (by have h1 := HB3.out.1; have h2 := HB2.out.1; have h3 := HB1.out.1; have k1 := HB3.out.2.1.lt; have k2 := HB2.out.2.1.lt; simp at h1 h2 h3; omega)⟩
          exact AllReadyH.nil
        exact AllReadyH.nil
      exact AllReadyH.nil
    exact AllReadyH.nil

  case rest =>
    obtain ⟨t, gu, gz, gm, rfl, HW⟩ := hcut
    go_wp2_with fail
    refine wp_loop_rounds 1 ?_
    rw [rounds_succ]
    go_wp2_with fail
    go_ret
    exact ⟨t, rfl, ⟨gu, gz, gm, HW.out.un (by decide)⟩, HW.out.bel⟩
/-- So many numbers are made. -/
def mkn (k : Int) : Nat := if 0 ≤ k ∧ k ≤ 1048576 then k.toNat else 0
theorem New_any (k : Int) (w : World) : Calls Try.prog 8 #[.int .i64 k] w fun e w' => ∃ t, e = .returned (.pointer (some ⟨t, 0, none⟩)) ∧ UnE w' w.heap.size t (rng (mkn k)) ∧ Below w.heap.size w w' := by
  by_cases h1 : k < 0
  · have e : mkn k = 0 := by unfold mkn; rw [if_neg (by omega)]
    rw [e]; exact New_lo k w h1
  · by_cases h2 : 1048576 < k
    · have e : mkn k = 0 := by unfold mkn; rw [if_neg (by omega)]
      rw [e]; exact New_hi k w h2
    · have e : mkn k = k.toNat := by unfold mkn; rw [if_pos (by omega)]
      have h := New_in k.toNat w (by omega)
      have hk : ((k.toNat : Nat) : Int) = k := by omega
      rw [hk] at h
      rw [e]
      exact h
end Go.Proofs.Ytchbnkapajnjgaa
