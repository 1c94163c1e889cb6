/- Contracts of package merge over the loaded program: Sort, Merge. -/
import Derived.Test.YtblnpabgakmghaaN5
import Derived.OwnWalk
namespace Go.Proofs.Ytblnpabgakmghaa
open Go.RowKit Go.Shelf
attribute [local go_sem] Gr.size Gr.cell? Gr.frozen? Gr.setCell Gr.drew Gr.drewN Gr.of_drew Gr.of_drewN Gr.gr Gr.lt_of1 Gr.le_of1 Gr.lt_of2 Gr.le_of2 Gr.lt_of3 Gr.le_of3 Gr.lt_of4 Gr.le_of4 Gr.lt_of5 Gr.le_of5 Gr.lt_of6 Gr.le_of6 Gr.lt_of7 Gr.le_of7 Gr.lt_of8 Gr.le_of8 Gr.lt_of9 Gr.le_of9 Gr.lt_of10 Gr.le_of10 Gr.lt_of11 Gr.le_of11 Gr.lt_of12 Gr.le_of12 Gr.lt_of13 Gr.le_of13 Gr.lt_of14 Gr.le_of14 Gr.lt_of15 Gr.le_of15 Gr.lt_of16 Gr.le_of16 Gr.lt_of17 Gr.le_of17 Gr.lt_of18 Gr.le_of18 Gr.lt_of19 Gr.le_of19 Gr.lt_of20 Gr.le_of20 Gr.lt_of21 Gr.le_of21 Gr.lt_of22 Gr.le_of22 Gr.lt_of23 Gr.le_of23 Gr.lt_of24 Gr.le_of24
/-- What Sort leaves. -/
def SoR (k : Int → Int) (w : World) (v : Value) (l : List Int) (w' : World) : Prop := Lst w' w.heap.size v (isort k l) ∧ Below w.heap.size w w'
theorem arrange_own {f : Nat} {k : Int → Int} (hO : Ordr f k) {w w1 W w3 W' : World} {v : Value} {l : List Int} {n b : Nat} (h1 : Lst w1 w.heap.size v l) (hl : l.length = n) (hi : ∀ x ∈ l, I64 x) (hn : n ≤ 1000) (hb : Below w.heap.size w w1) (hg : IsGr w1 W) (hm : Hid (MkR W w3 b n)) (hg2 : IsGr w3 W') :
    Calls Try.prog 22 #[v, .slice (some ⟨b, 0, none⟩) n n, .func (.func f) #[] #[]] W' fun e w' => e = .returned (.tuple #[]) ∧ SoR k w v l w' := by
  obtain ⟨m1, m2, m3⟩ := hm.out
  have hB1 : Below w1.heap.size w1 w3 := hg.below.trans (m3.mono hg.size)
  have hB2 : Below w1.heap.size w1 W' := hB1.trans (hg2.below.mono hB1.size)
  have h2 : Lst W' w.heap.size v l := h1.belowN hB2 (fun g e => (own_block h1 g e).2)
  have hBw : Below w.heap.size w W' := hb.trans (hB2.mono hb.size)
  by_cases hn2 : n < 2
  · refine (arrange_few _ _ l W' (Rd.of_lst h2 hi) (by omega)).mono ?_
    rintro e w' ⟨rfl, rfl⟩
    have : isort k l = l := isort_id (by
      rcases l with _ | ⟨x, _ | ⟨y, L⟩⟩
      · simp [Srt]
      · simp [Srt]
      · simp at hl; omega)
    exact ⟨rfl, by rw [this]; exact h2, hBw⟩
  · obtain ⟨a, c, rfl, hf⟩ := h2.form
    rcases hf with hf | ⟨g, rfl, hg1, hg2', _⟩
    · rw [hf] at hl; simp at hl; omega
    · have hgb : g < b := by have := (own_block h1 g rfl).2; have := hg.size; omega
      have hbs := hBw.size
      rw [hl] at h2 ⊢
      refine (arrange_any hO n g 0 c b 0 n l W' ⟨h2.seg, hl, hi, ?_, by omega⟩ h2.cap (Nat.le_refl _) hn).mono ?_
      · obtain ⟨cur, k1, k2⟩ := m2
        exact ⟨cur, k1.gr hg2, by omega⟩
      · rintro e w' ⟨rfl, hs, hw⟩
        refine ⟨rfl, h2.again hw hs (isort_len _ _), hBw.trans (hw.below (fun k i e => ?_) hbs)⟩
        have hge := hb.size
        have hgs := hg.size
        unfold Da Dj at e
        omega
theorem mrg_len (k : Int → Int) (a b : List Int) : (mrg k a b).length = a.length + b.length := by rw [(mrg_perm k _ a b (Nat.le_refl _)).length_eq, List.length_append]
theorem join_own {f : Nat} {k : Int → Int} (hO : Ordr f k) {w w3 W' : World} {va vb : Value} {A B : List Int} {n b : Nat} (ha : Rd w va A) (hb : Rd w vb B) (oa : ∀ q, va.ownBlock = some q → q < w.heap.size) (ob : ∀ q, vb.ownBlock = some q → q < w.heap.size) (hl : A.length + B.length = n) (hn : n ≤ 1000) {W : World} (hg : IsGr w W) (hm : Hid (MkR W w3 b n)) (hg2 : IsGr w3 W') :
    Calls Try.prog 26 #[.slice (some ⟨b, 0, none⟩) 0 n, va, vb, .func (.func f) #[] #[]] W' fun e w' => ∃ v', e = .returned v' ∧ Lst w' w.heap.size v' (mrg k A B) ∧ Below w.heap.size w w' := by
  obtain ⟨m1, m2, m3⟩ := hm.out
  have hgs := hg.size
  have hB1 : Below w.heap.size w w3 := hg.below.trans (m3.mono hgs)
  have hB2 : Below w.heap.size w W' := hB1.trans (hg2.below.mono hB1.size)
  have hb9 : ∃ cur, Blk W' b cur ∧ cur.size = n := by
    obtain ⟨cur, k1, k2⟩ := m2
    exact ⟨cur, k1.gr hg2, k2⟩
  have hj : JnR k W' b 0 n (mrg k A B) [] A B va vb W' := by
    refine ⟨rfl, by simpa using hl, ha.below hB2, hb.below hB2, fun q e => by have := oa q e; omega, fun q e => by have := ob q e; omega, ?_, ?_, Wq.refl _ _⟩
    · obtain ⟨cur, k1, k2⟩ := hb9
      exact ⟨cur, k1, by omega⟩
    · obtain ⟨cur, k1, k2⟩ := hb9
      exact ⟨cur, k1, fun i hi => by simp at hi⟩
  refine (join_any hO b 0 n n va vb A B (mrg k A B) W' hj (Nat.le_refl _) hn).mono ?_
  rintro e w' ⟨rfl, hs, hw⟩
  have hbs := hB2.size
  have hbw : Below w.heap.size w w' := hB2.trans (hw.below (fun k i e => by unfold Dj at e; omega) hbs)
  refine ⟨_, rfl, Lst.of_seg ?_ hs (by rw [mrg_len]; exact hl) (by omega) (by omega), hbw⟩
  obtain ⟨cur, k1, k2⟩ := hb9
  obtain ⟨c', q1, q2, _⟩ := hw.cells b cur k1
  exact ⟨c', q1, by omega⟩

set_option maxRecDepth 20000 in set_option maxHeartbeats 2000000 in
theorem Sort_any {f : Nat} {k : Int → Int} (hO : Ordr f k) (v : Value) (l : List Int) (w : World) (h : Rd w v l) (hz : Zn v) (hn : l.length ≤ 400) :
    Calls Try.prog 10 #[v, .func (.func f) #[] #[]] w fun e w' => ∃ v', e = .returned v' ∧ Lst w' w.heap.size v' (isort k l) ∧ Below w.heap.size w w' := by
  obtain ⟨a, c, rfl⟩ := h.form
  obtain ⟨n, hn'⟩ : ∃ n, l.length = n := ⟨_, rfl⟩
  rw [hn'] at h hz hn ⊢
  have HH : Hid (Rd w (.slice a n c) l ∧ l.length = n) := ⟨h, hn'⟩
  have HO : Hid (Ordr f k) := hO
  clear h hn' hO
  have CW := fun w => whole_any (f := f) w
  go_enter Try.func10, Try.ntmps10
  go_upto_region 2 with (at_builtin; refine wpList_append_all rfl _ _ rfl w.heap.size (.slice none 0 0) (.slice a n c) [] l rfl rfl (Lst.nil _ _) HH.out.1 hz (by have := HH.out.2; simp; omega) (Nat.le_refl _) ?_; intro v1 w1 h1 g1)
  have hb1 : Below w.heap.size w w1 := (Below.refl _ w).grown g1 (Nat.le_refl _) (fun k e => by cases e)
  have CA := fun b W w3 W' (q1 : IsGr w1 W) q2 (q3 : IsGr w3 W') => arrange_own HO.out (W := W) (w3 := w3) (W' := W') (b := b) (n := n) h1 HH.out.2 HH.out.1.ints (by omega) hb1 q1 q2 q3
  have hn2 : n ≤ 2000 := by omega
  clear h1 g1 hb1
  refine wp_region_held_drew (S := (fun _ => True)) (by kernel_rfl) (by (try dsimp only); all_goals trivial) (fun hHeld => ?_)
  refine wpAnyH_take (i := 0) (oi := { dst := some 8, op := Op.move (Operand.tmp 5), type := 22, pos := "merge.go:20", after := #[], guard := none }) (v := ?_) rfl (by kernel_rfl) (by kernel_rfl) (by kernel_rfl) (fun _ _ _ h => h) (Or.inl ⟨by rfl, ?_⟩) (by assumption) ?_
  rotate_left
  · (intro w hSw; (try dsimp only at hSw); go_simp <;> with_reducible rfl)
  (try simp only [Act.put, List.setIfInBounds_toArray, List.set_cons_zero, List.set_cons_succ])
  refine wpAnyH_take (i := 1) (oi := { dst := some 9, op := Op.move (Operand.tmp 0), type := 22, pos := "merge.go:20", after := #[], guard := none }) (v := ?_) rfl (by kernel_rfl) (by kernel_rfl) (by kernel_rfl) (fun _ _ _ h => h) (Or.inl ⟨by rfl, ?_⟩) (by assumption) ?_
  rotate_left
  · (intro w hSw; (try dsimp only at hSw); go_simp <;> with_reducible rfl)
  (try simp only [Act.put, List.setIfInBounds_toArray, List.set_cons_zero, List.set_cons_succ])
  refine wpAnyH_take (i := 2) (oi := { dst := some 10, op := Op.call { callee := Callee.builtin Builtin.len, args := #[Operand.tmp 9], argTypes := #[22] }, type := 3, pos := "merge.go:20", after := #[{ on := 1, ground := Ground.data }], guard := none }) (v := ?_) rfl (by kernel_rfl) (by kernel_rfl) (by kernel_rfl) (fun _ _ _ h => h) (Or.inl ⟨by rfl, ?_⟩) (by assumption) ?_
  rotate_left
  · (intro w hSw; (try dsimp only at hSw); go_simp <;> with_reducible rfl)
  (try simp only [Act.put, List.setIfInBounds_toArray, List.set_cons_zero, List.set_cons_succ])
  refine wpAnyH_take (i := 4) (oi := { dst := some 12, op := Op.move (Operand.tmp 1), type := 25, pos := "merge.go:20", after := #[], guard := none }) (v := ?_) rfl (by kernel_rfl) (by kernel_rfl) (by kernel_rfl) (fun _ _ _ h => h) (Or.inl ⟨by rfl, ?_⟩) (by assumption) ?_
  rotate_left
  · (intro w hSw; (try dsimp only at hSw); go_simp <;> with_reducible rfl)
  (try simp only [Act.put, List.setIfInBounds_toArray, List.set_cons_zero, List.set_cons_succ])
  refine wpAnyH_ready (rs := [3, 5]) (by kernel_rfl) (by simp) ?_
  refine AllReadyH.cons (o := { dst := some 11, op := Op.makeSlice 22 (Operand.tmp 10) (Operand.tmp 10), type := 22, pos := "merge.go:20", after := #[{ on := 2, ground := Ground.data }, { on := 2, ground := Ground.data }], guard := none }) rfl (fun K hK => ?_) ?_
  · refine step_make_full rfl (.tmp 10) rfl n rfl hn2 ?_
    intro w3 b HB
    refine hK.out _ _ (by (try dsimp only); all_goals trivial) (fun hHeld2 => ?_)
    clear hK K hHeld
    have hHeld := hHeld2
    clear hHeld2
    (try simp only [Act.put, List.setIfInBounds_toArray, List.set_cons_zero, List.set_cons_succ])
    refine wpAnyH_ready (rs := [5]) (by kernel_rfl) (by simp) ?_
    refine AllReadyH.cons (o := { dst := some 13, op := Op.call { callee := Callee.value (Operand.func 23), args := #[Operand.tmp 12], argTypes := #[25] }, type := 25, pos := "merge.go:20", after := #[{ on := 4, ground := Ground.data }], guard := none }) rfl (fun K hK => ?_) ?_
    · go_simp
      refine (CW _).mono ?_
      rintro e w2 ⟨rfl, e2⟩
      obtain rfl := e2.symm
      (try go_wp2_with fail)
      refine hK.out _ _ (by (try dsimp only); all_goals trivial) (fun hHeld2 => ?_)
      clear hK K hHeld
      have hHeld := hHeld2
      clear hHeld2
      (try simp only [Act.put, List.setIfInBounds_toArray, List.set_cons_zero, List.set_cons_succ])
      refine wpAnyH_ready (rs := [6]) (by kernel_rfl) (by simp) ?_
      refine AllReadyH.cons (o := { dst := some 14, op := Op.call { callee := Callee.value (Operand.func 22), args := #[Operand.tmp 8, Operand.tmp 11, Operand.tmp 13], argTypes := #[22, 22, 25] }, type := 0, pos := "merge.go:20", after := #[{ on := 0, ground := Ground.data }, { on := 3, ground := Ground.data }, { on := 5, ground := Ground.data }, { on := 5, ground := Ground.chain }], guard := none }) rfl (fun K hK => ?_) ?_
      · go_simp
        refine (CA _ _ _ _ (by with_reducible repeat (first | exact IsGr.refl _ | refine IsGr.gr ?_ _ _ | refine IsGr.alloc ?_ _ | refine IsGr.drew ?_ | refine IsGr.drewN ?_ _)) HB (by with_reducible repeat (first | exact IsGr.refl _ | refine IsGr.gr ?_ _ _ | refine IsGr.alloc ?_ _ | refine IsGr.drew ?_ | refine IsGr.drewN ?_ _))).mono ?_
        rintro e w9 ⟨rfl, hF⟩
        (try go_wp2_with fail)
        refine hK.out _ _ (by (try dsimp only); all_goals trivial) (fun hHeld2 => ?_)
        clear hK K hHeld
        have hHeld := hHeld2
        clear hHeld2
        (try simp only [Act.put, List.setIfInBounds_toArray, List.set_cons_zero, List.set_cons_succ])
        refine wpAnyH_done (by kernel_rfl) ?_ _
        go_wp2_with fail
        go_ret
        exact ⟨v1, rfl, hF⟩
      exact AllReadyH.nil
    exact AllReadyH.nil
  refine AllReadyH.cons (o := { dst := some 13, op := Op.call { callee := Callee.value (Operand.func 23), args := #[Operand.tmp 12], argTypes := #[25] }, type := 25, pos := "merge.go:20", after := #[{ on := 4, ground := Ground.data }], guard := none }) rfl (fun K hK => ?_) ?_
  · go_simp
    refine (CW _).mono ?_
    rintro e w2 ⟨rfl, e2⟩
    obtain rfl := e2.symm
    (try go_wp2_with fail)
    refine hK.out _ _ (by (try dsimp only); all_goals trivial) (fun hHeld2 => ?_)
    clear hK K hHeld
    have hHeld := hHeld2
    clear hHeld2
    (try simp only [Act.put, List.setIfInBounds_toArray, List.set_cons_zero, List.set_cons_succ])
    refine wpAnyH_ready (rs := [3]) (by kernel_rfl) (by simp) ?_
    refine AllReadyH.cons (o := { dst := some 11, op := Op.makeSlice 22 (Operand.tmp 10) (Operand.tmp 10), type := 22, pos := "merge.go:20", after := #[{ on := 2, ground := Ground.data }, { on := 2, ground := Ground.data }], guard := none }) rfl (fun K hK => ?_) ?_
    · refine step_make_full rfl (.tmp 10) rfl n rfl hn2 ?_
      intro w3 b HB
      refine hK.out _ _ (by (try dsimp only); all_goals trivial) (fun hHeld2 => ?_)
      clear hK K hHeld
      have hHeld := hHeld2
      clear hHeld2
      (try simp only [Act.put, List.setIfInBounds_toArray, List.set_cons_zero, List.set_cons_succ])
      refine wpAnyH_ready (rs := [6]) (by kernel_rfl) (by simp) ?_
      refine AllReadyH.cons (o := { dst := some 14, op := Op.call { callee := Callee.value (Operand.func 22), args := #[Operand.tmp 8, Operand.tmp 11, Operand.tmp 13], argTypes := #[22, 22, 25] }, type := 0, pos := "merge.go:20", after := #[{ on := 0, ground := Ground.data }, { on := 3, ground := Ground.data }, { on := 5, ground := Ground.data }, { on := 5, ground := Ground.chain }], guard := none }) rfl (fun K hK => ?_) ?_
      · go_simp
        refine (CA _ _ _ _ (by with_reducible repeat (first | exact IsGr.refl _ | refine IsGr.gr ?_ _ _ | refine IsGr.alloc ?_ _ | refine IsGr.drew ?_ | refine IsGr.drewN ?_ _)) HB (by with_reducible repeat (first | exact IsGr.refl _ | refine IsGr.gr ?_ _ _ | refine IsGr.alloc ?_ _ | refine IsGr.drew ?_ | refine IsGr.drewN ?_ _))).mono ?_
        rintro e w9 ⟨rfl, hF⟩
        (try go_wp2_with fail)
        refine hK.out _ _ (by (try dsimp only); all_goals trivial) (fun hHeld2 => ?_)
        clear hK K hHeld
        have hHeld := hHeld2
        clear hHeld2
        (try simp only [Act.put, List.setIfInBounds_toArray, List.set_cons_zero, List.set_cons_succ])
        refine wpAnyH_done (by kernel_rfl) ?_ _
        go_wp2_with fail
        go_ret
        exact ⟨v1, rfl, hF⟩
      exact AllReadyH.nil
    exact AllReadyH.nil
  exact AllReadyH.nil

set_option maxRecDepth 20000 in set_option maxHeartbeats 2000000 in
theorem Merge_any {f : Nat} {k : Int → Int} (hO : Ordr f k) (va vb : Value) (A B : List Int) (w : World) (ha : Rd w va A) (hb : Rd w vb B) (oa : ∀ q, va.ownBlock = some q → q < w.heap.size) (ob : ∀ q, vb.ownBlock = some q → q < w.heap.size) (hn : A.length + B.length ≤ 1000) :
    Calls Try.prog 15 #[va, vb, .func (.func f) #[] #[]] w fun e w' => ∃ v', e = .returned v' ∧ Lst w' w.heap.size v' (mrg k A B) ∧ Below w.heap.size w w' := by
  obtain ⟨n, hn'⟩ : ∃ n, A.length + B.length = n := ⟨_, rfl⟩
  have CJ := fun b W w3 W' (q1 : IsGr w W) q2 (q3 : IsGr w3 W') => join_own hO (W := W) (w3 := w3) (W' := W') (b := b) (n := n) ha hb oa ob hn' (by omega) q1 q2 q3
  obtain ⟨a, c, rfl⟩ := ha.form
  obtain ⟨b, d, rfl⟩ := hb.form
  obtain ⟨na, hna⟩ : ∃ n, A.length = n := ⟨_, rfl⟩
  obtain ⟨nb, hnb⟩ : ∃ n, B.length = n := ⟨_, rfl⟩
  have HN : Hid (na + nb = n) := by rw [hna, hnb] at hn'; exact hn'
  simp only [hna, hnb] at CJ
  rw [hna, hnb]
  have e1 : IntKind.i64.wrap ((na : Int) + nb) = (na : Int) + nb := by rw [IntKind.wrap_i64]; have := HN.out; omega
  have e2 : (na : Int) + (nb : Int) = (n : Int) := by have := HN.out; omega
  have hn2 : n ≤ 2000 := by omega
  have CW := fun w => whole_any (f := f) w
  clear ha hb oa ob hn hn' hna hnb hO
  go_enter Try.func15, Try.ntmps15
  go_upto_region 1 with fail
  refine wp_region_held_drew (S := (fun _ => True)) (by kernel_rfl) (by (try dsimp only); all_goals trivial) (fun hHeld => ?_)
  refine wpAnyH_take (i := 0) (oi := { dst := some 7, op := Op.move (Operand.tmp 0), type := 22, pos := "merge.go:38", after := #[], guard := none }) (v := ?_) rfl (by kernel_rfl) (by kernel_rfl) (by kernel_rfl) (fun _ _ _ h => h) (Or.inl ⟨by rfl, ?_⟩) (by assumption) ?_
  rotate_left
  · (intro w hSw; (try dsimp only at hSw); go_simp <;> with_reducible rfl)
  (try simp only [Act.put, List.setIfInBounds_toArray, List.set_cons_zero, List.set_cons_succ])
  refine wpAnyH_take (i := 1) (oi := { dst := some 8, op := Op.call { callee := Callee.builtin Builtin.len, args := #[Operand.tmp 7], argTypes := #[22] }, type := 3, pos := "merge.go:38", after := #[{ on := 0, ground := Ground.data }], guard := none }) (v := ?_) rfl (by kernel_rfl) (by kernel_rfl) (by kernel_rfl) (fun _ _ _ h => h) (Or.inl ⟨by rfl, ?_⟩) (by assumption) ?_
  rotate_left
  · (intro w hSw; (try dsimp only at hSw); go_simp <;> with_reducible rfl)
  (try simp only [Act.put, List.setIfInBounds_toArray, List.set_cons_zero, List.set_cons_succ])
  refine wpAnyH_take (i := 2) (oi := { dst := some 9, op := Op.move (Operand.tmp 1), type := 22, pos := "merge.go:38", after := #[], guard := none }) (v := ?_) rfl (by kernel_rfl) (by kernel_rfl) (by kernel_rfl) (fun _ _ _ h => h) (Or.inl ⟨by rfl, ?_⟩) (by assumption) ?_
  rotate_left
  · (intro w hSw; (try dsimp only at hSw); go_simp <;> with_reducible rfl)
  (try simp only [Act.put, List.setIfInBounds_toArray, List.set_cons_zero, List.set_cons_succ])
  refine wpAnyH_take (i := 3) (oi := { dst := some 10, op := Op.call { callee := Callee.builtin Builtin.len, args := #[Operand.tmp 9], argTypes := #[22] }, type := 3, pos := "merge.go:38", after := #[{ on := 2, ground := Ground.data }], guard := none }) (v := ?_) rfl (by kernel_rfl) (by kernel_rfl) (by kernel_rfl) (fun _ _ _ h => h) (Or.inl ⟨by rfl, ?_⟩) (by assumption) ?_
  rotate_left
  · (intro w hSw; (try dsimp only at hSw); go_simp <;> with_reducible rfl)
  (try simp only [Act.put, List.setIfInBounds_toArray, List.set_cons_zero, List.set_cons_succ])
  refine wpAnyH_take (i := 4) (oi := { dst := some 11, op := Op.binOp BinOp.add 3 (Operand.tmp 8) (Operand.tmp 10) 3, type := 3, pos := "merge.go:38", after := #[{ on := 1, ground := Ground.data }, { on := 3, ground := Ground.data }], guard := none }) (v := ?_) rfl (by kernel_rfl) (by kernel_rfl) (by kernel_rfl) (fun _ _ _ h => h) (Or.inl ⟨by rfl, ?_⟩) (by assumption) ?_
  rotate_left
  · (intro w hSw; (try dsimp only at hSw); go_simp <;> with_reducible rfl)
  (try simp only [Act.put, List.setIfInBounds_toArray, List.set_cons_zero, List.set_cons_succ])
  refine wpAnyH_take (i := 6) (oi := { dst := some 13, op := Op.move (Operand.tmp 0), type := 22, pos := "merge.go:38", after := #[], guard := none }) (v := ?_) rfl (by kernel_rfl) (by kernel_rfl) (by kernel_rfl) (fun _ _ _ h => h) (Or.inl ⟨by rfl, ?_⟩) (by assumption) ?_
  rotate_left
  · (intro w hSw; (try dsimp only at hSw); go_simp <;> with_reducible rfl)
  (try simp only [Act.put, List.setIfInBounds_toArray, List.set_cons_zero, List.set_cons_succ])
  refine wpAnyH_take (i := 7) (oi := { dst := some 14, op := Op.move (Operand.tmp 1), type := 22, pos := "merge.go:38", after := #[], guard := none }) (v := ?_) rfl (by kernel_rfl) (by kernel_rfl) (by kernel_rfl) (fun _ _ _ h => h) (Or.inl ⟨by rfl, ?_⟩) (by assumption) ?_
  rotate_left
  · (intro w hSw; (try dsimp only at hSw); go_simp <;> with_reducible rfl)
  (try simp only [Act.put, List.setIfInBounds_toArray, List.set_cons_zero, List.set_cons_succ])
  refine wpAnyH_take (i := 8) (oi := { dst := some 15, op := Op.move (Operand.tmp 2), type := 25, pos := "merge.go:38", after := #[], guard := none }) (v := ?_) rfl (by kernel_rfl) (by kernel_rfl) (by kernel_rfl) (fun _ _ _ h => h) (Or.inl ⟨by rfl, ?_⟩) (by assumption) ?_
  rotate_left
  · (intro w hSw; (try dsimp only at hSw); go_simp <;> with_reducible rfl)
  (try simp only [Act.put, List.setIfInBounds_toArray, List.set_cons_zero, List.set_cons_succ])
  refine wpAnyH_ready (rs := [5, 9]) (by kernel_rfl) (by simp) ?_
  refine AllReadyH.cons (o := { dst := some 12, op := Op.makeSlice 22 (Operand.const (Value.int IntKind.i64 0)) (Operand.tmp 11), type := 22, pos := "merge.go:38", after := #[{ on := 4, ground := Ground.data }], guard := none }) rfl (fun K hK => ?_) ?_
  · refine step_make_own rfl _ _ rfl n _ rfl rfl (by first | rfl | omega | (rw [IntKind.wrap_i64]; omega)) hn2 ?_
    intro w3 b HB
    refine hK.out _ _ (by (try dsimp only); all_goals trivial) (fun hHeld2 => ?_)
    clear hK K hHeld
    have hHeld := hHeld2
    clear hHeld2
    (try simp only [Act.put, List.setIfInBounds_toArray, List.set_cons_zero, List.set_cons_succ])
    refine wpAnyH_ready (rs := [9]) (by kernel_rfl) (by simp) ?_
    refine AllReadyH.cons (o := { dst := some 16, op := Op.call { callee := Callee.value (Operand.func 23), args := #[Operand.tmp 15], argTypes := #[25] }, type := 25, pos := "merge.go:38", after := #[{ on := 8, ground := Ground.data }], guard := none }) rfl (fun K hK => ?_) ?_
    · go_simp
      refine (CW _).mono ?_
      rintro e w2 ⟨rfl, e2⟩
      obtain rfl := e2.symm
      (try go_wp2_with fail)
      refine hK.out _ _ (by (try dsimp only); all_goals trivial) (fun hHeld2 => ?_)
      clear hK K hHeld
      have hHeld := hHeld2
      clear hHeld2
      (try simp only [Act.put, List.setIfInBounds_toArray, List.set_cons_zero, List.set_cons_succ])
      refine wpAnyH_ready (rs := [10]) (by kernel_rfl) (by simp) ?_
      refine AllReadyH.cons (o := { dst := some 17, op := Op.call { callee := Callee.value (Operand.func 26), args := #[Operand.tmp 12, Operand.tmp 13, Operand.tmp 14, Operand.tmp 16], argTypes := #[22, 22, 22, 25] }, type := 22, pos := "merge.go:38", after := #[{ on := 5, ground := Ground.data }, { on := 6, ground := Ground.data }, { on := 7, ground := Ground.data }, { on := 9, ground := Ground.data }, { on := 9, ground := Ground.chain }], guard := none }) rfl (fun K hK => ?_) ?_
      · go_simp
        refine (CJ _ _ _ _ (by with_reducible repeat (first | exact IsGr.refl _ | refine IsGr.gr ?_ _ _ | refine IsGr.alloc ?_ _ | refine IsGr.drew ?_ | refine IsGr.drewN ?_ _)) HB (by with_reducible repeat (first | exact IsGr.refl _ | refine IsGr.gr ?_ _ _ | refine IsGr.alloc ?_ _ | refine IsGr.drew ?_ | refine IsGr.drewN ?_ _))).mono ?_
        rintro e w9 ⟨v9, rfl, hF⟩
        (try go_wp2_with fail)
        refine hK.out _ _ (by (try dsimp only); all_goals trivial) (fun hHeld2 => ?_)
        clear hK K hHeld
        have hHeld := hHeld2
        clear hHeld2
        (try simp only [Act.put, List.setIfInBounds_toArray, List.set_cons_zero, List.set_cons_succ])
        refine wpAnyH_take (i := 11) (oi := { dst := some 6, op := Op.assign (Operand.tmp 17), type := 22, pos := "merge.go:38", after := #[{ on := 10, ground := Ground.data }, { on := 10, ground := Ground.chain }, { on := 0, ground := Ground.phase }, { on := 1, ground := Ground.phase }, { on := 2, ground := Ground.phase }, { on := 3, ground := Ground.phase }, { on := 4, ground := Ground.phase }, { on := 5, ground := Ground.phase }, { on := 6, ground := Ground.phase }, { on := 7, ground := Ground.phase }, { on := 8, ground := Ground.phase }, { on := 9, ground := Ground.phase }, { on := 10, ground := Ground.phase }], guard := none }) (v := ?_) rfl (by kernel_rfl) (by kernel_rfl) (by kernel_rfl) (fun _ _ _ h => h) (Or.inl ⟨by rfl, ?_⟩) (by assumption) ?_
        rotate_left
        · (intro w hSw; (try dsimp only at hSw); go_simp <;> with_reducible rfl)
        (try simp only [Act.put, List.setIfInBounds_toArray, List.set_cons_zero, List.set_cons_succ])
        refine wpAnyH_done (by kernel_rfl) ?_ _
        go_wp2_with fail
        go_ret
        exact ⟨v9, rfl, hF⟩
      exact AllReadyH.nil
    exact AllReadyH.nil
  refine AllReadyH.cons (o := { dst := some 16, op := Op.call { callee := Callee.value (Operand.func 23), args := #[Operand.tmp 15], argTypes := #[25] }, type := 25, pos := "merge.go:38", after := #[{ on := 8, ground := Ground.data }], guard := none }) rfl (fun K hK => ?_) ?_
  · go_simp
    refine (CW _).mono ?_
    rintro e w2 ⟨rfl, e2⟩
    obtain rfl := e2.symm
    (try go_wp2_with fail)
    refine hK.out _ _ (by (try dsimp only); all_goals trivial) (fun hHeld2 => ?_)
    clear hK K hHeld
    have hHeld := hHeld2
    clear hHeld2
    (try simp only [Act.put, List.setIfInBounds_toArray, List.set_cons_zero, List.set_cons_succ])
    refine wpAnyH_ready (rs := [5]) (by kernel_rfl) (by simp) ?_
    refine AllReadyH.cons (o := { dst := some 12, op := Op.makeSlice 22 (Operand.const (Value.int IntKind.i64 0)) (Operand.tmp 11), type := 22, pos := "merge.go:38", after := #[{ on := 4, ground := Ground.data }], guard := none }) rfl (fun K hK => ?_) ?_
    · refine step_make_own rfl _ _ rfl n _ rfl rfl (by first | rfl | omega | (rw [IntKind.wrap_i64]; omega)) hn2 ?_
      intro w3 b HB
      refine hK.out _ _ (by (try dsimp only); all_goals trivial) (fun hHeld2 => ?_)
      clear hK K hHeld
      have hHeld := hHeld2
      clear hHeld2
      (try simp only [Act.put, List.setIfInBounds_toArray, List.set_cons_zero, List.set_cons_succ])
      refine wpAnyH_ready (rs := [10]) (by kernel_rfl) (by simp) ?_
      refine AllReadyH.cons (o := { dst := some 17, op := Op.call { callee := Callee.value (Operand.func 26), args := #[Operand.tmp 12, Operand.tmp 13, Operand.tmp 14, Operand.tmp 16], argTypes := #[22, 22, 22, 25] }, type := 22, pos := "merge.go:38", after := #[{ on := 5, ground := Ground.data }, { on := 6, ground := Ground.data }, { on := 7, ground := Ground.data }, { on := 9, ground := Ground.data }, { on := 9, ground := Ground.chain }], guard := none }) rfl (fun K hK => ?_) ?_
      · go_simp
        refine (CJ _ _ _ _ (by with_reducible repeat (first | exact IsGr.refl _ | refine IsGr.gr ?_ _ _ | refine IsGr.alloc ?_ _ | refine IsGr.drew ?_ | refine IsGr.drewN ?_ _)) HB (by with_reducible repeat (first | exact IsGr.refl _ | refine IsGr.gr ?_ _ _ | refine IsGr.alloc ?_ _ | refine IsGr.drew ?_ | refine IsGr.drewN ?_ _))).mono ?_
        rintro e w9 ⟨v9, rfl, hF⟩
        (try go_wp2_with fail)
        refine hK.out _ _ (by (try dsimp only); all_goals trivial) (fun hHeld2 => ?_)
        clear hK K hHeld
        have hHeld := hHeld2
        clear hHeld2
        (try simp only [Act.put, List.setIfInBounds_toArray, List.set_cons_zero, List.set_cons_succ])
        refine wpAnyH_take (i := 11) (oi := { dst := some 6, op := Op.assign (Operand.tmp 17), type := 22, pos := "merge.go:38", after := #[{ on := 10, ground := Ground.data }, { on := 10, ground := Ground.chain }, { on := 0, ground := Ground.phase }, { on := 1, ground := Ground.phase }, { on := 2, ground := Ground.phase }, { on := 3, ground := Ground.phase }, { on := 4, ground := Ground.phase }, { on := 5, ground := Ground.phase }, { on := 6, ground := Ground.phase }, { on := 7, ground := Ground.phase }, { on := 8, ground := Ground.phase }, { on := 9, ground := Ground.phase }, { on := 10, ground := Ground.phase }], guard := none }) (v := ?_) rfl (by kernel_rfl) (by kernel_rfl) (by kernel_rfl) (fun _ _ _ h => h) (Or.inl ⟨by rfl, ?_⟩) (by assumption) ?_
        rotate_left
        · (intro w hSw; (try dsimp only at hSw); go_simp <;> with_reducible rfl)
        (try simp only [Act.put, List.setIfInBounds_toArray, List.set_cons_zero, List.set_cons_succ])
        refine wpAnyH_done (by kernel_rfl) ?_ _
        go_wp2_with fail
        go_ret
        exact ⟨v9, rfl, hF⟩
      exact AllReadyH.nil
    exact AllReadyH.nil
  exact AllReadyH.nil
end Go.Proofs.Ytblnpabgakmghaa
