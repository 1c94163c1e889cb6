/- Contracts of package merge over the loaded program: arrange. -/
import Derived.Test.YtblnpabgakmghaaN4
namespace Go.Proofs.Ytblnpabgakmghaa
open Go.RowKit Go.Shelf
attribute [local go_sem] Gr.size Gr.cell? Gr.frozen? Gr.setCell Gr.drew Gr.drewN Gr.of_drew Gr.of_drewN Gr.gr Gr.lt_of1 Gr.le_of1 Gr.lt_of2 Gr.le_of2 Gr.lt_of3 Gr.le_of3 Gr.lt_of4 Gr.le_of4 Gr.lt_of5 Gr.le_of5 Gr.lt_of6 Gr.le_of6 Gr.lt_of7 Gr.le_of7 Gr.lt_of8 Gr.le_of8 Gr.lt_of9 Gr.le_of9 Gr.lt_of10 Gr.le_of10 Gr.lt_of11 Gr.le_of11 Gr.lt_of12 Gr.le_of12 Gr.lt_of13 Gr.le_of13 Gr.lt_of14 Gr.le_of14 Gr.lt_of15 Gr.le_of15 Gr.lt_of16 Gr.le_of16 Gr.lt_of17 Gr.le_of17 Gr.lt_of18 Gr.le_of18 Gr.lt_of19 Gr.le_of19 Gr.lt_of20 Gr.le_of20 Gr.lt_of21 Gr.le_of21 Gr.lt_of22 Gr.le_of22 Gr.lt_of23 Gr.le_of23 Gr.lt_of24 Gr.le_of24
/-- The cells that arrange may turn. -/
def Da (g o h p n : Nat) : Nat → Nat → Prop := fun k i => Dj g o n k i ∨ Dj h p n k i
/-- What arrange finds: things, and room for them. -/
structure ArR (g o h p n : Nat) (L : List Int) (w : World) : Prop where
  seg : Seg w g o L
  len : L.length = n
  ints : ∀ x ∈ L, I64 x
  room : ∃ cur, Blk w h cur ∧ p + n ≤ cur.size
  ne : g ≠ h
theorem Seg.fit {w : World} {g o : Nat} {L : List Int} (h : Seg w g o L) (hl : 0 < L.length) : ∃ cur, Blk w g cur ∧ o + L.length ≤ cur.size := by
  obtain ⟨cur, h1, h2⟩ := h
  refine ⟨cur, h1, ?_⟩
  have := h2 (L.length - 1) (by omega)
  have h3 : o + (L.length - 1) < cur.size := by
    rcases Nat.lt_or_ge (o + (L.length - 1)) cur.size with h | h
    · exact h
    · rw [Array.getElem?_eq_none h] at this; cases this
  omega
theorem Wq.blk {D : Nat → Nat → Prop} {w w' : World} {g m : Nat} (h : Wq D w w') (hb : ∃ cur, Blk w g cur ∧ m ≤ cur.size) : ∃ cur, Blk w' g cur ∧ m ≤ cur.size := by
  obtain ⟨cur, h1, h2⟩ := hb
  obtain ⟨c', k1, k2, _⟩ := h.cells g cur h1
  exact ⟨c', k1, by omega⟩
theorem ArR.gr {g o h p n : Nat} {L : List Int} {w w' : World} (H : ArR g o h p n L w) (hg : IsGr w w') : ArR g o h p n L w' :=
  ⟨H.seg.gr hg, H.len, H.ints, (Wq.of_gr (fun _ _ => False) hg).blk H.room, H.ne⟩
/-- Cells copied into a block. -/
theorem Blk.row {w : World} {h : Nat} {cur : Array Value} (hb : Blk w h cur) (p : Nat) (X : List Int) (hf : p + X.length ≤ cur.size) (hX : 0 < X.length) :
    Wq (Dj h p X.length) w (w.setRow h (cur.toList.take p ++ ((X.map fun x => Value.int .i64 x) ++ cur.toList.drop (p + (X.map fun x => Value.int .i64 x).length))).toArray) ∧
      Seg (w.setRow h (cur.toList.take p ++ ((X.map fun x => Value.int .i64 x) ++ cur.toList.drop (p + (X.map fun x => Value.int .i64 x).length))).toArray) h p X := by
  obtain ⟨R, hR⟩ : ∃ R, cur.toList.take p ++ ((X.map fun x => Value.int .i64 x) ++ cur.toList.drop (p + (X.map fun x => Value.int .i64 x).length)) = R := ⟨_, rfl⟩
  have hl : R.length = cur.size := by rw [← hR]; simp; omega
  have hin : ∀ i, i < X.length → R[p + i]? = some (.int .i64 (X.getD i 0)) := fun i hi => by
    rw [← hR, List.getElem?_append_right (by simp; omega), List.getElem?_append_left (by simp; omega)]
    have e : p + i - (cur.toList.take p).length = i := by simp; omega
    rw [e]
    simp [List.getD, hi]
  have hout : ∀ i, (i < p ∨ p + X.length ≤ i) → R[i]? = cur[i]? := fun i hi => by
    rw [← hR]
    rcases hi with hi | hi
    · rw [List.getElem?_append_left (by simp; omega), List.getElem?_take, if_pos hi, Array.getElem?_toList]
    · rw [List.getElem?_append_right (by simp; omega), List.getElem?_append_right (by simp; omega), List.getElem?_drop, Array.getElem?_toList]
      congr 1
      simp
      omega
  rw [hR]
  have hB : Blk (w.setRow h R.toArray) h R.toArray := setRow_heap w h cur _ 3 _ hb
  refine ⟨⟨rfl, rfl, rfl, by simp [World.setRow], fun k hk hn => setRow_other w h k _ (fun e => ?_), fun k c hc => ?_⟩, R.toArray, hB, fun i hi => by rw [List.getElem?_toArray]; exact hin i hi⟩
  · subst e
    exact hn p ⟨rfl, Nat.le_refl _, by omega⟩
  · by_cases hk : k = h
    · subst hk
      have e : c = cur := by
        have := (show w.heap[k]? = _ from hc).symm.trans hb
        injection this with this
        injection this
      subst e
      exact ⟨_, hB, by simp [hl], fun i hi => by rw [List.getElem?_toArray]; exact hout i (by unfold Dj at hi; omega)⟩
    · exact ⟨c, (setRow_other w h k _ hk).trans hc, rfl, fun _ _ => rfl⟩
theorem wpList_copy_seg {w : World} {ops : Array Oper} {rest : List Oper} {o : Oper} {a : Act} {Q : Exit → Act → World → Prop} (hgd : o.guard = none) (d s : Operand)
    (ho : o.op = .call { callee := .builtin .copy, args := #[d, s], argTypes := #[22, 22] }) (h p n c2 g q c : Nat) (hd : a.eval d = .slice (some ⟨h, p, none⟩) n c2) (hs : a.eval s = .slice (some ⟨g, q, none⟩) n c)
    (X : List Int) (hX : X.length = n) (hn : 0 < n) (hb : ∃ cur, Blk w h cur ∧ p + n ≤ cur.size) (hseg : Seg w g q X)
    (hK : ∀ w', Hid (Wq (Dj h p n) w w' ∧ Seg w' h p X) → wpList Try.prog ops Q rest (a.put o.dst (goInt n)) w') : wpList Try.prog ops Q (o :: rest) a w := by
  obtain ⟨cur, hb, hc⟩ := hb
  refine wpList_copy_own hgd d s 22 22 ho 3 Try.underlying22 (by kernel_rfl) h p n c2 ⟨g, q, none⟩ n c hd hs cur 3 hb (X.map fun x => .int .i64 x) (by simp [hX]) (fun j v hv => ?_) (by simp; omega) (fun v hv => by simp at hv; obtain ⟨x, _, rfl⟩ := hv; rfl) ?_
  · have hj : j < X.length := by have := (List.getElem?_eq_some_iff.1 hv).1; simpa using this
    rw [adr_add, hseg.at hj]
    simp [hj] at hv
    simp [List.getD, hj, hv]
  · have := hb.row p X (by omega) (by omega)
    rw [hX] at this
    have h2 := hK _ this
    rw [List.length_map, hX]
    simpa [hX] using h2

set_option maxRecDepth 20000 in set_option maxHeartbeats 2000000 in
theorem arrange_few {f : Nat} (va vr : Value) (L : List Int) (w : World) (h : Rd w va L) (hn : L.length < 2) :
    Calls Try.prog 22 #[va, vr, .func (.func f) #[] #[]] w fun e w' => e = .returned (.tuple #[]) ∧ w' = w := by
  obtain ⟨a, c, rfl⟩ := h.form
  obtain ⟨m, hm⟩ : ∃ m, L.length = m := ⟨_, rfl⟩
  rw [hm] at hn ⊢
  have h1 : (m : Int) < 2 := by omega
  clear h hm
  go_enter Try.func22, Try.ntmps22
  go_wp2_with fail
  exact bodyPost_ret (v := .tuple #[]) (by simp [results, Try.results22, go_sem]) rfl ⟨rfl, rfl⟩
set_option maxRecDepth 20000 in set_option maxHeartbeats 2000000 in
theorem arrange_any {f : Nat} {k : Int → Int} (hO : Ordr f k) : ∀ (n g o c h p c2 : Nat) (L : List Int) (w : World), ArR g o h p n L w → n ≤ c → n ≤ c2 → n ≤ 1000 →
    Calls Try.prog 22 #[.slice (Option.some ⟨g, o, none⟩) n c, .slice (Option.some ⟨h, p, none⟩) n c2, .func (.func f) #[] #[]] w fun e w' => e = .returned (.tuple #[]) ∧ Seg w' g o (isort k L) ∧ Wq (Da g o h p n) w w' := by
  intro n
  induction n using Nat.strongRecOn with
  | ind n ih =>
    intro g o c h p c2 L w H hc hc2 hn
    by_cases hn2 : n < 2
    · refine (arrange_few _ _ L w (H.seg.rd (n := n) (c := c) H.len.symm hc H.ints) (by rw [H.len]; exact hn2)).mono ?_
      rintro e w' ⟨rfl, rfl⟩
      refine ⟨rfl, ?_, Wq.refl _ _⟩
      have : isort k L = L := isort_id (by
        have := H.len
        rcases L with _ | ⟨x, _ | ⟨y, L⟩⟩
        · simp [Srt]
        · simp [Srt]
        · simp at this; omega)
      rw [this]
      exact H.seg
    · obtain ⟨m, hm⟩ : ∃ m, n / 2 = m := ⟨_, rfl⟩
      have hmn : 0 < m ∧ 0 < n - m ∧ m + (n - m) = n ∧ m < n ∧ n - m < n := by omega
      obtain ⟨hm0, hm20, hmm, hmlt, hm2lt⟩ := hmn
      have e1 : (n : Int).tdiv 2 = (m : Int) := by rw [Int.tdiv_eq_ediv_of_nonneg (by omega)]; omega
      have e2 : IntKind.i64.wrap (m : Int) = (m : Int) := by rw [IntKind.wrap_i64]; omega
      have hn2' : ¬ (n : Int) < 2 := by omega
      have hlL := H.len
      have CJ := fun (va vb : Value) (A B : List Int) (W : World) (h : JnR k W g o n (isort k L) [] A B va vb W) => join_any hO g o c n va vb A B (isort k L) W h hc hn
      have A1 : ∀ W, IsGr w W → ArR g o h p m (L.take m) W := fun W hg => (show ArR g o h p m (L.take m) w from ⟨H.seg.take m, by rw [List.length_take]; omega, fun x hx => H.ints x (List.mem_of_mem_take hx), by obtain ⟨cur, k1, k2⟩ := H.room; exact ⟨cur, k1, by omega⟩, H.ne⟩).gr hg
      have C1 := fun W hg => ih m hmlt g o c h p c2 (L.take m) W (A1 W hg) (by omega) (by omega) (by omega)
      have C2 := fun W (A2 : ArR g (o + m) h (p + m) (n - m) (L.drop m) W) => ih (n - m) hm2lt g (o + m) (c - m) h (p + m) (c2 - m) (L.drop m) W A2 (by omega) (by omega) (by omega)
      have hcm : ¬ c = m := by omega
      have hcm2 : ¬ c2 = m := by omega
      have HH : Hid (ArR g o h p n L w) := H
      clear ih H A1 hO
      have HM : Hid (0 < m ∧ 0 < n - m ∧ m + (n - m) = n ∧ m < n ∧ n - m < n) := ⟨hm0, hm20, hmm, hmlt, hm2lt⟩
      have hmn' : (m : Int) ≤ n := by omega
      have hmc' : (m : Int) ≤ c := by omega
      have hmd' : (m : Int) ≤ c2 := by omega
      clear hm hlL hmm hm2lt hm20
      go_enter Try.func22, Try.ntmps22
      go_upto_region 2 with fail
      refine wp_region_held_drew (S := (fun _ => True)) (by kernel_rfl) (by (try dsimp only); all_goals trivial) (fun hHeld => ?_)
      refine wpAnyH_take (i := 0) (oi := { dst := some 13, op := Op.move (Operand.tmp 0), type := 22, pos := "merge.go:30", after := #[], guard := none }) (v := ?_) rfl (by kernel_rfl) (by kernel_rfl) (by kernel_rfl) (fun _ _ _ h => h) (Or.inl ⟨by rfl, ?_⟩) (by assumption) ?_
      rotate_left
      · (intro w hSw; (try dsimp only at hSw); go_simp <;> with_reducible rfl)
      (try simp only [Act.put, List.setIfInBounds_toArray, List.set_cons_zero, List.set_cons_succ])
      refine wpAnyH_take (i := 1) (oi := { dst := some 14, op := Op.move (Operand.tmp 6), type := 3, pos := "merge.go:30", after := #[], guard := none }) (v := ?_) rfl (by kernel_rfl) (by kernel_rfl) (by kernel_rfl) (fun _ _ _ h => h) (Or.inl ⟨by rfl, ?_⟩) (by assumption) ?_
      rotate_left
      · (intro w hSw; (try dsimp only at hSw); go_simp <;> with_reducible rfl)
      (try simp only [Act.put, List.setIfInBounds_toArray, List.set_cons_zero, List.set_cons_succ])
      refine wpAnyH_take (i := 2) (oi := { dst := some 15, op := Op.slice 22 (Operand.tmp 13) none (some (Operand.tmp 14)) none, type := 22, pos := "merge.go:30", after := #[{ on := 0, ground := Ground.data }, { on := 1, ground := Ground.data }], guard := none }) (v := ?_) rfl (by kernel_rfl) (by kernel_rfl) (by kernel_rfl) (fun _ _ _ h => h) (Or.inl ⟨by rfl, ?_⟩) (by assumption) ?_
      rotate_left
      · (intro w hSw; (try dsimp only at hSw); go_simp <;> with_reducible rfl)
      (try simp only [Act.put, List.setIfInBounds_toArray, List.set_cons_zero, List.set_cons_succ])
      refine wpAnyH_take (i := 3) (oi := { dst := some 16, op := Op.move (Operand.tmp 1), type := 22, pos := "merge.go:30", after := #[], guard := none }) (v := ?_) rfl (by kernel_rfl) (by kernel_rfl) (by kernel_rfl) (fun _ _ _ h => h) (Or.inl ⟨by rfl, ?_⟩) (by assumption) ?_
      rotate_left
      · (intro w hSw; (try dsimp only at hSw); go_simp <;> with_reducible rfl)
      (try simp only [Act.put, List.setIfInBounds_toArray, List.set_cons_zero, List.set_cons_succ])
      refine wpAnyH_take (i := 4) (oi := { dst := some 17, op := Op.move (Operand.tmp 6), type := 3, pos := "merge.go:30", after := #[], guard := none }) (v := ?_) rfl (by kernel_rfl) (by kernel_rfl) (by kernel_rfl) (fun _ _ _ h => h) (Or.inl ⟨by rfl, ?_⟩) (by assumption) ?_
      rotate_left
      · (intro w hSw; (try dsimp only at hSw); go_simp <;> with_reducible rfl)
      (try simp only [Act.put, List.setIfInBounds_toArray, List.set_cons_zero, List.set_cons_succ])
      refine wpAnyH_take (i := 5) (oi := { dst := some 18, op := Op.slice 22 (Operand.tmp 16) none (some (Operand.tmp 17)) none, type := 22, pos := "merge.go:30", after := #[{ on := 3, ground := Ground.data }, { on := 4, ground := Ground.data }], guard := none }) (v := ?_) rfl (by kernel_rfl) (by kernel_rfl) (by kernel_rfl) (fun _ _ _ h => h) (Or.inl ⟨by rfl, ?_⟩) (by assumption) ?_
      rotate_left
      · (intro w hSw; (try dsimp only at hSw); go_simp <;> with_reducible rfl)
      (try simp only [Act.put, List.setIfInBounds_toArray, List.set_cons_zero, List.set_cons_succ])
      refine wpAnyH_take (i := 6) (oi := { dst := some 19, op := Op.move (Operand.tmp 2), type := 25, pos := "merge.go:30", after := #[], guard := none }) (v := ?_) rfl (by kernel_rfl) (by kernel_rfl) (by kernel_rfl) (fun _ _ _ h => h) (Or.inl ⟨by rfl, ?_⟩) (by assumption) ?_
      rotate_left
      · (intro w hSw; (try dsimp only at hSw); go_simp <;> with_reducible rfl)
      (try simp only [Act.put, List.setIfInBounds_toArray, List.set_cons_zero, List.set_cons_succ])
      refine wpAnyH_ready (rs := [7]) (by kernel_rfl) (by simp) ?_
      refine AllReadyH.cons (o := { dst := some 20, op := Op.call { callee := Callee.value (Operand.func 22), args := #[Operand.tmp 15, Operand.tmp 18, Operand.tmp 19], argTypes := #[22, 22, 25] }, type := 0, pos := "merge.go:30", after := #[{ on := 2, ground := Ground.data }, { on := 5, ground := Ground.data }, { on := 6, ground := Ground.data }], guard := none }) rfl (fun K hK => ?_) AllReadyH.nil
      go_simp
      refine (C1 _ (by with_reducible repeat (first | exact IsGr.refl _ | refine IsGr.gr ?_ _ _ | refine IsGr.alloc ?_ _ | refine IsGr.drew ?_ | refine IsGr.drewN ?_ _))).mono ?_
      rintro e w1 ⟨rfl, hs1, hw1⟩
      (try go_wp2_with fail)
      refine hK.out _ _ (by (try dsimp only); all_goals trivial) (fun hHeld2 => ?_)
      clear hK K hHeld
      have hHeld := hHeld2
      clear hHeld2
      (try simp only [Act.put, List.setIfInBounds_toArray, List.set_cons_zero, List.set_cons_succ])
      refine wpAnyH_done (by kernel_rfl) ?_ _
      have W1 : Wq (Da g o h p n) w w1 := (Wq.of_gr _ (by with_reducible repeat (first | exact IsGr.refl _ | refine IsGr.gr ?_ _ _ | refine IsGr.alloc ?_ _ | refine IsGr.drew ?_ | refine IsGr.drewN ?_ _))).trans (hw1.mono (fun k i _ e => by unfold Da Dj at *; omega))
      have A2 : ∀ W, IsGr w1 W → ArR g (o + m) h (p + m) (n - m) (L.drop m) W := fun W hg => (show ArR g (o + m) h (p + m) (n - m) (L.drop m) w1 from
        ⟨((HH.out.seg.drop m).gr (by with_reducible repeat (first | exact IsGr.refl _ | refine IsGr.gr ?_ _ _ | refine IsGr.alloc ?_ _ | refine IsGr.drew ?_ | refine IsGr.drewN ?_ _))).wq hw1 (fun i hi e => by have := HH.out.ne; unfold Da Dj at e; omega), by rw [List.length_drop, HH.out.len], fun x hx => HH.out.ints x (List.mem_of_mem_drop hx), W1.blk (by obtain ⟨cur, k1, k2⟩ := HH.out.room; exact ⟨cur, k1, by omega⟩), HH.out.ne⟩).gr hg
      have C3 := fun W hg => C2 W (A2 W hg)
      have H1 : Hid (Seg w1 g o (isort k (L.take m)) ∧ Wq (Da g o h p n) w w1) := ⟨hs1, W1⟩
      clear C1 C2 A2 hs1 hw1 W1 hHeld
      go_upto_region 3 with fail
      refine wp_region_held_drew (S := (fun _ => True)) (by kernel_rfl) (by (try dsimp only); all_goals trivial) (fun hHeld => ?_)
      refine wpAnyH_take (i := 0) (oi := { dst := some 21, op := Op.move (Operand.tmp 0), type := 22, pos := "merge.go:31", after := #[], guard := none }) (v := ?_) rfl (by kernel_rfl) (by kernel_rfl) (by kernel_rfl) (fun _ _ _ h => h) (Or.inl ⟨by rfl, ?_⟩) (by assumption) ?_
      rotate_left
      · (intro w hSw; (try dsimp only at hSw); go_simp <;> with_reducible rfl)
      (try simp only [Act.put, List.setIfInBounds_toArray, List.set_cons_zero, List.set_cons_succ])
      refine wpAnyH_take (i := 1) (oi := { dst := some 22, op := Op.move (Operand.tmp 6), type := 3, pos := "merge.go:31", after := #[], guard := none }) (v := ?_) rfl (by kernel_rfl) (by kernel_rfl) (by kernel_rfl) (fun _ _ _ h => h) (Or.inl ⟨by rfl, ?_⟩) (by assumption) ?_
      rotate_left
      · (intro w hSw; (try dsimp only at hSw); go_simp <;> with_reducible rfl)
      (try simp only [Act.put, List.setIfInBounds_toArray, List.set_cons_zero, List.set_cons_succ])
      refine wpAnyH_take (i := 2) (oi := { dst := some 23, op := Op.slice 22 (Operand.tmp 21) (some (Operand.tmp 22)) none none, type := 22, pos := "merge.go:31", after := #[{ on := 0, ground := Ground.data }, { on := 1, ground := Ground.data }], guard := none }) (v := ?_) rfl (by kernel_rfl) (by kernel_rfl) (by kernel_rfl) (fun _ _ _ h => h) (Or.inl ⟨by rfl, ?_⟩) (by assumption) ?_
      rotate_left
      · (intro w hSw; (try dsimp only at hSw); go_simp <;> with_reducible rfl)
      (try simp only [Act.put, List.setIfInBounds_toArray, List.set_cons_zero, List.set_cons_succ])
      refine wpAnyH_take (i := 3) (oi := { dst := some 24, op := Op.move (Operand.tmp 1), type := 22, pos := "merge.go:31", after := #[], guard := none }) (v := ?_) rfl (by kernel_rfl) (by kernel_rfl) (by kernel_rfl) (fun _ _ _ h => h) (Or.inl ⟨by rfl, ?_⟩) (by assumption) ?_
      rotate_left
      · (intro w hSw; (try dsimp only at hSw); go_simp <;> with_reducible rfl)
      (try simp only [Act.put, List.setIfInBounds_toArray, List.set_cons_zero, List.set_cons_succ])
      refine wpAnyH_take (i := 4) (oi := { dst := some 25, op := Op.move (Operand.tmp 6), type := 3, pos := "merge.go:31", after := #[], guard := none }) (v := ?_) rfl (by kernel_rfl) (by kernel_rfl) (by kernel_rfl) (fun _ _ _ h => h) (Or.inl ⟨by rfl, ?_⟩) (by assumption) ?_
      rotate_left
      · (intro w hSw; (try dsimp only at hSw); go_simp <;> with_reducible rfl)
      (try simp only [Act.put, List.setIfInBounds_toArray, List.set_cons_zero, List.set_cons_succ])
      refine wpAnyH_take (i := 5) (oi := { dst := some 26, op := Op.slice 22 (Operand.tmp 24) (some (Operand.tmp 25)) none none, type := 22, pos := "merge.go:31", after := #[{ on := 3, ground := Ground.data }, { on := 4, ground := Ground.data }], guard := none }) (v := ?_) rfl (by kernel_rfl) (by kernel_rfl) (by kernel_rfl) (fun _ _ _ h => h) (Or.inl ⟨by rfl, ?_⟩) (by assumption) ?_
      rotate_left
      · (intro w hSw; (try dsimp only at hSw); go_simp <;> with_reducible rfl)
      (try simp only [Act.put, List.setIfInBounds_toArray, List.set_cons_zero, List.set_cons_succ])
      refine wpAnyH_take (i := 6) (oi := { dst := some 27, op := Op.move (Operand.tmp 2), type := 25, pos := "merge.go:31", after := #[], guard := none }) (v := ?_) rfl (by kernel_rfl) (by kernel_rfl) (by kernel_rfl) (fun _ _ _ h => h) (Or.inl ⟨by rfl, ?_⟩) (by assumption) ?_
      rotate_left
      · (intro w hSw; (try dsimp only at hSw); go_simp <;> with_reducible rfl)
      (try simp only [Act.put, List.setIfInBounds_toArray, List.set_cons_zero, List.set_cons_succ])
      refine wpAnyH_ready (rs := [7]) (by kernel_rfl) (by simp) ?_
      refine AllReadyH.cons (o := { dst := some 28, op := Op.call { callee := Callee.value (Operand.func 22), args := #[Operand.tmp 23, Operand.tmp 26, Operand.tmp 27], argTypes := #[22, 22, 25] }, type := 0, pos := "merge.go:31", after := #[{ on := 2, ground := Ground.data }, { on := 5, ground := Ground.data }, { on := 6, ground := Ground.data }], guard := none }) rfl (fun K hK => ?_) AllReadyH.nil
      go_simp
      refine (C3 _ (by with_reducible repeat (first | exact IsGr.refl _ | refine IsGr.gr ?_ _ _ | refine IsGr.alloc ?_ _ | refine IsGr.drew ?_ | refine IsGr.drewN ?_ _))).mono ?_
      rintro e w2 ⟨rfl, hs2, hw2⟩
      (try go_wp2_with fail)
      refine hK.out _ _ (by (try dsimp only); all_goals trivial) (fun hHeld2 => ?_)
      clear hK K hHeld
      have hHeld := hHeld2
      clear hHeld2
      (try simp only [Act.put, List.setIfInBounds_toArray, List.set_cons_zero, List.set_cons_succ])
      refine wpAnyH_done (by kernel_rfl) ?_ _
      have W2 : Wq (Da g o h p n) w1 w2 := (Wq.of_gr _ (by with_reducible repeat (first | exact IsGr.refl _ | refine IsGr.gr ?_ _ _ | refine IsGr.alloc ?_ _ | refine IsGr.drew ?_ | refine IsGr.drewN ?_ _))).trans (hw2.mono (fun k i _ e => by have := HM.out; unfold Da Dj at *; omega))
      have H2 : Hid (Seg w2 g o (isort k (L.take m) ++ isort k (L.drop m)) ∧ Wq (Da g o h p n) w w2) := by
        refine ⟨((H1.out.1.gr (by with_reducible repeat (first | exact IsGr.refl _ | refine IsGr.gr ?_ _ _ | refine IsGr.alloc ?_ _ | refine IsGr.drew ?_ | refine IsGr.drewN ?_ _))).wq hw2 (fun i hi e => by have := HH.out.ne; rw [isort_len, List.length_take] at hi; unfold Da Dj at e; omega)).append ?_, H1.out.2.trans W2⟩
        rw [isort_len, List.length_take, Nat.min_eq_left (by rw [HH.out.len]; omega)]
        exact hs2
      have hX : (isort k (L.take m) ++ isort k (L.drop m)).length = n := by have := HM.out; rw [List.length_append, isort_len, isort_len, List.length_take, List.length_drop, HH.out.len]; omega
      obtain ⟨X, hXe⟩ : ∃ X, isort k (L.take m) ++ isort k (L.drop m) = X := ⟨_, rfl⟩
      have HX : Hid (isort k (L.take m) ++ isort k (L.drop m) = X) := hXe
      rw [hXe] at hX H2
      have hbh : ∃ cur, Blk w2 h cur ∧ p + n ≤ cur.size := H2.out.2.blk HH.out.room
      have hn0 : 0 < n := by omega
      have hsX := H2.out.1
      clear C3 hs2 hw2 W2 H1 hXe hHeld
      go_wp2_with (refine wpList_copy_seg rfl _ _ rfl h p n c2 g o c rfl rfl X hX hn0 hbh hsX ?_; intro w3 H3)
      have HJ : ∀ W, IsGr w3 W → JnR k W g o n (isort k L) [] (isort k (L.take m)) (isort k (L.drop m)) (.slice (some ⟨h, p, none⟩) m c2) (.slice (some ⟨h, p + m, none⟩) (n - m) (c2 - m)) W := fun W hg => by
        have hx : Seg W h p (isort k (L.take m) ++ isort k (L.drop m)) := HX.out.symm ▸ H3.out.2.gr hg
        have l1 : (isort k (L.take m)).length = m := by have := HM.out; rw [isort_len, List.length_take, HH.out.len]; omega
        have l2 : (isort k (L.drop m)).length = n - m := by rw [isort_len, List.length_drop, HH.out.len]
        refine ⟨?_, ?_, ?_, ?_, ?_, ?_, ?_, ?_, Wq.refl _ _⟩
        · rw [List.nil_append, mrg_halves, List.take_append_drop]
        · have := HM.out; rw [l1, l2]; simp; omega
        · have := hx.take m
          rw [List.take_append_of_le_length (by omega), List.take_of_length_le (by omega)] at this
          exact this.rd l1.symm (by omega) (isort_ints (fun x hx => HH.out.ints x (List.mem_of_mem_take hx)))
        · have := hx.drop m
          rw [List.drop_append_of_le_length (by omega), List.drop_eq_nil_of_le (by omega), List.nil_append] at this
          exact this.rd l2.symm (by omega) (isort_ints (fun x hx => HH.out.ints x (List.mem_of_mem_drop hx)))
        · intro b e; have e' := Option.some.inj e; rw [← e']; exact HH.out.ne.symm
        · intro b e; have e' := Option.some.inj e; rw [← e']; exact HH.out.ne.symm
        · have := (H3.out.1.trans (Wq.of_gr _ hg)).blk (H2.out.2.blk (HH.out.len ▸ HH.out.seg.fit (by have := HH.out.len; omega)))
          exact this
        · obtain ⟨cur, k1, k2⟩ := hx
          obtain ⟨c', k3, k4⟩ := (H3.out.1.trans (Wq.of_gr _ hg)).blk (H2.out.2.blk (HH.out.len ▸ HH.out.seg.fit (by have := HH.out.len; omega)))
          exact ⟨c', k3, fun i hi => by simp at hi⟩
      clear hsX hbh hX
      refine wp_region_held_drew (S := (fun _ => True)) (by kernel_rfl) (by (try dsimp only); all_goals trivial) (fun hHeld => ?_)
      refine wpAnyH_take (i := 0) (oi := { dst := some 32, op := Op.move (Operand.tmp 0), type := 22, pos := "merge.go:33", after := #[], guard := none }) (v := ?_) rfl (by kernel_rfl) (by kernel_rfl) (by kernel_rfl) (fun _ _ _ h => h) (Or.inl ⟨by rfl, ?_⟩) (by assumption) ?_
      rotate_left
      · (intro w hSw; (try dsimp only at hSw); go_simp <;> with_reducible rfl)
      (try simp only [Act.put, List.setIfInBounds_toArray, List.set_cons_zero, List.set_cons_succ])
      refine wpAnyH_take (i := 1) (oi := { dst := some 33, op := Op.slice 22 (Operand.tmp 32) none (some (Operand.const (Value.int IntKind.i64 0))) none, type := 22, pos := "merge.go:33", after := #[{ on := 0, ground := Ground.data }], guard := none }) (v := ?_) rfl (by kernel_rfl) (by kernel_rfl) (by kernel_rfl) (fun _ _ _ h => h) (Or.inl ⟨by rfl, ?_⟩) (by assumption) ?_
      rotate_left
      · (intro w hSw; (try dsimp only at hSw); go_simp <;> with_reducible rfl)
      (try simp only [Act.put, List.setIfInBounds_toArray, List.set_cons_zero, List.set_cons_succ])
      refine wpAnyH_take (i := 2) (oi := { dst := some 34, op := Op.move (Operand.tmp 1), type := 22, pos := "merge.go:33", after := #[], guard := none }) (v := ?_) rfl (by kernel_rfl) (by kernel_rfl) (by kernel_rfl) (fun _ _ _ h => h) (Or.inl ⟨by rfl, ?_⟩) (by assumption) ?_
      rotate_left
      · (intro w hSw; (try dsimp only at hSw); go_simp <;> with_reducible rfl)
      (try simp only [Act.put, List.setIfInBounds_toArray, List.set_cons_zero, List.set_cons_succ])
      refine wpAnyH_take (i := 3) (oi := { dst := some 35, op := Op.move (Operand.tmp 6), type := 3, pos := "merge.go:33", after := #[], guard := none }) (v := ?_) rfl (by kernel_rfl) (by kernel_rfl) (by kernel_rfl) (fun _ _ _ h => h) (Or.inl ⟨by rfl, ?_⟩) (by assumption) ?_
      rotate_left
      · (intro w hSw; (try dsimp only at hSw); go_simp <;> with_reducible rfl)
      (try simp only [Act.put, List.setIfInBounds_toArray, List.set_cons_zero, List.set_cons_succ])
      refine wpAnyH_take (i := 4) (oi := { dst := some 36, op := Op.slice 22 (Operand.tmp 34) none (some (Operand.tmp 35)) none, type := 22, pos := "merge.go:33", after := #[{ on := 2, ground := Ground.data }, { on := 3, ground := Ground.data }], guard := none }) (v := ?_) rfl (by kernel_rfl) (by kernel_rfl) (by kernel_rfl) (fun _ _ _ h => h) (Or.inl ⟨by rfl, ?_⟩) (by assumption) ?_
      rotate_left
      · (intro w hSw; (try dsimp only at hSw); go_simp <;> with_reducible rfl)
      (try simp only [Act.put, List.setIfInBounds_toArray, List.set_cons_zero, List.set_cons_succ])
      refine wpAnyH_take (i := 5) (oi := { dst := some 37, op := Op.move (Operand.tmp 1), type := 22, pos := "merge.go:33", after := #[], guard := none }) (v := ?_) rfl (by kernel_rfl) (by kernel_rfl) (by kernel_rfl) (fun _ _ _ h => h) (Or.inl ⟨by rfl, ?_⟩) (by assumption) ?_
      rotate_left
      · (intro w hSw; (try dsimp only at hSw); go_simp <;> with_reducible rfl)
      (try simp only [Act.put, List.setIfInBounds_toArray, List.set_cons_zero, List.set_cons_succ])
      refine wpAnyH_take (i := 6) (oi := { dst := some 38, op := Op.move (Operand.tmp 6), type := 3, pos := "merge.go:33", after := #[], guard := none }) (v := ?_) rfl (by kernel_rfl) (by kernel_rfl) (by kernel_rfl) (fun _ _ _ h => h) (Or.inl ⟨by rfl, ?_⟩) (by assumption) ?_
      rotate_left
      · (intro w hSw; (try dsimp only at hSw); go_simp <;> with_reducible rfl)
      (try simp only [Act.put, List.setIfInBounds_toArray, List.set_cons_zero, List.set_cons_succ])
      refine wpAnyH_take (i := 7) (oi := { dst := some 39, op := Op.slice 22 (Operand.tmp 37) (some (Operand.tmp 38)) none none, type := 22, pos := "merge.go:33", after := #[{ on := 5, ground := Ground.data }, { on := 6, ground := Ground.data }], guard := none }) (v := ?_) rfl (by kernel_rfl) (by kernel_rfl) (by kernel_rfl) (fun _ _ _ h => h) (Or.inl ⟨by rfl, ?_⟩) (by assumption) ?_
      rotate_left
      · (intro w hSw; (try dsimp only at hSw); go_simp <;> with_reducible rfl)
      (try simp only [Act.put, List.setIfInBounds_toArray, List.set_cons_zero, List.set_cons_succ])
      refine wpAnyH_take (i := 8) (oi := { dst := some 40, op := Op.move (Operand.tmp 2), type := 25, pos := "merge.go:33", after := #[], guard := none }) (v := ?_) rfl (by kernel_rfl) (by kernel_rfl) (by kernel_rfl) (fun _ _ _ h => h) (Or.inl ⟨by rfl, ?_⟩) (by assumption) ?_
      rotate_left
      · (intro w hSw; (try dsimp only at hSw); go_simp <;> with_reducible rfl)
      (try simp only [Act.put, List.setIfInBounds_toArray, List.set_cons_zero, List.set_cons_succ])
      refine wpAnyH_ready (rs := [9]) (by kernel_rfl) (by simp) ?_
      refine AllReadyH.cons (o := { dst := some 41, op := Op.call { callee := Callee.value (Operand.func 26), args := #[Operand.tmp 33, Operand.tmp 36, Operand.tmp 39, Operand.tmp 40], argTypes := #[22, 22, 22, 25] }, type := 22, pos := "merge.go:33", after := #[{ on := 1, ground := Ground.data }, { on := 4, ground := Ground.data }, { on := 7, ground := Ground.data }, { on := 8, ground := Ground.data }], guard := none }) rfl (fun K hK => ?_) AllReadyH.nil
      go_simp
      refine (CJ _ _ _ _ _ (HJ _ (by with_reducible repeat (first | exact IsGr.refl _ | refine IsGr.gr ?_ _ _ | refine IsGr.alloc ?_ _ | refine IsGr.drew ?_ | refine IsGr.drewN ?_ _)))).mono ?_
      rintro e w4 ⟨rfl, hs4, hw4⟩
      (try go_wp2_with fail)
      refine hK.out _ _ (by (try dsimp only); all_goals trivial) (fun hHeld2 => ?_)
      clear hK K hHeld
      have hHeld := hHeld2
      clear hHeld2
      (try simp only [Act.put, List.setIfInBounds_toArray, List.set_cons_zero, List.set_cons_succ])
      refine wpAnyH_done (by kernel_rfl) ?_ _
      go_wp2_with fail
      go_end0
      refine ⟨rfl, hs4, ?_⟩
      exact (H2.out.2.trans (H3.out.1.mono (fun k i _ e => Or.inr e))).trans ((Wq.of_gr _ (by with_reducible repeat (first | exact IsGr.refl _ | refine IsGr.gr ?_ _ _ | refine IsGr.alloc ?_ _ | refine IsGr.drew ?_ | refine IsGr.drewN ?_ _))).trans (hw4.mono (fun k i _ e => Or.inl e)))
      
      
end Go.Proofs.Ytblnpabgakmghaa
