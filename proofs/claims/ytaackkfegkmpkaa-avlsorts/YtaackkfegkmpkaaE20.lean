/- gromalaw05 over the loaded program: step. -/
import Derived.Test.YtaackkfegkmpkaaE19
namespace Go.Proofs.Ytaackkfegkmpkaa
open Go.RowKit Go.Shelf
attribute [local go_sem] Gr.size Gr.cell? Gr.frozen? Gr.setCell Gr.drew Gr.drewN Gr.of_drew Gr.of_drewN Gr.gr Gr.lt_of1 Gr.le_of1 Gr.lt_of2 Gr.le_of2 Gr.lt_of3 Gr.le_of3 Gr.lt_of4 Gr.le_of4 Gr.lt_of5 Gr.le_of5 Gr.lt_of6 Gr.le_of6 Gr.lt_of7 Gr.le_of7 Gr.lt_of8 Gr.le_of8 Gr.lt_of9 Gr.le_of9 Gr.lt_of10 Gr.le_of10 Gr.lt_of11 Gr.le_of11 Gr.lt_of12 Gr.le_of12 Gr.lt_of13 Gr.le_of13 Gr.lt_of14 Gr.le_of14 Gr.lt_of15 Gr.le_of15 Gr.lt_of16 Gr.le_of16 Gr.lt_of17 Gr.le_of17 Gr.lt_of18 Gr.le_of18 Gr.lt_of19 Gr.le_of19 Gr.lt_of20 Gr.le_of20 Gr.lt_of21 Gr.le_of21 Gr.lt_of22 Gr.le_of22 Gr.lt_of23 Gr.le_of23 Gr.lt_of24 Gr.le_of24
theorem cell_wr {S : List Nat} {w w' : World} {a : Addr} {v : Value} (h : w.cell? a = some v) (hg : Wr S w w') (ha : a.block ∉ S) : w'.cell? a = some v := by
  have hlt := block_lt h
  unfold World.cell? at *
  rw [hg.block _ hlt ha]
  exact h

set_option maxRecDepth 20000 in set_option maxHeartbeats 1000000 in
theorem step_none (base t : Nat) (v : Value) (T : AT) (kd n : Int) (w : World) (h : Both w base t v T) (hb : base ≤ w.heap.size) (hl : T.inl.length ≤ 300) (hn : I64 n) (h1 : kd ≠ 1) (h2 : kd ≠ 2) :
    Calls Try.prog 11 #[.pointer (some ⟨t, 0, none⟩), v, .agg #[.int .i64 kd, .int .i64 n]] w fun e w' => StepR w base t T e w' := by
  obtain ⟨a, c, rfl, _⟩ := h.lst.form
  have hA := (IsGr.refl w).alloc (.cells #[.int .i64 kd, .int .i64 n] 29)
  obtain ⟨wb, hwb⟩ : ∃ wb, w.alloc (.cells #[.int .i64 kd, .int .i64 n] 29) = wb := ⟨_, rfl⟩
  have b0 : wb.cell? ⟨w.heap.size, 0, none⟩ = some (.int .i64 kd) := by rw [← hwb]; simp [go_sem]
  have b1 : wb.cell? ⟨w.heap.size, 1, none⟩ = some (.int .i64 n) := by rw [← hwb]; simp [go_sem]
  rw [hwb] at hA
  have CF := fun w' (hg : IsGr wb w') => Find_any base _ T.vals n w' (h.lst.gr (hA.trans hg)) (vals_64 h.st.ints) hn (by rw [vals_len]; omega)
  have lz : w.heap.size < wb.heap.size := by rw [← hwb]; simp
  obtain ⟨m, hm⟩ : ∃ m, T.vals.length = m := ⟨_, rfl⟩
  rw [hm] at CF ⊢
  have hM : Hid (T.vals.length = m) := hm
  clear hm
  go_enter Try.func11, Try.ntmps11
  go_upto_region 1 with fail
  (try rw [hwb])
  clear hwb
  go_wp2_with fail
  refine (CF _ (IsGr.refl _)).mono ?_
  rintro e w1 ⟨i, hi, rfl, e1⟩
  obtain rfl := e1.symm
  clear CF
  clear hi
  go_wp2_with fail
  refine bodyPost_ret (v := .tuple #[.slice a m c, .bool true]) (by simp [results, Try.results11, go_sem]) rfl ?_
  exact step_same (hM.out ▸ h) hb hA

set_option maxRecDepth 20000 in set_option maxHeartbeats 1000000 in
theorem step_put0 (base t : Nat) (v : Value) (T : AT) (n : Int) (w : World) (h : Both w base t v T) (hb : base ≤ w.heap.size) (hl : T.inl.length ≤ 300) (hn : I64 n) (hh : has tq n T = true) :
    Calls Try.prog 11 #[.pointer (some ⟨t, 0, none⟩), v, .agg #[.int .i64 1, .int .i64 n]] w fun e w' => StepR w base t T e w' := by
  obtain ⟨a, c, rfl, _⟩ := h.lst.form
  have hA := (IsGr.refl w).alloc (.cells #[.int .i64 1, .int .i64 n] 29)
  obtain ⟨wb, hwb⟩ : ∃ wb, w.alloc (.cells #[.int .i64 1, .int .i64 n] 29) = wb := ⟨_, rfl⟩
  have b0 : wb.cell? ⟨w.heap.size, 0, none⟩ = some (.int .i64 1) := by rw [← hwb]; simp [go_sem]
  have b1 : wb.cell? ⟨w.heap.size, 1, none⟩ = some (.int .i64 n) := by rw [← hwb]; simp [go_sem]
  rw [hwb] at hA
  have CF := fun w' (hg : IsGr wb w') => Find_any base _ T.vals n w' (h.lst.gr (hA.trans hg)) (vals_64 h.st.ints) hn (by rw [vals_len]; omega)
  have lz : w.heap.size < wb.heap.size := by rw [← hwb]; simp
  obtain ⟨m, hm⟩ : ∃ m, T.vals.length = m := ⟨_, rfl⟩
  rw [hm] at CF ⊢
  have hM : Hid (T.vals.length = m) := hm
  clear hm
  go_enter Try.func11, Try.ntmps11
  go_upto_region 1 with fail
  (try rw [hwb])
  clear hwb
  go_wp2_with fail
  refine (CF _ (IsGr.refl _)).mono ?_
  rintro e w1 ⟨i, hi, rfl, e1⟩
  obtain rfl := e1.symm
  clear CF
  have hI : 0 ≤ i := by
    rcases find_has h.st.rise hi with h1 | h1
    · exact h1.2.1
    · rw [hh] at h1; cases h1.1
  have CP := fun w' (hg : IsGr w w') => Put_old tens_ordr n hn w' (h.st.gr hg) hh
  clear hi hh
  go_wp2_with fail
  refine (CP _ hA).mono ?_
  rintro e w2 ⟨rfl, hg2⟩
  go_wp2_with fail
  refine bodyPost_ret (v := .tuple #[.slice a m c, .bool true]) (by simp [results, Try.results11, go_sem]) rfl ?_
  exact step_same (hM.out ▸ h) hb (hA.trans hg2)

set_option maxRecDepth 20000 in set_option maxHeartbeats 1000000 in
theorem step_del0 (base t : Nat) (v : Value) (T : AT) (n : Int) (w : World) (h : Both w base t v T) (hb : base ≤ w.heap.size) (hl : T.inl.length ≤ 300) (hn : I64 n) (hh : has tq n T = false) :
    Calls Try.prog 11 #[.pointer (some ⟨t, 0, none⟩), v, .agg #[.int .i64 2, .int .i64 n]] w fun e w' => StepR w base t T e w' := by
  obtain ⟨a, c, rfl, _⟩ := h.lst.form
  have hA := (IsGr.refl w).alloc (.cells #[.int .i64 2, .int .i64 n] 29)
  obtain ⟨wb, hwb⟩ : ∃ wb, w.alloc (.cells #[.int .i64 2, .int .i64 n] 29) = wb := ⟨_, rfl⟩
  have b0 : wb.cell? ⟨w.heap.size, 0, none⟩ = some (.int .i64 2) := by rw [← hwb]; simp [go_sem]
  have b1 : wb.cell? ⟨w.heap.size, 1, none⟩ = some (.int .i64 n) := by rw [← hwb]; simp [go_sem]
  rw [hwb] at hA
  have CF := fun w' (hg : IsGr wb w') => Find_any base _ T.vals n w' (h.lst.gr (hA.trans hg)) (vals_64 h.st.ints) hn (by rw [vals_len]; omega)
  have lz : w.heap.size < wb.heap.size := by rw [← hwb]; simp
  obtain ⟨m, hm⟩ : ∃ m, T.vals.length = m := ⟨_, rfl⟩
  rw [hm] at CF ⊢
  have hM : Hid (T.vals.length = m) := hm
  clear hm
  go_enter Try.func11, Try.ntmps11
  go_upto_region 1 with fail
  (try rw [hwb])
  clear hwb
  go_wp2_with fail
  refine (CF _ (IsGr.refl _)).mono ?_
  rintro e w1 ⟨i, hi, rfl, e1⟩
  obtain rfl := e1.symm
  clear CF
  have hI : i = -1 := by
    rcases find_has h.st.rise hi with h1 | h1
    · rw [hh] at h1; cases h1.1
    · exact h1.2
  subst hI
  have CP := fun w' (hg : IsGr w w') => Del_old tens_ordr n hn w' (h.st.gr hg) hh
  clear hi hh
  go_wp2_with fail
  refine (CP _ hA).mono ?_
  rintro e w2 ⟨rfl, hg2⟩
  go_wp2_with fail
  refine bodyPost_ret (v := .tuple #[.slice a m c, .bool true]) (by simp [results, Try.results11, go_sem]) rfl ?_
  exact step_same (hM.out ▸ h) hb (hA.trans hg2)

set_option maxRecDepth 20000 in set_option maxHeartbeats 1000000 in
theorem step_put1 (base t : Nat) (v : Value) (T : AT) (n : Int) (w : World) (h : Both w base t v T) (hb : base ≤ w.heap.size) (hl : T.inl.length ≤ 300) (hn : I64 n) (hh : has tq n T = false) :
    Calls Try.prog 11 #[.pointer (some ⟨t, 0, none⟩), v, .agg #[.int .i64 1, .int .i64 n]] w fun e w' => StepR w base t T e w' := by
  obtain ⟨a, c, rfl, _⟩ := h.lst.form
  have hA := (IsGr.refl w).alloc (.cells #[.int .i64 1, .int .i64 n] 29)
  obtain ⟨wb, hwb⟩ : ∃ wb, w.alloc (.cells #[.int .i64 1, .int .i64 n] 29) = wb := ⟨_, rfl⟩
  have b0 : wb.cell? ⟨w.heap.size, 0, none⟩ = some (.int .i64 1) := by rw [← hwb]; simp [go_sem]
  have b1 : wb.cell? ⟨w.heap.size, 1, none⟩ = some (.int .i64 n) := by rw [← hwb]; simp [go_sem]
  rw [hwb] at hA
  have CF := fun w' (hg : IsGr wb w') => Find_any base _ T.vals n w' (h.lst.gr (hA.trans hg)) (vals_64 h.st.ints) hn (by rw [vals_len]; omega)
  have lz : w.heap.size < wb.heap.size := by rw [← hwb]; simp
  obtain ⟨m, hm⟩ : ∃ m, T.vals.length = m := ⟨_, rfl⟩
  rw [hm] at CF ⊢
  have hM : Hid (T.vals.length = m) := hm
  clear hm
  go_enter Try.func11, Try.ntmps11
  go_upto_region 1 with fail
  (try rw [hwb])
  clear hwb
  go_wp2_with fail
  refine (CF _ (IsGr.refl _)).mono ?_
  rintro e w1 ⟨i, hi, rfl, e1⟩
  obtain rfl := e1.symm
  clear CF
  have hI : i = -1 := by
    rcases find_has h.st.rise hi with h1 | h1
    · rw [hh] at h1; cases h1.1
    · exact h1.2
  subst hI
  clear hi
  have CR := fun w' (hg : IsGr w w') => RPut_any base _ T.vals n w' (h.lst.gr hg) (vals_64 h.st.ints) hn (by rw [vals_len]; omega)
  rw [hM.out] at CR
  have HH : Hid (has tq n T = false) := hh
  have hNB : w.heap.size ∉ t :: T.ids := fun hm => by
    rcases List.mem_cons.1 hm with e | e
    · have := h.st.hd.lt; omega
    · have := h.st.tree.lt _ e; omega
  clear hh
  go_upto_region 5 with fail
  refine wp_region_held_drew (S := (fun w' => w'.cell? ⟨w.heap.size, 1, none⟩ = some (.int .i64 n))) (by kernel_rfl) (by (try dsimp only); exact b1) (fun hHeld => ?_)
  refine wpAnyH_take (i := 0) (oi := { dst := some 31, op := Op.move (Operand.tmp 1), type := 27, pos := "law.go:44", after := #[], guard := none }) (v := ?_) rfl (by kernel_rfl) (by kernel_rfl) (by kernel_rfl) (fun _ _ _ h => h) (Or.inl ⟨by rfl, ?_⟩) (by assumption) ?_
  rotate_left
  · (intro w hSw; (try dsimp only at hSw); go_simp <;> with_reducible rfl)
  (try simp only [Act.put, List.setIfInBounds_toArray, List.set_cons_zero, List.set_cons_succ])
  refine wpAnyH_take (i := 1) (oi := { dst := some 32, op := Op.fieldAddr 29 (Operand.tmp 5) 1, type := 0, pos := "law.go:44", after := #[], guard := none }) (v := ?_) rfl (by kernel_rfl) (by kernel_rfl) (by kernel_rfl) (fun _ _ _ h => h) (Or.inl ⟨by rfl, ?_⟩) (by assumption) ?_
  rotate_left
  · (intro w hSw; (try dsimp only at hSw); go_simp <;> with_reducible rfl)
  (try simp only [Act.put, List.setIfInBounds_toArray, List.set_cons_zero, List.set_cons_succ])
  refine wpAnyH_take (i := 2) (oi := { dst := some 33, op := Op.load 3 (Operand.tmp 32), type := 3, pos := "law.go:44", after := #[{ on := 1, ground := Ground.data }], guard := none }) (v := ?_) rfl (by kernel_rfl) (by kernel_rfl) (by kernel_rfl) (fun _ _ _ h => h) (Or.inl ⟨by rfl, ?_⟩) (by assumption) ?_
  rotate_left
  · (intro w hSw; (try dsimp only at hSw); go_simp <;> with_reducible rfl)
  (try simp only [Act.put, List.setIfInBounds_toArray, List.set_cons_zero, List.set_cons_succ])
  refine wpAnyH_take (i := 4) (oi := { dst := some 35, op := Op.move (Operand.tmp 0), type := 23, pos := "law.go:44", after := #[], guard := none }) (v := ?_) rfl (by kernel_rfl) (by kernel_rfl) (by kernel_rfl) (fun _ _ _ h => h) (Or.inl ⟨by rfl, ?_⟩) (by assumption) ?_
  rotate_left
  · (intro w hSw; (try dsimp only at hSw); go_simp <;> with_reducible rfl)
  (try simp only [Act.put, List.setIfInBounds_toArray, List.set_cons_zero, List.set_cons_succ])
  refine wpAnyH_take (i := 5) (oi := { dst := some 36, op := Op.fieldAddr 29 (Operand.tmp 5) 1, type := 0, pos := "law.go:44", after := #[], guard := none }) (v := ?_) rfl (by kernel_rfl) (by kernel_rfl) (by kernel_rfl) (fun _ _ _ h => h) (Or.inl ⟨by rfl, ?_⟩) (by assumption) ?_
  rotate_left
  · (intro w hSw; (try dsimp only at hSw); go_simp <;> with_reducible rfl)
  (try simp only [Act.put, List.setIfInBounds_toArray, List.set_cons_zero, List.set_cons_succ])
  refine wpAnyH_take (i := 6) (oi := { dst := some 37, op := Op.load 3 (Operand.tmp 36), type := 3, pos := "law.go:44", after := #[{ on := 5, ground := Ground.data }], guard := none }) (v := ?_) rfl (by kernel_rfl) (by kernel_rfl) (by kernel_rfl) (fun _ _ _ h => h) (Or.inl ⟨by rfl, ?_⟩) (by assumption) ?_
  rotate_left
  · (intro w hSw; (try dsimp only at hSw); go_simp <;> with_reducible rfl)
  (try simp only [Act.put, List.setIfInBounds_toArray, List.set_cons_zero, List.set_cons_succ])
  refine wpAnyH_ready (rs := [3]) (by kernel_rfl) (by simp) ?_
  refine AllReadyH.cons (o := { dst := some 34, op := Op.call { callee := Callee.value (Operand.func 29), args := #[Operand.tmp 31, Operand.tmp 33], argTypes := #[27, 3] }, type := 27, pos := "law.go:44", after := #[{ on := 0, ground := Ground.data }, { on := 2, ground := Ground.data }], guard := none }) rfl (fun K hK => ?_) AllReadyH.nil
  go_simp
  refine (CR _ hA.drew).mono ?_
  rintro e w2 ⟨v', rfl, hl2, hb2⟩
  have z1 := (hb2.cell (p := ⟨w.heap.size, 1, none⟩) (by simpa using lz)).trans b1
  (try go_wp2_with fail)
  refine hK.out _ _ (by (try dsimp only); assumption) (fun hHeld2 => ?_)
  clear hK K hHeld
  have hHeld := hHeld2
  clear hHeld2
  (try simp only [Act.put, List.setIfInBounds_toArray, List.set_cons_zero, List.set_cons_succ])
  refine wpAnyH_ready (rs := [7]) (by kernel_rfl) (by simp) ?_
  refine AllReadyH.cons (o := { dst := some 38, op := Op.call { callee := Callee.value (Operand.func 26), args := #[Operand.tmp 35, Operand.tmp 37], argTypes := #[23, 3] }, type := 4, pos := "law.go:44", after := #[{ on := 4, ground := Ground.data }, { on := 6, ground := Ground.data }, { on := 3, ground := Ground.chain }], guard := none }) rfl (fun K hK => ?_) AllReadyH.nil
  go_simp
  refine (Put_new tens_ordr n hn _ ((h.st.gr hA.drew).wr (Wr.of_below hb2) (by simp)) HH.out (by omega)).mono ?_
  rintro e w3 ⟨nb, hnb, rfl, hs3, hw3⟩
  have z2 := cell_wr z1 hw3 hNB
  (try go_wp2_with fail)
  refine hK.out _ _ (by (try dsimp only); assumption) (fun hHeld2 => ?_)
  clear hK K hHeld
  have hHeld := hHeld2
  clear hHeld2
  (try simp only [Act.put, List.setIfInBounds_toArray, List.set_cons_zero, List.set_cons_succ])
  refine wpAnyH_take (i := 8) (oi := { dst := some 6, op := Op.assign (Operand.tmp 34), type := 27, pos := "law.go:44", after := #[{ on := 3, ground := Ground.data }, { on := 7, ground := Ground.chain }, { on := 0, ground := Ground.phase }, { on := 1, ground := Ground.phase }, { on := 2, ground := Ground.phase }, { on := 3, ground := Ground.phase }, { on := 4, ground := Ground.textOnly Departure.lateStores }, { on := 5, ground := Ground.textOnly Departure.lateStores }, { on := 6, ground := Ground.textOnly Departure.lateStores }, { on := 7, ground := Ground.textOnly Departure.lateStoresUnsure }], guard := none }) (v := ?_) rfl (by kernel_rfl) (by kernel_rfl) (by kernel_rfl) (fun _ _ _ h => h) (Or.inl ⟨by rfl, ?_⟩) (by assumption) ?_
  rotate_left
  · (intro w hSw; (try dsimp only at hSw); go_simp <;> with_reducible rfl)
  (try simp only [Act.put, List.setIfInBounds_toArray, List.set_cons_zero, List.set_cons_succ])
  refine wpAnyH_take (i := 9) (oi := { dst := some 7, op := Op.assign (Operand.tmp 38), type := 4, pos := "law.go:44", after := #[{ on := 7, ground := Ground.data }, { on := 8, ground := Ground.chain }, { on := 0, ground := Ground.phase }, { on := 1, ground := Ground.phase }, { on := 2, ground := Ground.phase }, { on := 3, ground := Ground.phase }, { on := 4, ground := Ground.phase }, { on := 5, ground := Ground.phase }, { on := 6, ground := Ground.phase }, { on := 7, ground := Ground.phase }, { on := 8, ground := Ground.phase }], guard := none }) (v := ?_) rfl (by kernel_rfl) (by kernel_rfl) (by kernel_rfl) (fun _ _ _ h => h) (Or.inl ⟨by rfl, ?_⟩) (by assumption) ?_
  rotate_left
  · (intro w hSw; (try dsimp only at hSw); go_simp <;> with_reducible rfl)
  (try simp only [Act.put, List.setIfInBounds_toArray, List.set_cons_zero, List.set_cons_succ])
  refine wpAnyH_done (by kernel_rfl) ?_ _
  go_wp2_with fail
  refine bodyPost_ret (v := .tuple #[v', .bool true]) (by simp [results, Try.results11, go_sem]) rfl ?_
  exact step_put (hM.out ▸ h) hb hA.drew HH.out hl2 hb2 hs3 hw3 hnb

set_option maxRecDepth 20000 in set_option maxHeartbeats 1000000 in
theorem step_del1 (base t : Nat) (v : Value) (T : AT) (n : Int) (w : World) (h : Both w base t v T) (hb : base ≤ w.heap.size) (hl : T.inl.length ≤ 300) (hn : I64 n) (hh : has tq n T = true) :
    Calls Try.prog 11 #[.pointer (some ⟨t, 0, none⟩), v, .agg #[.int .i64 2, .int .i64 n]] w fun e w' => StepR w base t T e w' := by
  obtain ⟨a, c, rfl, _⟩ := h.lst.form
  have hA := (IsGr.refl w).alloc (.cells #[.int .i64 2, .int .i64 n] 29)
  obtain ⟨wb, hwb⟩ : ∃ wb, w.alloc (.cells #[.int .i64 2, .int .i64 n] 29) = wb := ⟨_, rfl⟩
  have b0 : wb.cell? ⟨w.heap.size, 0, none⟩ = some (.int .i64 2) := by rw [← hwb]; simp [go_sem]
  have b1 : wb.cell? ⟨w.heap.size, 1, none⟩ = some (.int .i64 n) := by rw [← hwb]; simp [go_sem]
  rw [hwb] at hA
  have CF := fun w' (hg : IsGr wb w') => Find_any base _ T.vals n w' (h.lst.gr (hA.trans hg)) (vals_64 h.st.ints) hn (by rw [vals_len]; omega)
  have lz : w.heap.size < wb.heap.size := by rw [← hwb]; simp
  obtain ⟨m, hm⟩ : ∃ m, T.vals.length = m := ⟨_, rfl⟩
  rw [hm] at CF ⊢
  have hM : Hid (T.vals.length = m) := hm
  clear hm
  go_enter Try.func11, Try.ntmps11
  go_upto_region 1 with fail
  (try rw [hwb])
  clear hwb
  go_wp2_with fail
  refine (CF _ (IsGr.refl _)).mono ?_
  rintro e w1 ⟨i, hi, rfl, e1⟩
  obtain rfl := e1.symm
  clear CF
  obtain ⟨hI, hW⟩ : 0 ≤ i ∧ wo i T.vals 0 = (del tq n T).vals := by
    rcases find_has h.st.rise hi with h1 | h1
    · exact h1.2
    · rw [hh] at h1; cases h1.1
  have HW : Hid (wo i T.vals 0 = (del tq n T).vals) := hW
  clear hi hW
  have CR := fun w' (hg : IsGr w w') => RWithout_any base _ T.vals i w' (h.lst.gr hg) (by rw [vals_len]; omega)
  rw [hM.out] at CR
  have HH : Hid (has tq n T = true) := hh
  have hNB : w.heap.size ∉ t :: T.ids := fun hm => by
    rcases List.mem_cons.1 hm with e | e
    · have := h.st.hd.lt; omega
    · have := h.st.tree.lt _ e; omega
  clear hh
  go_upto_region 9 with fail
  refine wp_region_held_drew (S := (fun w' => w'.cell? ⟨w.heap.size, 1, none⟩ = some (.int .i64 n))) (by kernel_rfl) (by (try dsimp only); exact b1) (fun hHeld => ?_)
  refine wpAnyH_take (i := 0) (oi := { dst := some 57, op := Op.move (Operand.tmp 1), type := 27, pos := "law.go:48", after := #[], guard := none }) (v := ?_) rfl (by kernel_rfl) (by kernel_rfl) (by kernel_rfl) (fun _ _ _ h => h) (Or.inl ⟨by rfl, ?_⟩) (by assumption) ?_
  rotate_left
  · (intro w hSw; (try dsimp only at hSw); go_simp <;> with_reducible rfl)
  (try simp only [Act.put, List.setIfInBounds_toArray, List.set_cons_zero, List.set_cons_succ])
  refine wpAnyH_take (i := 1) (oi := { dst := some 58, op := Op.move (Operand.tmp 8), type := 3, pos := "law.go:48", after := #[], guard := none }) (v := ?_) rfl (by kernel_rfl) (by kernel_rfl) (by kernel_rfl) (fun _ _ _ h => h) (Or.inl ⟨by rfl, ?_⟩) (by assumption) ?_
  rotate_left
  · (intro w hSw; (try dsimp only at hSw); go_simp <;> with_reducible rfl)
  (try simp only [Act.put, List.setIfInBounds_toArray, List.set_cons_zero, List.set_cons_succ])
  refine wpAnyH_take (i := 3) (oi := { dst := some 60, op := Op.move (Operand.tmp 0), type := 23, pos := "law.go:48", after := #[], guard := none }) (v := ?_) rfl (by kernel_rfl) (by kernel_rfl) (by kernel_rfl) (fun _ _ _ h => h) (Or.inl ⟨by rfl, ?_⟩) (by assumption) ?_
  rotate_left
  · (intro w hSw; (try dsimp only at hSw); go_simp <;> with_reducible rfl)
  (try simp only [Act.put, List.setIfInBounds_toArray, List.set_cons_zero, List.set_cons_succ])
  refine wpAnyH_take (i := 4) (oi := { dst := some 61, op := Op.fieldAddr 29 (Operand.tmp 5) 1, type := 0, pos := "law.go:48", after := #[], guard := none }) (v := ?_) rfl (by kernel_rfl) (by kernel_rfl) (by kernel_rfl) (fun _ _ _ h => h) (Or.inl ⟨by rfl, ?_⟩) (by assumption) ?_
  rotate_left
  · (intro w hSw; (try dsimp only at hSw); go_simp <;> with_reducible rfl)
  (try simp only [Act.put, List.setIfInBounds_toArray, List.set_cons_zero, List.set_cons_succ])
  refine wpAnyH_take (i := 5) (oi := { dst := some 62, op := Op.load 3 (Operand.tmp 61), type := 3, pos := "law.go:48", after := #[{ on := 4, ground := Ground.data }], guard := none }) (v := ?_) rfl (by kernel_rfl) (by kernel_rfl) (by kernel_rfl) (fun _ _ _ h => h) (Or.inl ⟨by rfl, ?_⟩) (by assumption) ?_
  rotate_left
  · (intro w hSw; (try dsimp only at hSw); go_simp <;> with_reducible rfl)
  (try simp only [Act.put, List.setIfInBounds_toArray, List.set_cons_zero, List.set_cons_succ])
  refine wpAnyH_ready (rs := [2]) (by kernel_rfl) (by simp) ?_
  refine AllReadyH.cons (o := { dst := some 59, op := Op.call { callee := Callee.value (Operand.func 30), args := #[Operand.tmp 57, Operand.tmp 58], argTypes := #[27, 3] }, type := 27, pos := "law.go:48", after := #[{ on := 0, ground := Ground.data }, { on := 1, ground := Ground.data }], guard := none }) rfl (fun K hK => ?_) AllReadyH.nil
  go_simp
  refine (CR _ hA.drew).mono ?_
  rintro e w2 ⟨v', rfl, hl2, hb2⟩
  have z1 := (hb2.cell (p := ⟨w.heap.size, 1, none⟩) (by simpa using lz)).trans b1
  (try go_wp2_with fail)
  refine hK.out _ _ (by (try dsimp only); assumption) (fun hHeld2 => ?_)
  clear hK K hHeld
  have hHeld := hHeld2
  clear hHeld2
  (try simp only [Act.put, List.setIfInBounds_toArray, List.set_cons_zero, List.set_cons_succ])
  refine wpAnyH_ready (rs := [6]) (by kernel_rfl) (by simp) ?_
  refine AllReadyH.cons (o := { dst := some 63, op := Op.call { callee := Callee.value (Operand.func 27), args := #[Operand.tmp 60, Operand.tmp 62], argTypes := #[23, 3] }, type := 4, pos := "law.go:48", after := #[{ on := 3, ground := Ground.data }, { on := 5, ground := Ground.data }, { on := 2, ground := Ground.chain }], guard := none }) rfl (fun K hK => ?_) AllReadyH.nil
  go_simp
  refine (Del_new tens_ordr n hn _ ((h.st.gr hA.drew).wr (Wr.of_below hb2) (by simp)) HH.out (by omega)).mono ?_
  rintro e w3 ⟨rfl, hs3, hw3⟩
  have z2 := cell_wr z1 hw3 hNB
  (try go_wp2_with fail)
  refine hK.out _ _ (by (try dsimp only); assumption) (fun hHeld2 => ?_)
  clear hK K hHeld
  have hHeld := hHeld2
  clear hHeld2
  (try simp only [Act.put, List.setIfInBounds_toArray, List.set_cons_zero, List.set_cons_succ])
  refine wpAnyH_take (i := 7) (oi := { dst := some 6, op := Op.assign (Operand.tmp 59), type := 27, pos := "law.go:48", after := #[{ on := 2, ground := Ground.data }, { on := 6, ground := Ground.chain }, { on := 0, ground := Ground.phase }, { on := 1, ground := Ground.phase }, { on := 2, ground := Ground.phase }, { on := 3, ground := Ground.textOnly Departure.lateStores }, { on := 4, ground := Ground.textOnly Departure.lateStores }, { on := 5, ground := Ground.textOnly Departure.lateStores }, { on := 6, ground := Ground.textOnly Departure.lateStoresUnsure }], guard := none }) (v := ?_) rfl (by kernel_rfl) (by kernel_rfl) (by kernel_rfl) (fun _ _ _ h => h) (Or.inl ⟨by rfl, ?_⟩) (by assumption) ?_
  rotate_left
  · (intro w hSw; (try dsimp only at hSw); go_simp <;> with_reducible rfl)
  (try simp only [Act.put, List.setIfInBounds_toArray, List.set_cons_zero, List.set_cons_succ])
  refine wpAnyH_take (i := 8) (oi := { dst := some 7, op := Op.assign (Operand.tmp 63), type := 4, pos := "law.go:48", after := #[{ on := 6, ground := Ground.data }, { on := 7, ground := Ground.chain }, { on := 0, ground := Ground.phase }, { on := 1, ground := Ground.phase }, { on := 2, ground := Ground.phase }, { on := 3, ground := Ground.phase }, { on := 4, ground := Ground.phase }, { on := 5, ground := Ground.phase }, { on := 6, ground := Ground.phase }, { on := 7, ground := Ground.phase }], guard := none }) (v := ?_) rfl (by kernel_rfl) (by kernel_rfl) (by kernel_rfl) (fun _ _ _ h => h) (Or.inl ⟨by rfl, ?_⟩) (by assumption) ?_
  rotate_left
  · (intro w hSw; (try dsimp only at hSw); go_simp <;> with_reducible rfl)
  (try simp only [Act.put, List.setIfInBounds_toArray, List.set_cons_zero, List.set_cons_succ])
  refine wpAnyH_done (by kernel_rfl) ?_ _
  go_wp2_with fail
  refine bodyPost_ret (v := .tuple #[v', .bool true]) (by simp [results, Try.results11, go_sem]) rfl ?_
  exact step_del (hM.out ▸ h) hb hA.drew HH.out HW.out hl2 hb2 hs3 hw3
theorem step_any (base t : Nat) (v : Value) (T : AT) (kd n : Int) (w : World) (h : Both w base t v T) (hb : base ≤ w.heap.size) (hl : T.inl.length ≤ 300) (hn : I64 n) :
    Calls Try.prog 11 #[.pointer (some ⟨t, 0, none⟩), v, .agg #[.int .i64 kd, .int .i64 n]] w fun e w' => StepR w base t T e w' := by
  by_cases h1 : kd = 1
  · subst h1
    cases hh : has tq n T with
    | true => exact step_put0 base t v T n w h hb hl hn hh
    | false => exact step_put1 base t v T n w h hb hl hn hh
  · by_cases h2 : kd = 2
    · subst h2
      cases hh : has tq n T with
      | true => exact step_del1 base t v T n w h hb hl hn hh
      | false => exact step_del0 base t v T n w h hb hl hn hh
    · exact step_none base t v T kd n w h hb hl hn h1 h2
end Go.Proofs.Ytaackkfegkmpkaa
