/- Contracts of package merge over the loaded program: Sorted, Find. -/
import Derived.Test.YtblnpabgakmghaaN6
namespace Go.Proofs.Ytblnpabgakmghaa
open Go.RowKit Go.Shelf
attribute [local go_sem] Gr.size Gr.cell? Gr.frozen? Gr.setCell Gr.drew Gr.drewN Gr.of_drew Gr.of_drewN Gr.gr Gr.lt_of1 Gr.le_of1 Gr.lt_of2 Gr.le_of2 Gr.lt_of3 Gr.le_of3 Gr.lt_of4 Gr.le_of4 Gr.lt_of5 Gr.le_of5 Gr.lt_of6 Gr.le_of6 Gr.lt_of7 Gr.le_of7 Gr.lt_of8 Gr.le_of8 Gr.lt_of9 Gr.le_of9 Gr.lt_of10 Gr.le_of10 Gr.lt_of11 Gr.le_of11 Gr.lt_of12 Gr.le_of12 Gr.lt_of13 Gr.le_of13 Gr.lt_of14 Gr.le_of14 Gr.lt_of15 Gr.le_of15 Gr.lt_of16 Gr.le_of16 Gr.lt_of17 Gr.le_of17 Gr.lt_of18 Gr.le_of18 Gr.lt_of19 Gr.le_of19 Gr.lt_of20 Gr.le_of20 Gr.lt_of21 Gr.le_of21 Gr.lt_of22 Gr.le_of22 Gr.lt_of23 Gr.le_of23 Gr.lt_of24 Gr.le_of24
instance (k : Int → Int) (l : List Int) : Decidable (Srt k l) := inferInstanceAs (Decidable (l.Pairwise fun a b => k a ≤ k b))

set_option maxRecDepth 20000 in set_option maxHeartbeats 2000000 in
theorem IsSorted_any {f : Nat} {k : Int → Int} (hO : Ordr f k) (v : Value) (l : List Int) (w : World) (h : Rd w v l) (hn : l.length ≤ 2000) :
    Calls Try.prog 25 #[v, .func (.func f) #[] #[]] w fun e w' => e = .returned (.bool (decide (Srt k l))) ∧ IsGr w w' := by
  obtain ⟨a, c, rfl⟩ := h.form
  obtain ⟨n, hn'⟩ : ∃ n, l.length = n := ⟨_, rfl⟩
  rw [hn'] at h hn ⊢
  have HH : Hid (Rd w (.slice a n c) l ∧ l.length = n) := ⟨h, hn'⟩
  have hE : ∀ args w, (callFunc f args).run Try.prog w = .ok (.enter f args) w := hO.1
  have HO : Hid (Ordr f k) := hO
  obtain ⟨b, hb⟩ : ∃ b, decide (Srt k l) = b := ⟨_, rfl⟩
  have HB : Hid (decide (Srt k l) = b) := hb
  rw [hb]
  clear hb
  have e1 : IntKind.i64.wrap ((n : Int) - 1) = (n : Int) - 1 := by rw [IntKind.wrap_i64]; omega
  clear h hn' hO
  go_enter Try.func25, Try.ntmps25
  go_wp2_with fail
  go_loopg [5] n (fun r p5 wr => p5 = .int .i64 ((r : Int) - 1) ∧ r ≤ n ∧ Hid (IsGr w wr ∧ ∀ i, r ≤ i + 1 → i + 1 < n → k (l.getD i 0) ≤ k (l.getD (i + 1) 0)))
  case atStart => exact ⟨rfl, Nat.le_refl _, IsGr.refl _, fun i h1 h2 => by omega⟩
  case round =>
    obtain ⟨rfl, hr, H⟩ := hrel
    by_cases hg : gk < 2
    · have h1 : ¬ (0 : Int) < (gk : Int) - 1 := by omega
      go_wp2_with fail
      go_ret
      refine ⟨?_, H.out.1⟩
      rw [← HB.out, decide_eq_true (srt_step.2 (by rw [HH.out.2]; exact fun i hi => H.out.2 i (by omega) hi))]
      rfl
    · obtain ⟨q, rfl⟩ : ∃ q, gk = q + 2 := ⟨gk - 2, by omega⟩
      have e0 : ((q + 2 : Nat) : Int) - 1 = ((q + 1 : Nat) : Int) := by omega
      rw [e0]
      obtain ⟨i, hi⟩ : ∃ i, q + 1 = i := ⟨_, rfl⟩
      rw [hi]
      have hiq : (i : Int) - 1 = (q : Int) := by omega
      have e2 : IntKind.i64.wrap ((i : Int) - 1) = (q : Int) := by rw [IntKind.wrap_i64]; omega
      have e3 : IntKind.i64.wrap (q : Int) = (q : Int) := by rw [IntKind.wrap_i64]; omega
      have hi0 : (0 : Int) < (i : Int) := by omega
      obtain ⟨g, o, rfl, -, -, ha64, -, ca⟩ := (HH.out.1.gr H.out.1).at (k := i) (by omega)
      obtain ⟨g2, o2, e9, -, -, hb64, -, cb⟩ := (HH.out.1.gr H.out.1).at (k := q) (by omega)
      cases e9
      have CO := fun w => HO.out.2 (l.getD i 0) (l.getD q 0) w ha64 hb64
      have HI : Hid (q + 1 = i) := hi
      obtain ⟨x, hx⟩ : ∃ x, l.getD i 0 = x := ⟨_, rfl⟩
      obtain ⟨y, hy⟩ : ∃ y, l.getD q 0 = y := ⟨_, rfl⟩
      have HX : Hid (l.getD i 0 = x ∧ l.getD q 0 = y) := ⟨hx, hy⟩
      rw [hx] at ca
      rw [hy] at cb
      rw [hx, hy] at CO
      have hin : (i : Int) < n := by omega
      have hqn : (q : Int) < n := by omega
      clear hx hy ha64 hb64 e0
      by_cases hk : k x < k y
      · go_upto_region 4 with fail
        obtain ⟨C, hin, hcl, hcells, hgr⟩ : ∃ C : World → Prop, (∀ w', IsGr wr w' → C w') ∧ (∀ u u', C u → IsGr u u' → C u') ∧ (∀ w', C w' → (w'.cell? ⟨g, o + i, none⟩ = some (.int .i64 x)) ∧ (w'.cell? ⟨g, o + q, none⟩ = some (.int .i64 y))) ∧ (∀ w', C w' → IsGr wr w') := ⟨fun w' => IsGr wr w', fun _ h => h, fun _ _ h k => h.trans k, fun w' hg => ⟨cellk ca hg, cellk cb hg⟩, fun _ h => h⟩
        refine wp_region_held_drew (S := C) (by kernel_rfl) (by (try dsimp only); exact hin _ (by with_reducible repeat (first | exact IsGr.refl _ | refine IsGr.gr ?_ _ _ | refine IsGr.alloc ?_ _ | refine IsGr.drew ?_ | refine IsGr.drewN ?_ _))) (fun hHeld => ?_)
        refine wpAnyH_take (i := 0) (oi := { dst := some 13, op := Op.move (Operand.tmp 1), type := 25, pos := "sort.go:55", after := #[], guard := none }) (v := ?_) rfl (by kernel_rfl) (by kernel_rfl) (by kernel_rfl) (fun _ _ _ h => h) (Or.inl ⟨by rfl, ?_⟩) (by assumption) ?_
        rotate_left
        · (intro w hSw; (try dsimp only at hSw); (try have hcs := hcells w hSw); (try go_split_ands); go_simp <;> with_reducible rfl)
        (try simp only [Act.put, List.setIfInBounds_toArray, List.set_cons_zero, List.set_cons_succ])
        refine wpAnyH_take (i := 1) (oi := { dst := some 14, op := Op.move (Operand.tmp 0), type := 22, pos := "sort.go:55", after := #[], guard := none }) (v := ?_) rfl (by kernel_rfl) (by kernel_rfl) (by kernel_rfl) (fun _ _ _ h => h) (Or.inl ⟨by rfl, ?_⟩) (by assumption) ?_
        rotate_left
        · (intro w hSw; (try dsimp only at hSw); (try have hcs := hcells w hSw); (try go_split_ands); go_simp <;> with_reducible rfl)
        (try simp only [Act.put, List.setIfInBounds_toArray, List.set_cons_zero, List.set_cons_succ])
        refine wpAnyH_take (i := 2) (oi := { dst := some 15, op := Op.move (Operand.tmp 5), type := 3, pos := "sort.go:55", after := #[], guard := none }) (v := ?_) rfl (by kernel_rfl) (by kernel_rfl) (by kernel_rfl) (fun _ _ _ h => h) (Or.inl ⟨by rfl, ?_⟩) (by assumption) ?_
        rotate_left
        · (intro w hSw; (try dsimp only at hSw); (try have hcs := hcells w hSw); (try go_split_ands); go_simp <;> with_reducible rfl)
        (try simp only [Act.put, List.setIfInBounds_toArray, List.set_cons_zero, List.set_cons_succ])
        refine wpAnyH_take (i := 3) (oi := { dst := some 16, op := Op.indexAddr 22 (Operand.tmp 14) (Operand.tmp 15), type := 0, pos := "sort.go:55", after := #[{ on := 1, ground := Ground.data }, { on := 2, ground := Ground.data }], guard := none }) (v := ?_) rfl (by kernel_rfl) (by kernel_rfl) (by kernel_rfl) (fun _ _ _ h => h) (Or.inl ⟨by rfl, ?_⟩) (by assumption) ?_
        rotate_left
        · (intro w hSw; (try dsimp only at hSw); (try have hcs := hcells w hSw); (try go_split_ands); go_simp <;> with_reducible rfl)
        (try simp only [Act.put, List.setIfInBounds_toArray, List.set_cons_zero, List.set_cons_succ])
        refine wpAnyH_take (i := 4) (oi := { dst := some 17, op := Op.load 3 (Operand.tmp 16), type := 3, pos := "sort.go:55", after := #[{ on := 3, ground := Ground.data }], guard := none }) (v := ?_) rfl (by kernel_rfl) (by kernel_rfl) (by kernel_rfl) (fun _ _ _ h => h) (Or.inl ⟨by rfl, ?_⟩) (by assumption) ?_
        rotate_left
        · (intro w hSw; (try dsimp only at hSw); (try have hcs := hcells w hSw); (try go_split_ands); go_simp <;> with_reducible rfl)
        (try simp only [Act.put, List.setIfInBounds_toArray, List.set_cons_zero, List.set_cons_succ])
        refine wpAnyH_take (i := 5) (oi := { dst := some 18, op := Op.move (Operand.tmp 0), type := 22, pos := "sort.go:55", after := #[], guard := none }) (v := ?_) rfl (by kernel_rfl) (by kernel_rfl) (by kernel_rfl) (fun _ _ _ h => h) (Or.inl ⟨by rfl, ?_⟩) (by assumption) ?_
        rotate_left
        · (intro w hSw; (try dsimp only at hSw); (try have hcs := hcells w hSw); (try go_split_ands); go_simp <;> with_reducible rfl)
        (try simp only [Act.put, List.setIfInBounds_toArray, List.set_cons_zero, List.set_cons_succ])
        refine wpAnyH_take (i := 6) (oi := { dst := some 19, op := Op.move (Operand.tmp 5), type := 3, pos := "sort.go:55", after := #[], guard := none }) (v := ?_) rfl (by kernel_rfl) (by kernel_rfl) (by kernel_rfl) (fun _ _ _ h => h) (Or.inl ⟨by rfl, ?_⟩) (by assumption) ?_
        rotate_left
        · (intro w hSw; (try dsimp only at hSw); (try have hcs := hcells w hSw); (try go_split_ands); go_simp <;> with_reducible rfl)
        (try simp only [Act.put, List.setIfInBounds_toArray, List.set_cons_zero, List.set_cons_succ])
        refine wpAnyH_take (i := 7) (oi := { dst := some 20, op := Op.binOp BinOp.sub 3 (Operand.tmp 19) (Operand.const (Value.int IntKind.i64 1)) 3, type := 3, pos := "sort.go:55", after := #[{ on := 6, ground := Ground.data }], guard := none }) (v := ?_) rfl (by kernel_rfl) (by kernel_rfl) (by kernel_rfl) (fun _ _ _ h => h) (Or.inl ⟨by rfl, ?_⟩) (by assumption) ?_
        rotate_left
        · (intro w hSw; (try dsimp only at hSw); (try have hcs := hcells w hSw); (try go_split_ands); go_simp <;> with_reducible rfl)
        (try simp only [Act.put, List.setIfInBounds_toArray, List.set_cons_zero, List.set_cons_succ])
        refine wpAnyH_take (i := 8) (oi := { dst := some 21, op := Op.indexAddr 22 (Operand.tmp 18) (Operand.tmp 20), type := 0, pos := "sort.go:55", after := #[{ on := 5, ground := Ground.data }, { on := 7, ground := Ground.data }], guard := none }) (v := ?_) rfl (by kernel_rfl) (by kernel_rfl) (by kernel_rfl) (fun _ _ _ h => h) (Or.inl ⟨by rfl, ?_⟩) (by assumption) ?_
        rotate_left
        · (intro w hSw; (try dsimp only at hSw); (try have hcs := hcells w hSw); (try go_split_ands); go_simp <;> with_reducible rfl)
        (try simp only [Act.put, List.setIfInBounds_toArray, List.set_cons_zero, List.set_cons_succ])
        refine wpAnyH_take (i := 9) (oi := { dst := some 22, op := Op.load 3 (Operand.tmp 21), type := 3, pos := "sort.go:55", after := #[{ on := 8, ground := Ground.data }], guard := none }) (v := ?_) rfl (by kernel_rfl) (by kernel_rfl) (by kernel_rfl) (fun _ _ _ h => h) (Or.inl ⟨by rfl, ?_⟩) (by assumption) ?_
        rotate_left
        · (intro w hSw; (try dsimp only at hSw); (try have hcs := hcells w hSw); (try go_split_ands); go_simp <;> with_reducible rfl)
        (try simp only [Act.put, List.setIfInBounds_toArray, List.set_cons_zero, List.set_cons_succ])
        refine wpAnyH_ready (rs := [10]) (by kernel_rfl) (by simp) ?_
        refine AllReadyH.cons (o := { dst := some 23, op := Op.call { callee := Callee.value (Operand.tmp 13), args := #[Operand.tmp 17, Operand.tmp 22], argTypes := #[3, 3] }, type := 3, pos := "sort.go:55", after := #[{ on := 0, ground := Ground.data }, { on := 4, ground := Ground.data }, { on := 9, ground := Ground.data }], guard := none }) rfl (fun K hK => ?_) AllReadyH.nil
        go_simp
        refine (CO _).mono ?_
        rintro e w1 ⟨m, hs, rfl, hg⟩
        have d1 : decide (m < 0) = true := by unfold Sg at hs; exact decide_eq_true (by omega)
        clear hs
        (try go_wp2_with fail)
        refine hK.out _ _ (by (try dsimp only); exact hcl _ _ hHeld (by first | with_reducible assumption | with_reducible exact IsGr.refl _ | with_reducible exact (IsGr.refl _).alloc _ | with_reducible exact ((IsGr.refl _).alloc _).alloc _ | assumption)) (fun hHeld2 => ?_)
        clear hK K hHeld
        have hHeld := hHeld2
        clear hHeld2
        (try simp only [Act.put, List.setIfInBounds_toArray, List.set_cons_zero, List.set_cons_succ])
        refine wpAnyH_take (i := 11) (oi := { dst := some 24, op := Op.binOp BinOp.lss 3 (Operand.tmp 23) (Operand.const (Value.int IntKind.i64 0)) 3, type := 4, pos := "sort.go:55", after := #[{ on := 10, ground := Ground.data }], guard := none }) (v := ?_) rfl (by kernel_rfl) (by kernel_rfl) (by kernel_rfl) (fun _ _ _ h => h) (Or.inl ⟨by rfl, ?_⟩) (by assumption) ?_
        rotate_left
        · (intro w hSw; (try dsimp only at hSw); (try have hcs := hcells w hSw); (try go_split_ands); go_simp <;> with_reducible rfl)
        (try simp only [Act.put, List.setIfInBounds_toArray, List.set_cons_zero, List.set_cons_succ])
        refine wpAnyH_done (by kernel_rfl) ?_ _
        have hg2 := hgr _ hHeld
        clear hHeld hgr hin hcl hcells ca cb CO d1
        go_wp2_with fail
        go_ret
        refine ⟨?_, H.out.1.trans hg2⟩
        rw [← HB.out, decide_eq_false]
        · rfl
        · intro hs
          have := srt_step.1 hs q (by have := HH.out.2; have := HI.out; omega)
          rw [HI.out, HX.out.1, HX.out.2] at this
          omega
      · go_upto_region 4 with fail
        obtain ⟨C, hin, hcl, hcells, hgr⟩ : ∃ C : World → Prop, (∀ w', IsGr wr w' → C w') ∧ (∀ u u', C u → IsGr u u' → C u') ∧ (∀ w', C w' → (w'.cell? ⟨g, o + i, none⟩ = some (.int .i64 x)) ∧ (w'.cell? ⟨g, o + q, none⟩ = some (.int .i64 y))) ∧ (∀ w', C w' → IsGr wr w') := ⟨fun w' => IsGr wr w', fun _ h => h, fun _ _ h k => h.trans k, fun w' hg => ⟨cellk ca hg, cellk cb hg⟩, fun _ h => h⟩
        refine wp_region_held_drew (S := C) (by kernel_rfl) (by (try dsimp only); exact hin _ (by with_reducible repeat (first | exact IsGr.refl _ | refine IsGr.gr ?_ _ _ | refine IsGr.alloc ?_ _ | refine IsGr.drew ?_ | refine IsGr.drewN ?_ _))) (fun hHeld => ?_)
        refine wpAnyH_take (i := 0) (oi := { dst := some 13, op := Op.move (Operand.tmp 1), type := 25, pos := "sort.go:55", after := #[], guard := none }) (v := ?_) rfl (by kernel_rfl) (by kernel_rfl) (by kernel_rfl) (fun _ _ _ h => h) (Or.inl ⟨by rfl, ?_⟩) (by assumption) ?_
        rotate_left
        · (intro w hSw; (try dsimp only at hSw); (try have hcs := hcells w hSw); (try go_split_ands); go_simp <;> with_reducible rfl)
        (try simp only [Act.put, List.setIfInBounds_toArray, List.set_cons_zero, List.set_cons_succ])
        refine wpAnyH_take (i := 1) (oi := { dst := some 14, op := Op.move (Operand.tmp 0), type := 22, pos := "sort.go:55", after := #[], guard := none }) (v := ?_) rfl (by kernel_rfl) (by kernel_rfl) (by kernel_rfl) (fun _ _ _ h => h) (Or.inl ⟨by rfl, ?_⟩) (by assumption) ?_
        rotate_left
        · (intro w hSw; (try dsimp only at hSw); (try have hcs := hcells w hSw); (try go_split_ands); go_simp <;> with_reducible rfl)
        (try simp only [Act.put, List.setIfInBounds_toArray, List.set_cons_zero, List.set_cons_succ])
        refine wpAnyH_take (i := 2) (oi := { dst := some 15, op := Op.move (Operand.tmp 5), type := 3, pos := "sort.go:55", after := #[], guard := none }) (v := ?_) rfl (by kernel_rfl) (by kernel_rfl) (by kernel_rfl) (fun _ _ _ h => h) (Or.inl ⟨by rfl, ?_⟩) (by assumption) ?_
        rotate_left
        · (intro w hSw; (try dsimp only at hSw); (try have hcs := hcells w hSw); (try go_split_ands); go_simp <;> with_reducible rfl)
        (try simp only [Act.put, List.setIfInBounds_toArray, List.set_cons_zero, List.set_cons_succ])
        refine wpAnyH_take (i := 3) (oi := { dst := some 16, op := Op.indexAddr 22 (Operand.tmp 14) (Operand.tmp 15), type := 0, pos := "sort.go:55", after := #[{ on := 1, ground := Ground.data }, { on := 2, ground := Ground.data }], guard := none }) (v := ?_) rfl (by kernel_rfl) (by kernel_rfl) (by kernel_rfl) (fun _ _ _ h => h) (Or.inl ⟨by rfl, ?_⟩) (by assumption) ?_
        rotate_left
        · (intro w hSw; (try dsimp only at hSw); (try have hcs := hcells w hSw); (try go_split_ands); go_simp <;> with_reducible rfl)
        (try simp only [Act.put, List.setIfInBounds_toArray, List.set_cons_zero, List.set_cons_succ])
        refine wpAnyH_take (i := 4) (oi := { dst := some 17, op := Op.load 3 (Operand.tmp 16), type := 3, pos := "sort.go:55", after := #[{ on := 3, ground := Ground.data }], guard := none }) (v := ?_) rfl (by kernel_rfl) (by kernel_rfl) (by kernel_rfl) (fun _ _ _ h => h) (Or.inl ⟨by rfl, ?_⟩) (by assumption) ?_
        rotate_left
        · (intro w hSw; (try dsimp only at hSw); (try have hcs := hcells w hSw); (try go_split_ands); go_simp <;> with_reducible rfl)
        (try simp only [Act.put, List.setIfInBounds_toArray, List.set_cons_zero, List.set_cons_succ])
        refine wpAnyH_take (i := 5) (oi := { dst := some 18, op := Op.move (Operand.tmp 0), type := 22, pos := "sort.go:55", after := #[], guard := none }) (v := ?_) rfl (by kernel_rfl) (by kernel_rfl) (by kernel_rfl) (fun _ _ _ h => h) (Or.inl ⟨by rfl, ?_⟩) (by assumption) ?_
        rotate_left
        · (intro w hSw; (try dsimp only at hSw); (try have hcs := hcells w hSw); (try go_split_ands); go_simp <;> with_reducible rfl)
        (try simp only [Act.put, List.setIfInBounds_toArray, List.set_cons_zero, List.set_cons_succ])
        refine wpAnyH_take (i := 6) (oi := { dst := some 19, op := Op.move (Operand.tmp 5), type := 3, pos := "sort.go:55", after := #[], guard := none }) (v := ?_) rfl (by kernel_rfl) (by kernel_rfl) (by kernel_rfl) (fun _ _ _ h => h) (Or.inl ⟨by rfl, ?_⟩) (by assumption) ?_
        rotate_left
        · (intro w hSw; (try dsimp only at hSw); (try have hcs := hcells w hSw); (try go_split_ands); go_simp <;> with_reducible rfl)
        (try simp only [Act.put, List.setIfInBounds_toArray, List.set_cons_zero, List.set_cons_succ])
        refine wpAnyH_take (i := 7) (oi := { dst := some 20, op := Op.binOp BinOp.sub 3 (Operand.tmp 19) (Operand.const (Value.int IntKind.i64 1)) 3, type := 3, pos := "sort.go:55", after := #[{ on := 6, ground := Ground.data }], guard := none }) (v := ?_) rfl (by kernel_rfl) (by kernel_rfl) (by kernel_rfl) (fun _ _ _ h => h) (Or.inl ⟨by rfl, ?_⟩) (by assumption) ?_
        rotate_left
        · (intro w hSw; (try dsimp only at hSw); (try have hcs := hcells w hSw); (try go_split_ands); go_simp <;> with_reducible rfl)
        (try simp only [Act.put, List.setIfInBounds_toArray, List.set_cons_zero, List.set_cons_succ])
        refine wpAnyH_take (i := 8) (oi := { dst := some 21, op := Op.indexAddr 22 (Operand.tmp 18) (Operand.tmp 20), type := 0, pos := "sort.go:55", after := #[{ on := 5, ground := Ground.data }, { on := 7, ground := Ground.data }], guard := none }) (v := ?_) rfl (by kernel_rfl) (by kernel_rfl) (by kernel_rfl) (fun _ _ _ h => h) (Or.inl ⟨by rfl, ?_⟩) (by assumption) ?_
        rotate_left
        · (intro w hSw; (try dsimp only at hSw); (try have hcs := hcells w hSw); (try go_split_ands); go_simp <;> with_reducible rfl)
        (try simp only [Act.put, List.setIfInBounds_toArray, List.set_cons_zero, List.set_cons_succ])
        refine wpAnyH_take (i := 9) (oi := { dst := some 22, op := Op.load 3 (Operand.tmp 21), type := 3, pos := "sort.go:55", after := #[{ on := 8, ground := Ground.data }], guard := none }) (v := ?_) rfl (by kernel_rfl) (by kernel_rfl) (by kernel_rfl) (fun _ _ _ h => h) (Or.inl ⟨by rfl, ?_⟩) (by assumption) ?_
        rotate_left
        · (intro w hSw; (try dsimp only at hSw); (try have hcs := hcells w hSw); (try go_split_ands); go_simp <;> with_reducible rfl)
        (try simp only [Act.put, List.setIfInBounds_toArray, List.set_cons_zero, List.set_cons_succ])
        refine wpAnyH_ready (rs := [10]) (by kernel_rfl) (by simp) ?_
        refine AllReadyH.cons (o := { dst := some 23, op := Op.call { callee := Callee.value (Operand.tmp 13), args := #[Operand.tmp 17, Operand.tmp 22], argTypes := #[3, 3] }, type := 3, pos := "sort.go:55", after := #[{ on := 0, ground := Ground.data }, { on := 4, ground := Ground.data }, { on := 9, ground := Ground.data }], guard := none }) rfl (fun K hK => ?_) AllReadyH.nil
        go_simp
        refine (CO _).mono ?_
        rintro e w1 ⟨m, hs, rfl, hg⟩
        have d1 : decide (m < 0) = false := by unfold Sg at hs; exact decide_eq_false (by omega)
        clear hs
        (try go_wp2_with fail)
        refine hK.out _ _ (by (try dsimp only); exact hcl _ _ hHeld (by first | with_reducible assumption | with_reducible exact IsGr.refl _ | with_reducible exact (IsGr.refl _).alloc _ | with_reducible exact ((IsGr.refl _).alloc _).alloc _ | assumption)) (fun hHeld2 => ?_)
        clear hK K hHeld
        have hHeld := hHeld2
        clear hHeld2
        (try simp only [Act.put, List.setIfInBounds_toArray, List.set_cons_zero, List.set_cons_succ])
        refine wpAnyH_take (i := 11) (oi := { dst := some 24, op := Op.binOp BinOp.lss 3 (Operand.tmp 23) (Operand.const (Value.int IntKind.i64 0)) 3, type := 4, pos := "sort.go:55", after := #[{ on := 10, ground := Ground.data }], guard := none }) (v := ?_) rfl (by kernel_rfl) (by kernel_rfl) (by kernel_rfl) (fun _ _ _ h => h) (Or.inl ⟨by rfl, ?_⟩) (by assumption) ?_
        rotate_left
        · (intro w hSw; (try dsimp only at hSw); (try have hcs := hcells w hSw); (try go_split_ands); go_simp <;> with_reducible rfl)
        (try simp only [Act.put, List.setIfInBounds_toArray, List.set_cons_zero, List.set_cons_succ])
        refine wpAnyH_done (by kernel_rfl) ?_ _
        have hg2 := hgr _ hHeld
        clear hHeld hgr hin hcl hcells ca cb CO d1
        go_wp2_with fail
        go_roundg (q + 1)
        case measure => omega
        case rel => exact ⟨by first | rfl | (have := HI.out; simp; omega) | (congr 1; have := HI.out; omega), by omega, H.out.1.trans hg2, fun j h1 h2 => by
          by_cases hj : j = q
          · rw [hj, HI.out, HX.out.1, HX.out.2]; omega
          · exact H.out.2 j (by omega) h2⟩
set_option maxRecDepth 20000 in set_option maxHeartbeats 2000000 in
theorem Sorted_any {f : Nat} {k : Int → Int} (hO : Ordr f k) (v : Value) (l : List Int) (w : World) (h : Rd w v l) (hn : l.length ≤ 2000) :
    Calls Try.prog 14 #[v, .func (.func f) #[] #[]] w fun e w' => e = .returned (.bool (decide (Srt k l))) ∧ IsGr w w' := by
  have C := IsSorted_any hO v l w h hn
  obtain ⟨b, hb⟩ : ∃ b, decide (Srt k l) = b := ⟨_, rfl⟩
  rw [hb] at C ⊢
  clear hb
  have CW := fun w => whole_any (f := f) w
  clear h hO
  go_enter Try.func14, Try.ntmps14
  go_wp2_with fail
  refine (CW _).mono ?_
  rintro e w1 ⟨rfl, e2⟩
  obtain rfl := e2.symm
  go_wp2_with fail
  refine C.mono ?_
  rintro e w2 ⟨rfl, hg⟩
  clear C
  go_wp2_with fail
  go_ret
  exact ⟨rfl, hg⟩

/-- Where one is. -/
def FndR (k : Int → Int) (l : List Int) (x : Int) (i : Nat) (b : Bool) : Prop := i = low k (k x) l ∧ b = decide (i < l.length ∧ k (l.getD i 0) = k x)
set_option maxRecDepth 20000 in set_option maxHeartbeats 2000000 in
theorem Search_any {f : Nat} {k : Int → Int} (hO : Ordr f k) (v : Value) (l : List Int) (x : Int) (i : Nat) (b : Bool) (w : World) (h : Rd w v l) (hs : Srt k l) (hx : I64 x) (hn : l.length ≤ 2000) (hF : FndR k l x i b) :
    Calls Try.prog 31 #[v, .int .i64 x, .func (.func f) #[] #[]] w fun e w' => e = .returned (.tuple #[.int .i64 i, .bool b]) ∧ IsGr w w' := by
  obtain ⟨a, c, rfl⟩ := h.form
  obtain ⟨n, hn'⟩ : ∃ n, l.length = n := ⟨_, rfl⟩
  rw [hn'] at h hn ⊢
  have HH : Hid (Rd w (.slice a n c) l ∧ l.length = n ∧ Srt k l ∧ FndR k l x i b) := ⟨h, hn', hs, hF⟩
  have hE : ∀ args w, (callFunc f args).run Try.prog w = .ok (.enter f args) w := hO.1
  have HO : Hid (Ordr f k ∧ I64 x) := ⟨hO, hx⟩
  clear h hn' hO hs hx hF
  go_enter Try.func31, Try.ntmps31
  go_wp2_with fail
  go_loopg [9, 10] n (fun r p9 p10 wr => ∃ lo hi : Nat, p9 = .int .i64 lo ∧ p10 = .int .i64 hi ∧ lo ≤ hi ∧ hi ≤ n ∧ hi - lo ≤ r ∧ Hid (IsGr w wr ∧ (∀ t, t < lo → k (l.getD t 0) < k x) ∧ ∀ t, hi ≤ t → t < n → k x ≤ k (l.getD t 0)))
  case atStart => exact ⟨0, n, rfl, rfl, Nat.zero_le _, Nat.le_refl _, by omega, IsGr.refl _, fun t h => by omega, fun t h1 h2 => by omega⟩
  case round =>
    obtain ⟨lo, hi, rfl, rfl, hlh, hin, hg, H⟩ := hrel
    by_cases hlt : lo < hi
    · obtain ⟨m, hm⟩ : ∃ m, (lo + hi) / 2 = m := ⟨_, rfl⟩
      obtain ⟨g, o, rfl, -, -, ha64, -, ca⟩ := (HH.out.1.gr H.out.1).at (k := m) (by omega)
      have CO := fun w => HO.out.1.2 (l.getD m 0) x w ha64 HO.out.2
      obtain ⟨y, hy⟩ : ∃ y, l.getD m 0 = y := ⟨_, rfl⟩
      have HY : Hid (l.getD m 0 = y ∧ (lo + hi) / 2 = m) := ⟨hy, hm⟩
      rw [hy] at ca CO
      have hlt' : (lo : Int) < hi := by omega
      clear hy
      by_cases hk : k y < k x
      · have HK : Hid (k y < k x) := hk
        go_wp2_with fail
        refine (CO _).mono ?_
        rintro e w1 ⟨z, hs, rfl, hg1⟩
        have d1 : decide (z < 0) = true := by unfold Sg at hs; exact decide_eq_true (by omega)
        clear hs CO hk
        go_wp2_with fail
        go_roundg (hi - (m + 1))
        case measure => have := HY.out; omega
        case rel =>
          refine ⟨m + 1, hi, by congr 1; have := HY.out; omega, rfl, by have := HY.out; omega, hin, Nat.le_refl _, H.out.1.trans hg1, fun t ht => ?_, H.out.2.2⟩
          have h1 := srt_le HH.out.2.2.1 (i := t) (j := m) (by omega) (by have := HH.out.2.1; have := HY.out; omega)
          rw [HY.out.1] at h1
          have := HK.out
          omega
      · have HK : Hid (k x ≤ k y) := Int.not_lt.1 hk
        go_wp2_with fail
        refine (CO _).mono ?_
        rintro e w1 ⟨z, hs, rfl, hg1⟩
        have d1 : decide (z < 0) = false := by unfold Sg at hs; exact decide_eq_false (by omega)
        clear hs CO hk
        go_wp2_with fail
        go_roundg (m - lo)
        case measure => have := HY.out; omega
        case rel =>
          refine ⟨lo, m, rfl, by congr 1; have := HY.out; omega, by have := HY.out; omega, by have := HY.out; omega, Nat.le_refl _, H.out.1.trans hg1, H.out.2.1, fun t h1 h2 => ?_⟩
          have h1 := srt_le HH.out.2.2.1 (i := m) (j := t) h1 (by rw [HH.out.2.1]; exact h2)
          rw [HY.out.1] at h1
          have := HK.out
          omega
    · obtain rfl : hi = lo := by omega
      have hlt' : ¬ (hi : Int) < hi := by omega
      have HL : Hid (hi = i) := by
        have := low_uniq (k := k) (v := k x) (l := l) (i := hi) (by rw [HH.out.2.1]; exact hin) H.out.2.1 (fun h => H.out.2.2 hi (Nat.le_refl _) (by rw [← HH.out.2.1]; exact h))
        exact this.trans HH.out.2.2.2.1.symm
      by_cases hin2 : hi < n
      · obtain ⟨g, o, rfl, -, -, ha64, -, ca⟩ := (HH.out.1.gr H.out.1).at (k := hi) (by omega)
        have CO := fun w => HO.out.1.2 (l.getD hi 0) x w ha64 HO.out.2
        obtain ⟨y, hy⟩ : ∃ y, l.getD hi 0 = y := ⟨_, rfl⟩
        have HY : Hid (l.getD hi 0 = y) := hy
        rw [hy] at ca CO
        have hin' : (hi : Int) < n := by omega
        clear hy hlh hin
        have HB : Hid (b = decide (k y = k x)) := by
          have := HH.out.2.2.2.2
          rw [← HL.out, HY.out, HH.out.2.1] at this
          show _ = _
          rw [this]
          simp [hin2]
        by_cases hk : k y = k x
        · have HB2 : Hid (b = true) := by show _ = _; rw [HB.out]; simp [hk]
          go_wp2_with fail
          refine (CO _).mono ?_
          rintro e w1 ⟨z, hs, rfl, hg1⟩
          have d1 : z = 0 := by unfold Sg at hs; omega
          subst d1
          clear hs CO hk
          go_wp2_with fail
          go_ret2
          exact ⟨by rw [HB2.out, ← HL.out]; rfl, H.out.1.trans hg1⟩
        · have HB2 : Hid (b = false) := by show _ = _; rw [HB.out]; simp [hk]
          go_wp2_with fail
          refine (CO _).mono ?_
          rintro e w1 ⟨z, hs, rfl, hg1⟩
          have d1 : (z == 0) = false := by unfold Sg at hs; simp; omega
          clear hs CO hk
          go_wp2_with fail
          go_ret2
          exact ⟨by rw [HB2.out, ← HL.out]; rfl, H.out.1.trans hg1⟩
      · have hin' : ¬ (hi : Int) < n := by omega
        have HB2 : Hid (b = false) := by
          have := HH.out.2.2.2.2
          rw [← HL.out, HH.out.2.1] at this
          show _ = _
          rw [this]
          simp [hin2]
        go_wp2_with fail
        go_ret2
        exact ⟨by rw [HB2.out, ← HL.out]; rfl, H.out.1⟩
set_option maxRecDepth 20000 in set_option maxHeartbeats 2000000 in
theorem Find_any {f : Nat} {k : Int → Int} (hO : Ordr f k) (v : Value) (l : List Int) (x : Int) (i : Nat) (b : Bool) (w : World) (h : Rd w v l) (hs : Srt k l) (hx : I64 x) (hn : l.length ≤ 2000) (hF : FndR k l x i b) :
    Calls Try.prog 20 #[v, .int .i64 x, .func (.func f) #[] #[]] w fun e w' => e = .returned (.tuple #[.int .i64 i, .bool b]) ∧ IsGr w w' := by
  have C := Search_any hO v l x i b w h hs hx hn hF
  have CW := fun w => whole_any (f := f) w
  clear h hO hs hx hF hn
  go_enter Try.func20, Try.ntmps20
  go_wp2_with fail
  refine (CW _).mono ?_
  rintro e w1 ⟨rfl, e2⟩
  obtain rfl := e2.symm
  go_wp2_with fail
  refine C.mono ?_
  rintro e w2 ⟨rfl, hg⟩
  clear C
  go_wp2_with fail
  go_ret2
  exact ⟨rfl, hg⟩
end Go.Proofs.Ytblnpabgakmghaa
