/- Contracts of package avl over the loaded program: parted, joined. -/
import Derived.Test.YtaackkfegkmpkaaE6
namespace Go.Proofs.Ytaackkfegkmpkaa
open Go.RowKit
attribute [local go_sem] Gr.size Gr.cell? Gr.frozen? Gr.setCell Gr.drew Gr.drewN Gr.of_drew Gr.of_drewN Gr.gr Gr.lt_of1 Gr.le_of1 Gr.lt_of2 Gr.le_of2 Gr.lt_of3 Gr.le_of3 Gr.lt_of4 Gr.le_of4 Gr.lt_of5 Gr.le_of5 Gr.lt_of6 Gr.le_of6 Gr.lt_of7 Gr.le_of7 Gr.lt_of8 Gr.le_of8 Gr.lt_of9 Gr.le_of9 Gr.lt_of10 Gr.le_of10 Gr.lt_of11 Gr.le_of11 Gr.lt_of12 Gr.le_of12 Gr.lt_of13 Gr.le_of13 Gr.lt_of14 Gr.le_of14 Gr.lt_of15 Gr.le_of15 Gr.lt_of16 Gr.le_of16 Gr.lt_of17 Gr.le_of17 Gr.lt_of18 Gr.le_of18 Gr.lt_of19 Gr.le_of19 Gr.lt_of20 Gr.le_of20 Gr.lt_of21 Gr.le_of21 Gr.lt_of22 Gr.le_of22 Gr.lt_of23 Gr.le_of23 Gr.lt_of24 Gr.le_of24
theorem part_ids {b : Nat} {x : Int} {l r : AT} {f : Nat × Int} {T : AT} (h : part b x l r = (f, T)) : f.1 :: T.ids = (AT.nd b x l r).ids := by
  have := part_spec b x l r
  rw [h] at this
  simp only at this
  show f.1 :: T.inl.map (·.1) = (l.inl ++ (b, x) :: r.inl).map (·.1)
  rw [← this]
  rfl

set_option maxRecDepth 20000 in set_option maxHeartbeats 2000000 in
theorem parted_nil (b : Nat) (x d : Int) (r : AT) (w : World) (h : Nd w b x none r.ptr d) :
    Calls Try.prog 49 #[.pointer (some ⟨b, 0, none⟩)] w fun e w' => e = .returned (.tuple #[.pointer (some ⟨b, 0, none⟩), .pointer r.ptr]) ∧ IsGr w w' := by
  have c1 := h.c1
  go_enter Try.func49, Try.ntmps49
  go_upto_region 2 with fail
  obtain ⟨C, hin, hcl, hcells, hgr⟩ : ∃ C : World → Prop, (∀ w', IsGr w w' → C w') ∧ (∀ u u', C u → IsGr u u' → C u') ∧ (∀ w', C w' → (w'.cell? ⟨b, 2, none⟩ = some (.pointer r.ptr))) ∧ (∀ w', C w' → IsGr w w') := ⟨fun w' => IsGr w w', fun _ h => h, fun _ _ h k => h.trans k, fun w' hg => (h.gr hg).c2, fun _ h => h⟩
  refine wp_region_quietV C (by kernel_rfl) (by kernel_rfl) (hin _ (by with_reducible repeat (first | exact IsGr.refl _ | refine IsGr.gr ?_ _ _ | refine IsGr.alloc ?_ _ | refine IsGr.drew ?_ | refine IsGr.drewN ?_ _))) (fun K HK => ?_)
  refine QK.take HK ?_ (by rfl) ?_ ?_
  rotate_left
  · (intro w hw; (try have hcs := hcells w hw); (try go_split_ands); go_simp <;> with_reducible rfl)
  (try simp only [Act.put, List.setIfInBounds_toArray, List.set_cons_zero, List.set_cons_succ])
  refine QK.take HK ?_ (by rfl) ?_ ?_
  rotate_left
  · (intro w hw; (try have hcs := hcells w hw); (try go_split_ands); go_simp <;> with_reducible rfl)
  (try simp only [Act.put, List.setIfInBounds_toArray, List.set_cons_zero, List.set_cons_succ])
  refine QK.take HK ?_ (by rfl) ?_ ?_
  rotate_left
  · (intro w hw; (try have hcs := hcells w hw); (try go_split_ands); go_simp <;> with_reducible rfl)
  (try simp only [Act.put, List.setIfInBounds_toArray, List.set_cons_zero, List.set_cons_succ])
  refine QK.take HK ?_ (by rfl) ?_ ?_
  rotate_left
  · (intro w hw; (try have hcs := hcells w hw); (try go_split_ands); go_simp <;> with_reducible rfl)
  (try simp only [Act.put, List.setIfInBounds_toArray, List.set_cons_zero, List.set_cons_succ])
  refine QK.take HK ?_ (by rfl) ?_ ?_
  rotate_left
  · (intro w hw; (try have hcs := hcells w hw); (try go_split_ands); go_simp <;> with_reducible rfl)
  (try simp only [Act.put, List.setIfInBounds_toArray, List.set_cons_zero, List.set_cons_succ])
  refine QK.take HK ?_ (by rfl) ?_ ?_
  rotate_left
  · (intro w hw; (try have hcs := hcells w hw); (try go_split_ands); go_simp <;> with_reducible rfl)
  (try simp only [Act.put, List.setIfInBounds_toArray, List.set_cons_zero, List.set_cons_succ])
  refine QK.take HK ?_ (by rfl) ?_ ?_
  rotate_left
  · (intro w hw; (try have hcs := hcells w hw); (try go_split_ands); go_simp <;> with_reducible rfl)
  (try simp only [Act.put, List.setIfInBounds_toArray, List.set_cons_zero, List.set_cons_succ])
  refine QK.take HK ?_ (by rfl) ?_ ?_
  rotate_left
  · (intro w hw; (try have hcs := hcells w hw); (try go_split_ands); go_simp <;> with_reducible rfl)
  (try simp only [Act.put, List.setIfInBounds_toArray, List.set_cons_zero, List.set_cons_succ])
  refine QK.nil HK ?_
  clear HK K
  intro wq hq
  have hg := hgr wq hq
  clear hcells hin hcl hgr hq
  go_wp2
  exact bodyPost_ret (v := .tuple #[.pointer (some ⟨b, 0, none⟩), .pointer r.ptr]) (by simp [results, Try.results49, go_sem]) rfl ⟨rfl, hg⟩

set_option maxRecDepth 20000 in set_option maxHeartbeats 2000000 in
theorem parted_any (l : AT) : ∀ (b : Nat) (x d : Int) (r : AT) (w : World), Nd w b x l.ptr r.ptr d → InT w l → InT w r → l.ok → r.ok → l.ht ≤ r.ht + 1 → r.ht ≤ l.ht + 1 → l.ht ≤ 600 → r.ht ≤ 600 → (AT.nd b x l r).ids.Nodup →
    Calls Try.prog 49 #[.pointer (some ⟨b, 0, none⟩)] w fun e w' => ∃ f T, part b x l r = (f, T) ∧ e = .returned (.tuple #[.pointer (some ⟨f.1, 0, none⟩), .pointer T.ptr]) ∧ InT w' T ∧ (∃ p q d', Nd w' f.1 f.2 p q d') ∧ Wr (AT.nd b x l r).ids w w' := by
  induction l with
  | nil =>
    intro b x d r w h hl hr ol or' k1 k2 k3 k4 hnd
    refine (parted_nil b x d r w h).mono ?_
    rintro e w' ⟨rfl, hg⟩
    exact ⟨(b, x), r, rfl, rfl, hr.gr hg, ⟨_, _, _, h.gr hg⟩, Wr.of_gr hg⟩
  | nd c y p q ihp ihq =>
    intro b x d r w h hl hr ol or' k1 k2 k3 k4 hnd
    clear ihq
    obtain ⟨n1, n2, n3, n4, n5⟩ := nodup_nd hnd
    have lok := ol
    obtain ⟨op, oq, j1, j2⟩ := ol
    simp only [AT.ht] at k1 k2 k3
    have CP := fun w' (hg : IsGr w w') => ihp c y _ q w' (hl.1.gr hg) (hl.2.1.gr hg) (hl.2.2.gr hg) op oq j1 j2 (by omega) (by omega) n3
    have c1 : w.cell? ⟨b, 1, none⟩ = some (.pointer (some ⟨c, 0, none⟩)) := h.c1
    have hN := h
    clear ihp h
    go_enter Try.func49, Try.ntmps49
    go_upto_region 3 with fail
    refine wp_region_only (S := (fun w' => w'.cell? ⟨b, 1, none⟩ = some (.pointer (some ⟨c, 0, none⟩)))) (k := 14) (n := 14) (by kernel_rfl) (by kernel_rfl) (by (try dsimp only); exact c1) (fun hHeld => ?_)
    refine wpAnyH_take (i := 0) (oi := { dst := some 17, op := Op.move (Operand.tmp 0), type := 48, pos := "node.go:81", after := #[{ on := 10, ground := Ground.gcOnly Departure.lateStores }], guard := none }) (v := ?_) rfl (by kernel_rfl) (by kernel_rfl) (by kernel_rfl) (fun _ _ _ h => h) (Or.inl ⟨by rfl, ?_⟩) (by assumption) ?_
    rotate_left
    · (intro w hSw; (try dsimp only at hSw); go_simp <;> with_reducible rfl)
    (try simp only [Act.put, List.setIfInBounds_toArray, List.set_cons_zero, List.set_cons_succ])
    refine wpAnyH_take (i := 1) (oi := { dst := some 18, op := Op.move (Operand.tmp 0), type := 48, pos := "node.go:81", after := #[], guard := none }) (v := ?_) rfl (by kernel_rfl) (by kernel_rfl) (by kernel_rfl) (fun _ _ _ h => h) (Or.inl ⟨by rfl, ?_⟩) (by assumption) ?_
    rotate_left
    · (intro w hSw; (try dsimp only at hSw); go_simp <;> with_reducible rfl)
    (try simp only [Act.put, List.setIfInBounds_toArray, List.set_cons_zero, List.set_cons_succ])
    refine wpAnyH_take (i := 2) (oi := { dst := some 19, op := Op.nilCheck (Operand.tmp 18), type := 0, pos := "node.go:81", after := #[{ on := 1, ground := Ground.data }], guard := none }) (v := ?_) rfl (by kernel_rfl) (by kernel_rfl) (by kernel_rfl) (fun _ _ _ h => h) (Or.inl ⟨by rfl, ?_⟩) (by assumption) ?_
    rotate_left
    · (intro w hSw; (try dsimp only at hSw); go_simp <;> with_reducible rfl)
    (try simp only [Act.put, List.setIfInBounds_toArray, List.set_cons_zero, List.set_cons_succ])
    refine wpAnyH_take (i := 3) (oi := { dst := some 20, op := Op.fieldAddr 54 (Operand.tmp 19) 1, type := 0, pos := "node.go:81", after := #[{ on := 2, ground := Ground.data }], guard := none }) (v := ?_) rfl (by kernel_rfl) (by kernel_rfl) (by kernel_rfl) (fun _ _ _ h => h) (Or.inl ⟨by rfl, ?_⟩) (by assumption) ?_
    rotate_left
    · (intro w hSw; (try dsimp only at hSw); go_simp <;> with_reducible rfl)
    (try simp only [Act.put, List.setIfInBounds_toArray, List.set_cons_zero, List.set_cons_succ])
    refine wpAnyH_take (i := 4) (oi := { dst := some 21, op := Op.indexAddr 52 (Operand.tmp 20) (Operand.const (Value.int IntKind.i64 0)), type := 0, pos := "node.go:81", after := #[{ on := 3, ground := Ground.data }], guard := none }) (v := ?_) rfl (by kernel_rfl) (by kernel_rfl) (by kernel_rfl) (fun _ _ _ h => h) (Or.inl ⟨by rfl, ?_⟩) (by assumption) ?_
    rotate_left
    · (intro w hSw; (try dsimp only at hSw); go_simp <;> with_reducible rfl)
    (try simp only [Act.put, List.setIfInBounds_toArray, List.set_cons_zero, List.set_cons_succ])
    refine wpAnyH_take (i := 5) (oi := { dst := some 22, op := Op.load 48 (Operand.tmp 21), type := 48, pos := "node.go:81", after := #[{ on := 4, ground := Ground.data }], guard := none }) (v := ?_) rfl (by kernel_rfl) (by kernel_rfl) (by kernel_rfl) (fun _ _ _ h => h) (Or.inl ⟨by rfl, ?_⟩) (by assumption) ?_
    rotate_left
    · (intro w hSw; (try dsimp only at hSw); go_simp <;> with_reducible rfl)
    (try simp only [Act.put, List.setIfInBounds_toArray, List.set_cons_zero, List.set_cons_succ])
    refine wpAnyH_take (i := 11) (oi := { dst := some 26, op := Op.nilCheck (Operand.tmp 17), type := 0, pos := "node.go:81", after := #[{ on := 0, ground := Ground.data }], guard := none }) (v := ?_) rfl (by kernel_rfl) (by kernel_rfl) (by kernel_rfl) (fun _ _ _ h => h) (Or.inl ⟨by rfl, ?_⟩) (by assumption) ?_
    rotate_left
    · (intro w hSw; (try dsimp only at hSw); go_simp <;> with_reducible rfl)
    (try simp only [Act.put, List.setIfInBounds_toArray, List.set_cons_zero, List.set_cons_succ])
    refine wpAnyH_take (i := 12) (oi := { dst := some 27, op := Op.fieldAddr 54 (Operand.tmp 26) 1, type := 0, pos := "node.go:81", after := #[{ on := 11, ground := Ground.data }], guard := none }) (v := ?_) rfl (by kernel_rfl) (by kernel_rfl) (by kernel_rfl) (fun _ _ _ h => h) (Or.inl ⟨by rfl, ?_⟩) (by assumption) ?_
    rotate_left
    · (intro w hSw; (try dsimp only at hSw); go_simp <;> with_reducible rfl)
    (try simp only [Act.put, List.setIfInBounds_toArray, List.set_cons_zero, List.set_cons_succ])
    refine wpAnyH_ready (rs := [6]) (by kernel_rfl) (by simp) ?_
    refine AllReadyH.cons (o := { dst := some 23, op := Op.call { callee := Callee.value (Operand.func 49), args := #[Operand.tmp 22], argTypes := #[48] }, type := 61, pos := "node.go:81", after := #[{ on := 5, ground := Ground.data }], guard := none }) rfl (fun K hK => ?_) AllReadyH.nil
    go_simp
    refine (CP _ (by with_reducible repeat (first | exact IsGr.refl _ | refine IsGr.gr ?_ _ _ | refine IsGr.alloc ?_ _ | refine IsGr.drew ?_ | refine IsGr.drewN ?_ _))).mono ?_
    rintro e w4 ⟨⟨fb, fx⟩, T, hpt, rfl, hT, ⟨p1, p2, d1, hf⟩, hw4⟩
    have n4' := (hN.dr).wr hw4 n1
    have hr4 := (hr.dr).wr hw4 (fun a ha hm => n5 a hm ha)
    have s1 : w4.cell? ⟨b, 1, none⟩ = some (.pointer (some ⟨c, 0, none⟩)) := n4'.c1
    have f1 := n4'.fz 1
    (try go_wp2_with fail)
    refine hK.out _ _ (by (try dsimp only); assumption) (fun hHeld2 => ?_)
    clear hK K hHeld
    have hHeld := hHeld2
    clear hHeld2
    (try simp only [Act.put, List.setIfInBounds_toArray, List.set_cons_zero, List.set_cons_succ])
    refine wpAnyH_take (i := 7) (oi := { dst := some 16, op := Op.move (Operand.tmp 23), type := 61, pos := "node.go:81", after := #[{ on := 6, ground := Ground.data }], guard := none }) (v := ?_) rfl (by kernel_rfl) (by kernel_rfl) (by kernel_rfl) (fun _ _ _ h => h) (Or.inl ⟨by rfl, ?_⟩) (by assumption) ?_
    rotate_left
    · (intro w hSw; (try dsimp only at hSw); go_simp <;> with_reducible rfl)
    (try simp only [Act.put, List.setIfInBounds_toArray, List.set_cons_zero, List.set_cons_succ])
    refine wpAnyH_take (i := 8) (oi := { dst := some 24, op := Op.extract (Operand.tmp 16) 0, type := 48, pos := "node.go:81", after := #[{ on := 7, ground := Ground.data }], guard := none }) (v := ?_) rfl (by kernel_rfl) (by kernel_rfl) (by kernel_rfl) (fun _ _ _ h => h) (Or.inl ⟨by rfl, ?_⟩) (by assumption) ?_
    rotate_left
    · (intro w hSw; (try dsimp only at hSw); go_simp <;> with_reducible rfl)
    (try simp only [Act.put, List.setIfInBounds_toArray, List.set_cons_zero, List.set_cons_succ])
    refine wpAnyH_take (i := 9) (oi := { dst := some 25, op := Op.extract (Operand.tmp 16) 1, type := 48, pos := "node.go:81", after := #[{ on := 7, ground := Ground.data }, { on := 10, ground := Ground.gcOnly Departure.lateStores }], guard := none }) (v := ?_) rfl (by kernel_rfl) (by kernel_rfl) (by kernel_rfl) (fun _ _ _ h => h) (Or.inl ⟨by rfl, ?_⟩) (by assumption) ?_
    rotate_left
    · (intro w hSw; (try dsimp only at hSw); go_simp <;> with_reducible rfl)
    (try simp only [Act.put, List.setIfInBounds_toArray, List.set_cons_zero, List.set_cons_succ])
    refine wpAnyH_take (i := 10) (oi := { dst := some 2, op := Op.assign (Operand.tmp 24), type := 48, pos := "node.go:81", after := #[{ on := 8, ground := Ground.data }, { on := 6, ground := Ground.chain }, { on := 0, ground := Ground.textOnly Departure.lateStores }, { on := 1, ground := Ground.phase }, { on := 2, ground := Ground.phase }, { on := 3, ground := Ground.phase }, { on := 4, ground := Ground.phase }, { on := 5, ground := Ground.phase }, { on := 6, ground := Ground.phase }, { on := 7, ground := Ground.phase }, { on := 8, ground := Ground.phase }, { on := 9, ground := Ground.textOnly Departure.lateStores }], guard := none }) (v := ?_) rfl (by kernel_rfl) (by kernel_rfl) (by kernel_rfl) (fun _ _ _ h => h) (Or.inl ⟨by rfl, ?_⟩) (by assumption) ?_
    rotate_left
    · (intro w hSw; (try dsimp only at hSw); go_simp <;> with_reducible rfl)
    (try simp only [Act.put, List.setIfInBounds_toArray, List.set_cons_zero, List.set_cons_succ])
    refine wpAnyH_take (i := 13) (oi := { dst := some 28, op := Op.indexAddr 52 (Operand.tmp 27) (Operand.const (Value.int IntKind.i64 0)), type := 0, pos := "node.go:81", after := #[{ on := 12, ground := Ground.data }, { on := 0, ground := Ground.phase }, { on := 1, ground := Ground.phase }, { on := 2, ground := Ground.phase }, { on := 3, ground := Ground.phase }, { on := 4, ground := Ground.phase }, { on := 5, ground := Ground.phase }, { on := 6, ground := Ground.phase }, { on := 7, ground := Ground.phase }, { on := 8, ground := Ground.phase }, { on := 9, ground := Ground.phase }, { on := 10, ground := Ground.phase }], guard := none }) (v := ?_) rfl (by kernel_rfl) (by kernel_rfl) (by kernel_rfl) (fun _ _ _ h => h) (Or.inl ⟨by rfl, ?_⟩) (by assumption) ?_
    rotate_left
    · (intro w hSw; (try dsimp only at hSw); go_simp <;> with_reducible rfl)
    (try simp only [Act.put, List.setIfInBounds_toArray, List.set_cons_zero, List.set_cons_succ])
    refine wpAnyH_done (by kernel_rfl) ?_ _
    refine butLast_step (o := { dst := none, op := Op.store 48 (Operand.tmp 28) (Operand.tmp 25), type := 0, pos := "node.go:81", after := #[{ on := 13, ground := Ground.data }, { on := 9, ground := Ground.data }, { on := 10, ground := Ground.chain }, { on := 0, ground := Ground.phase }, { on := 1, ground := Ground.phase }, { on := 2, ground := Ground.phase }, { on := 3, ground := Ground.phase }, { on := 4, ground := Ground.phase }, { on := 5, ground := Ground.phase }, { on := 6, ground := Ground.phase }, { on := 7, ground := Ground.phase }, { on := 8, ground := Ground.phase }, { on := 9, ground := Ground.phase }, { on := 10, ground := Ground.phase }], guard := none }) rfl (fun K hK => ?_)
    go_simp
    refine hK.out _ _ ?_
    clear hK K
    (try simp only [Act.put, List.setIfInBounds_toArray, List.set_cons_zero, List.set_cons_succ])
    
    obtain ⟨w5, hw5⟩ : ∃ w5, w5 = w4.setCell ⟨b, 1, none⟩ (.pointer T.ptr) := ⟨_, rfl⟩
    rw [← hw5]
    have hids := part_ids hpt
    have hnd3 := n3
    rw [← hids] at hnd3 n1 n5
    rw [List.nodup_cons] at hnd3
    simp only [List.mem_cons, not_or] at n1 n5
    have hp5 := part_ok c y p q op oq j1 j2
    rw [hpt] at hp5
    simp only at hp5
    have n5' : Nd w5 b x T.ptr r.ptr d := hw5 ▸ n4'.set1 _
    have T5 : InT w5 T := hw5 ▸ hT.set _ _ _ n1.2
    have r5 : InT w5 r := hw5 ▸ hr4.set _ _ _ n2
    have f5 : Nd w5 fb fx p1 p2 d1 := hw5 ▸ hf.other _ _ (Ne.symm n1.1)
    have W5 : Wr (AT.nd b x (.nd c y p q) r).ids w w5 := hw5 ▸ (((Wr.refl _ w).drew).trans hw4 (fun a ha _ => by rw [mem_nd]; exact Or.inr (Or.inl ha))).set _ _ _ (Or.inl (by rw [mem_nd]; exact Or.inl rfl))
    have hndT : (AT.nd b x T r).ids.Nodup := by
      rw [ids_nd, List.nodup_append]
      refine ⟨hnd3.2, List.nodup_cons.2 ⟨n2, n4⟩, fun a ha z hz e => ?_⟩
      subst e
      rcases List.mem_cons.1 hz with rfl | hz
      · exact n1.2 ha
      · exact n5 a (Or.inr ha) hz
    clear hw5 n4' hr4 hT hf hw4 f1 s1 CP hHeld c1 hN
    go_wp2_with fail
    refine (balanced_any b x d T r _ n5' T5 r5 (by omega) (by omega) hndT).mono ?_
    rintro e w6 ⟨rfl, h6, hw6⟩
    go_wp2_with fail
    refine bodyPost_ret (v := .tuple #[.pointer (some ⟨fb, 0, none⟩), .pointer (bal b x T r).ptr]) (by simp [results, Try.results49, go_sem]) rfl ⟨(fb, fx), bal b x T r, ?_, rfl, h6, ⟨_, _, _, f5.wr hw6 ?_⟩, W5.trans hw6 ?_⟩
    · simp only [part, hpt]
    · rw [mem_nd]
      rintro (h | h | h)
      · exact n1.1 h.symm
      · exact hnd3.1 h
      · exact n5 fb (Or.inl rfl) h
    · intro a ha _
      rw [mem_nd] at ha ⊢
      rcases ha with h | h | h
      · exact Or.inl h
      · exact Or.inr (Or.inl (hids ▸ List.mem_cons.2 (Or.inr h)))
      · exact Or.inr (Or.inr h)
set_option maxRecDepth 20000 in set_option maxHeartbeats 2000000 in
theorem joined_nil (b : Nat) (v d : Int) (l : AT) (w : World) (h : Nd w b v l.ptr none d) :
    Calls Try.prog 47 #[.pointer (some ⟨b, 0, none⟩)] w fun e w' => e = .returned (.pointer l.ptr) ∧ w' = w := by
  have c1 := h.c1
  have c2 := h.c2
  go_enter Try.func47, Try.ntmps47
  go_wp2_with fail
  go_ret
  exact ⟨rfl, rfl⟩
set_option maxRecDepth 20000 in set_option maxHeartbeats 2000000 in
theorem joined_any (b : Nat) (v d : Int) (l r : AT) (w : World) (h : Nd w b v l.ptr r.ptr d) (hl : InT w l) (hr : InT w r) (or' : r.ok) (k1 : l.ht ≤ r.ht + 1) (k2 : r.ht ≤ l.ht + 1) (k3 : l.ht ≤ 600) (k4 : r.ht ≤ 600) (hnd : (AT.nd b v l r).ids.Nodup) :
    Calls Try.prog 47 #[.pointer (some ⟨b, 0, none⟩)] w fun e w' => e = .returned (.pointer (join l r).ptr) ∧ InT w' (join l r) ∧ Wr (AT.nd b v l r).ids w w' := by
  cases r with
  | nil =>
    refine (joined_nil b v d l w h).mono ?_
    rintro e w' ⟨rfl, rfl⟩
    exact ⟨rfl, hl, Wr.refl _ _⟩
  | nd c y p q =>
    obtain ⟨n1, n2, n3, n4, n5⟩ := nodup_nd hnd
    obtain ⟨op, oq, j1, j2⟩ := or'
    simp only [AT.ht] at k1 k2 k4
    have CP := parted_any p c y _ q w hr.1 hr.2.1 hr.2.2 op oq j1 j2 (by omega) (by omega) n4
    have c1 : w.cell? ⟨b, 1, none⟩ = some (.pointer l.ptr) := h.c1
    have c2 : w.cell? ⟨b, 2, none⟩ = some (.pointer (some ⟨c, 0, none⟩)) := h.c2
    have hN := h
    clear h
    go_enter Try.func47, Try.ntmps47
    go_wp2_with fail
    refine CP.mono ?_
    rintro e w4 ⟨⟨fb, fx⟩, T, hpt, rfl, hT, ⟨p1, p2, d1, hf⟩, hw4⟩
    have c4 := (hN.wr hw4 n2).c1
    have f1 := hf.fz 1
    have f2 := hf.fz 2
    have g1 := hf.c1
    have g2 := hf.c2
    have l4 := hl.wr hw4 n5
    have hids := part_ids hpt
    have hnd4 := n4
    rw [← hids] at hnd4 n5 n2
    rw [List.nodup_cons] at hnd4
    simp only [List.mem_cons, not_or] at n5 n2
    have nfl : fb ∉ l.ids := fun h => (n5 fb h).1 rfl
    have hp5 := part_ok c y p q op oq j1 j2
    rw [hpt] at hp5
    simp only at hp5
    go_wp2_with fail
    obtain ⟨w5, hw5⟩ : ∃ w5, w5 = (w4.setCell ⟨fb, 1, none⟩ (.pointer l.ptr)).setCell ⟨fb, 2, none⟩ (.pointer T.ptr) := ⟨_, rfl⟩
    rw [← hw5]
    have f5 : Nd w5 fb fx l.ptr T.ptr d1 := hw5 ▸ (hf.set1 _).set2 _
    have l5 : InT w5 l := hw5 ▸ (l4.set _ _ _ nfl).set _ _ _ nfl
    have T5 : InT w5 T := hw5 ▸ (hT.set _ _ _ hnd4.1).set _ _ _ hnd4.1
    have mf : fb ∈ (AT.nd c y p q).ids := hids ▸ List.mem_cons_self
    have W5 : Wr (AT.nd b v l (.nd c y p q)).ids w w5 := hw5 ▸ ((Wr.mono hw4 (fun a ha => by rw [mem_nd]; exact Or.inr (Or.inr ha))).set _ _ _ (Or.inl (by rw [mem_nd]; exact Or.inr (Or.inr mf)))).set _ _ _ (Or.inl (by rw [mem_nd]; exact Or.inr (Or.inr mf)))
    have hndT : (AT.nd fb fx l T).ids.Nodup := by
      rw [ids_nd, List.nodup_append]
      refine ⟨n3, List.nodup_cons.2 hnd4, fun a ha z hz e => ?_⟩
      subst e
      rcases List.mem_cons.1 hz with rfl | hz
      · exact nfl ha
      · exact (n5 a ha).2 hz
    clear hw5 c1 c2 c4 f1 f2 g1 g2 l4 hf hT hw4 hN CP
    refine (balanced_any fb fx d1 l T _ f5 l5 T5 (by omega) (by omega) hndT).mono ?_
    rintro e w6 ⟨rfl, h6, hw6⟩
    go_wp2_with fail
    go_ret
    have ej : join l (.nd c y p q) = bal fb fx l T := by simp only [join, hpt]
    rw [ej]
    refine ⟨rfl, h6, W5.trans hw6 ?_⟩
    intro a ha _
    rw [mem_nd] at ha ⊢
    rcases ha with rfl | h | h
    · exact Or.inr (Or.inr mf)
    · exact Or.inr (Or.inl h)
    · exact Or.inr (Or.inr (hids ▸ List.mem_cons.2 (Or.inr h)))
end Go.Proofs.Ytaackkfegkmpkaa
