/- Contracts of package avl over the loaded program: raised. -/
import Derived.Test.YtaackkfegkmpkaaE3
import Derived.Test.YtaackkfegkmpkaaH1b
import Derived.Deep.CutRange
namespace Go.Proofs.Ytaackkfegkmpkaa
open Go.RowKit
attribute [local go_sem] Gr.size Gr.cell? Gr.frozen? Gr.setCell Gr.drew Gr.drewN Gr.of_drew Gr.of_drewN Gr.gr Gr.lt_of1 Gr.le_of1 Gr.lt_of2 Gr.le_of2 Gr.lt_of3 Gr.le_of3 Gr.lt_of4 Gr.le_of4 Gr.lt_of5 Gr.le_of5 Gr.lt_of6 Gr.le_of6 Gr.lt_of7 Gr.le_of7 Gr.lt_of8 Gr.le_of8 Gr.lt_of9 Gr.le_of9 Gr.lt_of10 Gr.le_of10 Gr.lt_of11 Gr.le_of11 Gr.lt_of12 Gr.le_of12 Gr.lt_of13 Gr.le_of13 Gr.lt_of14 Gr.le_of14 Gr.lt_of15 Gr.le_of15 Gr.lt_of16 Gr.le_of16 Gr.lt_of17 Gr.le_of17 Gr.lt_of18 Gr.le_of18 Gr.lt_of19 Gr.le_of19 Gr.lt_of20 Gr.le_of20 Gr.lt_of21 Gr.le_of21 Gr.lt_of22 Gr.le_of22 Gr.lt_of23 Gr.le_of23 Gr.lt_of24 Gr.le_of24
theorem Nd.dr {w : World} {b : Nat} {v : Int} {l r : Option Addr} {d : Int} (h : Nd w b v l r d) : Nd w.drew b v l r d := h.gr (IsGr.refl _).drew
theorem InT.dr {w : World} {t : AT} (h : InT w t) : InT w.drew t := h.gr (IsGr.refl _).drew
/-- m is the number n. -/
def Dp (m : Int) (n : Nat) : Prop := m = (n : Int)
theorem measured_d (b : Nat) (v d : Int) (l r : AT) (w : World) (h : Nd w b v l.ptr r.ptr d) (hl : InT w l) (hr : InT w r) (kl : l.ht ≤ 1000) (kr : r.ht ≤ 1000) :
    Calls Try.prog 43 #[.pointer (some ⟨b, 0, none⟩)] w fun e w' => ∃ m, Dp m (AT.nd b v l r).ht ∧ e = .returned (.int .i64 m) ∧ IsGr w w' :=
  (measured_any b v d l r w h hl hr kl kr).mono fun _ _ ⟨h1, h2⟩ => ⟨_, rfl, h1, h2⟩
theorem Nd.dp {w : World} {b : Nat} {v m : Int} {l r : Option Addr} {n : Nat} (hm : Dp m n) (h : Nd w b v l r m) : Nd w b v l r (n : Int) := by
  unfold Dp at hm; subst hm; exact h
theorem notin_nd {a b : Nat} {v : Int} {l r : AT} (h1 : a ≠ b) (h2 : a ∉ l.ids) (h3 : a ∉ r.ids) : a ∉ (AT.nd b v l r).ids := by
  rw [ids_nd]; simp [h1, h2, h3]

set_option maxRecDepth 20000 in set_option maxHeartbeats 2000000 in
theorem raised0_any (b c : Nat) (v x d e : Int) (p q r : AT) (w : World) (h : Nd w b v (some ⟨c, 0, none⟩) r.ptr d) (k : Nd w c x p.ptr q.ptr e) (hp : InT w p) (hq : InT w q) (hr : InT w r) (kp : p.ht ≤ 900) (kq : q.ht ≤ 900) (kr : r.ht ≤ 900)
    (hbc : b ≠ c) (nb : b ∉ p.ids ∧ b ∉ q.ids ∧ b ∉ r.ids) (nc : c ∉ p.ids ∧ c ∉ q.ids ∧ c ∉ r.ids) :
    Calls Try.prog 48 #[.pointer (some ⟨b, 0, none⟩), .int .i64 0] w fun e w' => e = .returned (.pointer (some ⟨c, 0, none⟩)) ∧ InT w' (.nd c x p (.nd b v q r)) ∧ Wr [b, c] w w' := by
  have hcb : c ≠ b := fun e => hbc e.symm
  have b0 := h.c1
  go_enter Try.func48, Try.ntmps48
  go_upto_region 2 with fail
  obtain ⟨C, hin, hcl, hcells, hgr⟩ : ∃ C : World → Prop, (∀ w', IsGr w w' → C w') ∧ (∀ u u', C u → IsGr u u' → C u') ∧ (∀ w', C w' → (w'.cell? ⟨c, 2, none⟩ = some (.pointer q.ptr)) ∧ (w'.frozen? ⟨b, 1, none⟩ = false) ∧ (w'.cell? ⟨b, 1, none⟩ = some (.pointer (some ⟨c, 0, none⟩)))) ∧ (∀ w', C w' → IsGr w w') := ⟨fun w' => IsGr w w', fun _ h => h, fun _ _ h k => h.trans k, fun w' hg => ⟨(k.gr hg).c2, (h.gr hg).fz 1, (h.gr hg).c1⟩, fun _ h => h⟩
  refine wp_region_only (S := C) (k := 12) (n := 12) (by kernel_rfl) (by kernel_rfl) (by (try dsimp only); exact hin _ (by with_reducible repeat (first | exact IsGr.refl _ | refine IsGr.gr ?_ _ _ | refine IsGr.alloc ?_ _ | refine IsGr.drew ?_ | refine IsGr.drewN ?_ _))) (fun hHeld => ?_)
  refine wpAnyH_take (i := 0) (oi := { dst := some 12, op := Op.move (Operand.tmp 0), type := 48, pos := "node.go:59", after := #[], guard := none }) (v := ?_) rfl (by kernel_rfl) (by kernel_rfl) (by kernel_rfl) (fun _ _ _ h => h) (Or.inl ⟨by rfl, ?_⟩) (by assumption) ?_
  rotate_left
  · (intro w hSw; (try dsimp only at hSw); (try have hcs := hcells w hSw); (try go_split_ands); go_simp <;> with_reducible rfl)
  (try simp only [Act.put, List.setIfInBounds_toArray, List.set_cons_zero, List.set_cons_succ])
  refine wpAnyH_take (i := 1) (oi := { dst := some 13, op := Op.move (Operand.tmp 1), type := 3, pos := "node.go:59", after := #[], guard := none }) (v := ?_) rfl (by kernel_rfl) (by kernel_rfl) (by kernel_rfl) (fun _ _ _ h => h) (Or.inl ⟨by rfl, ?_⟩) (by assumption) ?_
  rotate_left
  · (intro w hSw; (try dsimp only at hSw); (try have hcs := hcells w hSw); (try go_split_ands); go_simp <;> with_reducible rfl)
  (try simp only [Act.put, List.setIfInBounds_toArray, List.set_cons_zero, List.set_cons_succ])
  refine wpAnyH_take (i := 2) (oi := { dst := some 14, op := Op.move (Operand.tmp 5), type := 48, pos := "node.go:59", after := #[], guard := none }) (v := ?_) rfl (by kernel_rfl) (by kernel_rfl) (by kernel_rfl) (fun _ _ _ h => h) (Or.inl ⟨by rfl, ?_⟩) (by assumption) ?_
  rotate_left
  · (intro w hSw; (try dsimp only at hSw); (try have hcs := hcells w hSw); (try go_split_ands); go_simp <;> with_reducible rfl)
  (try simp only [Act.put, List.setIfInBounds_toArray, List.set_cons_zero, List.set_cons_succ])
  refine wpAnyH_take (i := 3) (oi := { dst := some 15, op := Op.move (Operand.tmp 1), type := 3, pos := "node.go:59", after := #[], guard := none }) (v := ?_) rfl (by kernel_rfl) (by kernel_rfl) (by kernel_rfl) (fun _ _ _ h => h) (Or.inl ⟨by rfl, ?_⟩) (by assumption) ?_
  rotate_left
  · (intro w hSw; (try dsimp only at hSw); (try have hcs := hcells w hSw); (try go_split_ands); go_simp <;> with_reducible rfl)
  (try simp only [Act.put, List.setIfInBounds_toArray, List.set_cons_zero, List.set_cons_succ])
  refine wpAnyH_take (i := 5) (oi := { dst := some 17, op := Op.nilCheck (Operand.tmp 14), type := 0, pos := "node.go:59", after := #[{ on := 2, ground := Ground.data }], guard := none }) (v := ?_) rfl (by kernel_rfl) (by kernel_rfl) (by kernel_rfl) (fun _ _ _ h => h) (Or.inl ⟨by rfl, ?_⟩) (by assumption) ?_
  rotate_left
  · (intro w hSw; (try dsimp only at hSw); (try have hcs := hcells w hSw); (try go_split_ands); go_simp <;> with_reducible rfl)
  (try simp only [Act.put, List.setIfInBounds_toArray, List.set_cons_zero, List.set_cons_succ])
  refine wpAnyH_take (i := 6) (oi := { dst := some 18, op := Op.fieldAddr 54 (Operand.tmp 17) 1, type := 0, pos := "node.go:59", after := #[{ on := 5, ground := Ground.data }], guard := none }) (v := ?_) rfl (by kernel_rfl) (by kernel_rfl) (by kernel_rfl) (fun _ _ _ h => h) (Or.inl ⟨by rfl, ?_⟩) (by assumption) ?_
  rotate_left
  · (intro w hSw; (try dsimp only at hSw); (try have hcs := hcells w hSw); (try go_split_ands); go_simp <;> with_reducible rfl)
  (try simp only [Act.put, List.setIfInBounds_toArray, List.set_cons_zero, List.set_cons_succ])
  refine wpAnyH_take (i := 9) (oi := { dst := some 21, op := Op.nilCheck (Operand.tmp 12), type := 0, pos := "node.go:59", after := #[{ on := 0, ground := Ground.data }], guard := none }) (v := ?_) rfl (by kernel_rfl) (by kernel_rfl) (by kernel_rfl) (fun _ _ _ h => h) (Or.inl ⟨by rfl, ?_⟩) (by assumption) ?_
  rotate_left
  · (intro w hSw; (try dsimp only at hSw); (try have hcs := hcells w hSw); (try go_split_ands); go_simp <;> with_reducible rfl)
  (try simp only [Act.put, List.setIfInBounds_toArray, List.set_cons_zero, List.set_cons_succ])
  refine wpAnyH_take (i := 10) (oi := { dst := some 22, op := Op.fieldAddr 54 (Operand.tmp 21) 1, type := 0, pos := "node.go:59", after := #[{ on := 9, ground := Ground.data }], guard := none }) (v := ?_) rfl (by kernel_rfl) (by kernel_rfl) (by kernel_rfl) (fun _ _ _ h => h) (Or.inl ⟨by rfl, ?_⟩) (by assumption) ?_
  rotate_left
  · (intro w hSw; (try dsimp only at hSw); (try have hcs := hcells w hSw); (try go_split_ands); go_simp <;> with_reducible rfl)
  (try simp only [Act.put, List.setIfInBounds_toArray, List.set_cons_zero, List.set_cons_succ])
  refine wpAnyH_ready (rs := [4]) (by kernel_rfl) (by simp) ?_
  refine AllReadyH.cons (o := { dst := some 16, op := Op.call { callee := Callee.value (Operand.func 45), args := #[Operand.tmp 15], argTypes := #[3] }, type := 3, pos := "node.go:59", after := #[{ on := 3, ground := Ground.data }], guard := none }) rfl (fun K hK => ?_) AllReadyH.nil
  go_simp
  go_at_call 45
  refine (other0_any _).mono ?_
  rintro e1 w1 ⟨rfl, rfl⟩
  (try go_wp2_with fail)
  refine hK.out _ _ (by (try dsimp only); exact hcl _ _ hHeld (by first | with_reducible assumption | with_reducible exact IsGr.refl _ | with_reducible exact (IsGr.refl _).alloc _ | with_reducible exact ((IsGr.refl _).alloc _).alloc _ | assumption)) (fun hHeld2 => ?_)
  clear hK K hHeld
  have hHeld := hHeld2
  clear hHeld2
  (try simp only [Act.put, List.setIfInBounds_toArray, List.set_cons_zero, List.set_cons_succ])
  refine wpAnyH_take (i := 7) (oi := { dst := some 19, op := Op.indexAddr 52 (Operand.tmp 18) (Operand.tmp 16), type := 0, pos := "node.go:59", after := #[{ on := 6, ground := Ground.data }, { on := 4, ground := Ground.data }], guard := none }) (v := ?_) rfl (by kernel_rfl) (by kernel_rfl) (by kernel_rfl) (fun _ _ _ h => h) (Or.inl ⟨by rfl, ?_⟩) (by assumption) ?_
  rotate_left
  · (intro w hSw; (try dsimp only at hSw); (try have hcs := hcells w hSw); (try go_split_ands); go_simp <;> with_reducible rfl)
  (try simp only [Act.put, List.setIfInBounds_toArray, List.set_cons_zero, List.set_cons_succ])
  refine wpAnyH_take (i := 8) (oi := { dst := some 20, op := Op.load 48 (Operand.tmp 19), type := 48, pos := "node.go:59", after := #[{ on := 7, ground := Ground.data }], guard := none }) (v := ?_) rfl (by kernel_rfl) (by kernel_rfl) (by kernel_rfl) (fun _ _ _ h => h) (Or.inl ⟨by rfl, ?_⟩) (by assumption) ?_
  rotate_left
  · (intro w hSw; (try dsimp only at hSw); (try have hcs := hcells w hSw); (try go_split_ands); go_simp <;> with_reducible rfl)
  (try simp only [Act.put, List.setIfInBounds_toArray, List.set_cons_zero, List.set_cons_succ])
  refine wpAnyH_take (i := 11) (oi := { dst := some 23, op := Op.indexAddr 52 (Operand.tmp 22) (Operand.tmp 13), type := 0, pos := "node.go:59", after := #[{ on := 10, ground := Ground.data }, { on := 1, ground := Ground.data }, { on := 0, ground := Ground.phase }, { on := 1, ground := Ground.phase }, { on := 2, ground := Ground.phase }, { on := 3, ground := Ground.phase }, { on := 4, ground := Ground.phase }, { on := 5, ground := Ground.phase }, { on := 6, ground := Ground.phase }, { on := 7, ground := Ground.phase }, { on := 8, ground := Ground.phase }], guard := none }) (v := ?_) rfl (by kernel_rfl) (by kernel_rfl) (by kernel_rfl) (fun _ _ _ h => h) (Or.inl ⟨by rfl, ?_⟩) (by assumption) ?_
  rotate_left
  · (intro w hSw; (try dsimp only at hSw); (try have hcs := hcells w hSw); (try go_split_ands); go_simp <;> with_reducible rfl)
  (try simp only [Act.put, List.setIfInBounds_toArray, List.set_cons_zero, List.set_cons_succ])
  refine wpAnyH_done (by kernel_rfl) ?_ _
  obtain ⟨z1, z2, z3⟩ := hcells _ hHeld
  have hg := hgr _ hHeld
  refine butLast_step (o := { dst := none, op := Op.store 48 (Operand.tmp 23) (Operand.tmp 20), type := 0, pos := "node.go:59", after := #[{ on := 11, ground := Ground.data }, { on := 8, ground := Ground.data }, { on := 4, ground := Ground.chain }, { on := 0, ground := Ground.phase }, { on := 1, ground := Ground.phase }, { on := 2, ground := Ground.phase }, { on := 3, ground := Ground.phase }, { on := 4, ground := Ground.phase }, { on := 5, ground := Ground.phase }, { on := 6, ground := Ground.phase }, { on := 7, ground := Ground.phase }, { on := 8, ground := Ground.phase }], guard := none }) rfl (fun K hK => ?_)
  go_simp
  refine hK.out _ _ ?_
  clear hK K
  (try simp only [Act.put, List.setIfInBounds_toArray, List.set_cons_zero, List.set_cons_succ])
  
  obtain ⟨w2, hw2⟩ : ∃ w2, w2 = (w.setCell ⟨b, 1, none⟩ (.pointer q.ptr)).drew := ⟨_, rfl⟩
  rw [← hw2]
  have h2 : Nd w2 b v q.ptr r.ptr d := hw2 ▸ (h.set1 _).dr
  have k2 : Nd w2 c x p.ptr q.ptr e := hw2 ▸ (k.other _ _ hcb).dr
  have hp2 : InT w2 p := hw2 ▸ (hp.set _ _ _ nb.1).dr
  have hq2 : InT w2 q := hw2 ▸ (hq.set _ _ _ nb.2.1).dr
  have hr2 : InT w2 r := hw2 ▸ (hr.set _ _ _ nb.2.2).dr
  have W2 : Wr [b, c] w w2 := hw2 ▸ ((Wr.refl _ w).set _ _ _ (Or.inl (by simp))).drew
  clear z1 z2 z3 hHeld hg hgr hcells hcl hin hw2 C b0 h k hp hq hr
  go_upto_region 4 with (go_at_call 43; refine (measured_d b v d q r w2 h2 hq2 hr2 (by omega) (by omega)).mono ?_; rintro e w3 ⟨m3, hm3, rfl, hg3⟩; have f3 := (h2.gr hg3).fz 3; have c3 := (h2.gr hg3).c3)
  obtain ⟨w4, hw4⟩ : ∃ w4, w4 = w3.setCell ⟨b, 3, none⟩ (.int .i64 m3) := ⟨_, rfl⟩
  rw [← hw4]
  have hB : InT w4 (.nd b v q r) := hw4 ▸ ⟨((h2.gr hg3).set3 _).dp hm3, (hq2.gr hg3).set _ _ _ nb.2.1, (hr2.gr hg3).set _ _ _ nb.2.2⟩
  have k4 : Nd w4 c x p.ptr q.ptr e := hw4 ▸ (k2.gr hg3).other _ _ hcb
  have hp4 : InT w4 p := hw4 ▸ (hp2.gr hg3).set _ _ _ nb.1
  have W4 : Wr [b, c] w w4 := hw4 ▸ (W2.gr hg3).set _ _ _ (Or.inl (by simp))
  have ncB : c ∉ (AT.nd b v q r).ids := notin_nd hcb nc.2.1 nc.2.2
  have kB : (AT.nd b v q r).ht ≤ 1000 := by simp only [AT.ht]; omega
  have eB : (AT.nd b v q r).ptr = some ⟨b, 0, none⟩ := rfl
  obtain ⟨B, eBe⟩ : ∃ B, (AT.nd b v q r) = B := ⟨_, rfl⟩
  rw [eBe] at hB ncB kB eB
  clear hw4 f3 c3 hg3 h2 k2 hp2 hq2 hr2 W2
  
  obtain ⟨C, hin, hcl, hcells, hgr⟩ : ∃ C : World → Prop, (∀ w', IsGr w4 w' → C w') ∧ (∀ u u', C u → IsGr u u' → C u') ∧ (∀ w', C w' → (w'.frozen? ⟨c, 2, none⟩ = false) ∧ (w'.cell? ⟨c, 2, none⟩ = some (.pointer q.ptr))) ∧ (∀ w', C w' → IsGr w4 w') := ⟨fun w' => IsGr w4 w', fun _ h => h, fun _ _ h k => h.trans k, fun w' hg => ⟨(k4.gr hg).fz 2, (k4.gr hg).c2⟩, fun _ h => h⟩
  refine wp_region_only (S := C) (k := 7) (n := 7) (by kernel_rfl) (by kernel_rfl) (by (try dsimp only); exact hin _ (by with_reducible repeat (first | exact IsGr.refl _ | refine IsGr.gr ?_ _ _ | refine IsGr.alloc ?_ _ | refine IsGr.drew ?_ | refine IsGr.drewN ?_ _))) (fun hHeld => ?_)
  refine wpAnyH_take (i := 0) (oi := { dst := some 29, op := Op.move (Operand.tmp 5), type := 48, pos := "node.go:61", after := #[], guard := none }) (v := ?_) rfl (by kernel_rfl) (by kernel_rfl) (by kernel_rfl) (fun _ _ _ h => h) (Or.inl ⟨by rfl, ?_⟩) (by assumption) ?_
  rotate_left
  · (intro w hSw; (try dsimp only at hSw); (try have hcs := hcells w hSw); (try go_split_ands); go_simp <;> with_reducible rfl)
  (try simp only [Act.put, List.setIfInBounds_toArray, List.set_cons_zero, List.set_cons_succ])
  refine wpAnyH_take (i := 1) (oi := { dst := some 30, op := Op.move (Operand.tmp 1), type := 3, pos := "node.go:61", after := #[], guard := none }) (v := ?_) rfl (by kernel_rfl) (by kernel_rfl) (by kernel_rfl) (fun _ _ _ h => h) (Or.inl ⟨by rfl, ?_⟩) (by assumption) ?_
  rotate_left
  · (intro w hSw; (try dsimp only at hSw); (try have hcs := hcells w hSw); (try go_split_ands); go_simp <;> with_reducible rfl)
  (try simp only [Act.put, List.setIfInBounds_toArray, List.set_cons_zero, List.set_cons_succ])
  refine wpAnyH_take (i := 3) (oi := { dst := some 32, op := Op.move (Operand.tmp 0), type := 48, pos := "node.go:61", after := #[], guard := none }) (v := ?_) rfl (by kernel_rfl) (by kernel_rfl) (by kernel_rfl) (fun _ _ _ h => h) (Or.inl ⟨by rfl, ?_⟩) (by assumption) ?_
  rotate_left
  · (intro w hSw; (try dsimp only at hSw); (try have hcs := hcells w hSw); (try go_split_ands); go_simp <;> with_reducible rfl)
  (try simp only [Act.put, List.setIfInBounds_toArray, List.set_cons_zero, List.set_cons_succ])
  refine wpAnyH_take (i := 4) (oi := { dst := some 33, op := Op.nilCheck (Operand.tmp 29), type := 0, pos := "node.go:61", after := #[{ on := 0, ground := Ground.data }], guard := none }) (v := ?_) rfl (by kernel_rfl) (by kernel_rfl) (by kernel_rfl) (fun _ _ _ h => h) (Or.inl ⟨by rfl, ?_⟩) (by assumption) ?_
  rotate_left
  · (intro w hSw; (try dsimp only at hSw); (try have hcs := hcells w hSw); (try go_split_ands); go_simp <;> with_reducible rfl)
  (try simp only [Act.put, List.setIfInBounds_toArray, List.set_cons_zero, List.set_cons_succ])
  refine wpAnyH_take (i := 5) (oi := { dst := some 34, op := Op.fieldAddr 54 (Operand.tmp 33) 1, type := 0, pos := "node.go:61", after := #[{ on := 4, ground := Ground.data }], guard := none }) (v := ?_) rfl (by kernel_rfl) (by kernel_rfl) (by kernel_rfl) (fun _ _ _ h => h) (Or.inl ⟨by rfl, ?_⟩) (by assumption) ?_
  rotate_left
  · (intro w hSw; (try dsimp only at hSw); (try have hcs := hcells w hSw); (try go_split_ands); go_simp <;> with_reducible rfl)
  (try simp only [Act.put, List.setIfInBounds_toArray, List.set_cons_zero, List.set_cons_succ])
  refine wpAnyH_ready (rs := [2]) (by kernel_rfl) (by simp) ?_
  refine AllReadyH.cons (o := { dst := some 31, op := Op.call { callee := Callee.value (Operand.func 45), args := #[Operand.tmp 30], argTypes := #[3] }, type := 3, pos := "node.go:61", after := #[{ on := 1, ground := Ground.data }], guard := none }) rfl (fun K hK => ?_) AllReadyH.nil
  go_simp
  go_at_call 45
  refine (other0_any _).mono ?_
  rintro e1 w1 ⟨rfl, rfl⟩
  (try go_wp2_with fail)
  refine hK.out _ _ (by (try dsimp only); exact hcl _ _ hHeld (by first | with_reducible assumption | with_reducible exact IsGr.refl _ | with_reducible exact (IsGr.refl _).alloc _ | with_reducible exact ((IsGr.refl _).alloc _).alloc _ | assumption)) (fun hHeld2 => ?_)
  clear hK K hHeld
  have hHeld := hHeld2
  clear hHeld2
  (try simp only [Act.put, List.setIfInBounds_toArray, List.set_cons_zero, List.set_cons_succ])
  refine wpAnyH_take (i := 6) (oi := { dst := some 35, op := Op.indexAddr 52 (Operand.tmp 34) (Operand.tmp 31), type := 0, pos := "node.go:61", after := #[{ on := 5, ground := Ground.data }, { on := 2, ground := Ground.data }, { on := 0, ground := Ground.phase }, { on := 1, ground := Ground.phase }, { on := 2, ground := Ground.phase }, { on := 3, ground := Ground.phase }], guard := none }) (v := ?_) rfl (by kernel_rfl) (by kernel_rfl) (by kernel_rfl) (fun _ _ _ h => h) (Or.inl ⟨by rfl, ?_⟩) (by assumption) ?_
  rotate_left
  · (intro w hSw; (try dsimp only at hSw); (try have hcs := hcells w hSw); (try go_split_ands); go_simp <;> with_reducible rfl)
  (try simp only [Act.put, List.setIfInBounds_toArray, List.set_cons_zero, List.set_cons_succ])
  refine wpAnyH_done (by kernel_rfl) ?_ _
  obtain ⟨z1, z2⟩ := hcells _ hHeld
  have hg := hgr _ hHeld
  refine butLast_step (o := { dst := none, op := Op.store 48 (Operand.tmp 35) (Operand.tmp 32), type := 0, pos := "node.go:61", after := #[{ on := 6, ground := Ground.data }, { on := 3, ground := Ground.data }, { on := 2, ground := Ground.chain }, { on := 0, ground := Ground.phase }, { on := 1, ground := Ground.phase }, { on := 2, ground := Ground.phase }, { on := 3, ground := Ground.phase }], guard := none }) rfl (fun K hK => ?_)
  go_simp
  refine hK.out _ _ ?_
  clear hK K
  (try simp only [Act.put, List.setIfInBounds_toArray, List.set_cons_zero, List.set_cons_succ])
  
  obtain ⟨w5, hw5⟩ : ∃ w5, w5 = (w4.setCell ⟨c, 2, none⟩ (.pointer (some ⟨b, 0, none⟩))).drew := ⟨_, rfl⟩
  rw [← hw5]
  have k5 : Nd w5 c x p.ptr (some ⟨b, 0, none⟩) e := hw5 ▸ (k4.set2 _).dr
  have hp5 : InT w5 p := hw5 ▸ (hp4.set _ _ _ nc.1).dr
  have hB5 : InT w5 B := hw5 ▸ (hB.set _ _ _ ncB).dr
  have W5 : Wr [b, c] w w5 := hw5 ▸ (W4.set _ _ _ (Or.inl (by simp))).drew
  clear z1 z2 hHeld hg hgr hcells hcl hin hw5 C hB k4 hp4 W4
  rw [← eB] at k5
  go_wp2_with (go_at_call 43; refine (measured_d c x e p B w5 k5 hp5 hB5 (by omega) (by omega)).mono ?_; rintro e w6 ⟨m6, hm6, rfl, hg6⟩; have f6 := (k5.gr hg6).fz 3; have c6 := (k5.gr hg6).c3)
  go_ret
  subst eBe
  exact ⟨rfl, ⟨((k5.gr hg6).set3 _).dp hm6, (hp5.gr hg6).set _ _ _ nc.1, (hB5.gr hg6).set _ _ _ ncB⟩, (W5.gr hg6).set _ _ _ (Or.inl (by simp))⟩
  

set_option maxRecDepth 20000 in set_option maxHeartbeats 2000000 in
theorem raised1_any (b c : Nat) (v x d e : Int) (p q r : AT) (w : World) (h : Nd w b v r.ptr (some ⟨c, 0, none⟩) d) (k : Nd w c x q.ptr p.ptr e) (hp : InT w p) (hq : InT w q) (hr : InT w r) (kp : p.ht ≤ 900) (kq : q.ht ≤ 900) (kr : r.ht ≤ 900)
    (hbc : b ≠ c) (nb : b ∉ p.ids ∧ b ∉ q.ids ∧ b ∉ r.ids) (nc : c ∉ p.ids ∧ c ∉ q.ids ∧ c ∉ r.ids) :
    Calls Try.prog 48 #[.pointer (some ⟨b, 0, none⟩), .int .i64 1] w fun e w' => e = .returned (.pointer (some ⟨c, 0, none⟩)) ∧ InT w' (.nd c x (.nd b v r q) p) ∧ Wr [b, c] w w' := by
  have hcb : c ≠ b := fun e => hbc e.symm
  have b0 := h.c2
  go_enter Try.func48, Try.ntmps48
  go_upto_region 2 with fail
  obtain ⟨C, hin, hcl, hcells, hgr⟩ : ∃ C : World → Prop, (∀ w', IsGr w w' → C w') ∧ (∀ u u', C u → IsGr u u' → C u') ∧ (∀ w', C w' → (w'.cell? ⟨c, 1, none⟩ = some (.pointer q.ptr)) ∧ (w'.frozen? ⟨b, 2, none⟩ = false) ∧ (w'.cell? ⟨b, 2, none⟩ = some (.pointer (some ⟨c, 0, none⟩)))) ∧ (∀ w', C w' → IsGr w w') := ⟨fun w' => IsGr w w', fun _ h => h, fun _ _ h k => h.trans k, fun w' hg => ⟨(k.gr hg).c1, (h.gr hg).fz 2, (h.gr hg).c2⟩, fun _ h => h⟩
  refine wp_region_only (S := C) (k := 12) (n := 12) (by kernel_rfl) (by kernel_rfl) (by (try dsimp only); exact hin _ (by with_reducible repeat (first | exact IsGr.refl _ | refine IsGr.gr ?_ _ _ | refine IsGr.alloc ?_ _ | refine IsGr.drew ?_ | refine IsGr.drewN ?_ _))) (fun hHeld => ?_)
  refine wpAnyH_take (i := 0) (oi := { dst := some 12, op := Op.move (Operand.tmp 0), type := 48, pos := "node.go:59", after := #[], guard := none }) (v := ?_) rfl (by kernel_rfl) (by kernel_rfl) (by kernel_rfl) (fun _ _ _ h => h) (Or.inl ⟨by rfl, ?_⟩) (by assumption) ?_
  rotate_left
  · (intro w hSw; (try dsimp only at hSw); (try have hcs := hcells w hSw); (try go_split_ands); go_simp <;> with_reducible rfl)
  (try simp only [Act.put, List.setIfInBounds_toArray, List.set_cons_zero, List.set_cons_succ])
  refine wpAnyH_take (i := 1) (oi := { dst := some 13, op := Op.move (Operand.tmp 1), type := 3, pos := "node.go:59", after := #[], guard := none }) (v := ?_) rfl (by kernel_rfl) (by kernel_rfl) (by kernel_rfl) (fun _ _ _ h => h) (Or.inl ⟨by rfl, ?_⟩) (by assumption) ?_
  rotate_left
  · (intro w hSw; (try dsimp only at hSw); (try have hcs := hcells w hSw); (try go_split_ands); go_simp <;> with_reducible rfl)
  (try simp only [Act.put, List.setIfInBounds_toArray, List.set_cons_zero, List.set_cons_succ])
  refine wpAnyH_take (i := 2) (oi := { dst := some 14, op := Op.move (Operand.tmp 5), type := 48, pos := "node.go:59", after := #[], guard := none }) (v := ?_) rfl (by kernel_rfl) (by kernel_rfl) (by kernel_rfl) (fun _ _ _ h => h) (Or.inl ⟨by rfl, ?_⟩) (by assumption) ?_
  rotate_left
  · (intro w hSw; (try dsimp only at hSw); (try have hcs := hcells w hSw); (try go_split_ands); go_simp <;> with_reducible rfl)
  (try simp only [Act.put, List.setIfInBounds_toArray, List.set_cons_zero, List.set_cons_succ])
  refine wpAnyH_take (i := 3) (oi := { dst := some 15, op := Op.move (Operand.tmp 1), type := 3, pos := "node.go:59", after := #[], guard := none }) (v := ?_) rfl (by kernel_rfl) (by kernel_rfl) (by kernel_rfl) (fun _ _ _ h => h) (Or.inl ⟨by rfl, ?_⟩) (by assumption) ?_
  rotate_left
  · (intro w hSw; (try dsimp only at hSw); (try have hcs := hcells w hSw); (try go_split_ands); go_simp <;> with_reducible rfl)
  (try simp only [Act.put, List.setIfInBounds_toArray, List.set_cons_zero, List.set_cons_succ])
  refine wpAnyH_take (i := 5) (oi := { dst := some 17, op := Op.nilCheck (Operand.tmp 14), type := 0, pos := "node.go:59", after := #[{ on := 2, ground := Ground.data }], guard := none }) (v := ?_) rfl (by kernel_rfl) (by kernel_rfl) (by kernel_rfl) (fun _ _ _ h => h) (Or.inl ⟨by rfl, ?_⟩) (by assumption) ?_
  rotate_left
  · (intro w hSw; (try dsimp only at hSw); (try have hcs := hcells w hSw); (try go_split_ands); go_simp <;> with_reducible rfl)
  (try simp only [Act.put, List.setIfInBounds_toArray, List.set_cons_zero, List.set_cons_succ])
  refine wpAnyH_take (i := 6) (oi := { dst := some 18, op := Op.fieldAddr 54 (Operand.tmp 17) 1, type := 0, pos := "node.go:59", after := #[{ on := 5, ground := Ground.data }], guard := none }) (v := ?_) rfl (by kernel_rfl) (by kernel_rfl) (by kernel_rfl) (fun _ _ _ h => h) (Or.inl ⟨by rfl, ?_⟩) (by assumption) ?_
  rotate_left
  · (intro w hSw; (try dsimp only at hSw); (try have hcs := hcells w hSw); (try go_split_ands); go_simp <;> with_reducible rfl)
  (try simp only [Act.put, List.setIfInBounds_toArray, List.set_cons_zero, List.set_cons_succ])
  refine wpAnyH_take (i := 9) (oi := { dst := some 21, op := Op.nilCheck (Operand.tmp 12), type := 0, pos := "node.go:59", after := #[{ on := 0, ground := Ground.data }], guard := none }) (v := ?_) rfl (by kernel_rfl) (by kernel_rfl) (by kernel_rfl) (fun _ _ _ h => h) (Or.inl ⟨by rfl, ?_⟩) (by assumption) ?_
  rotate_left
  · (intro w hSw; (try dsimp only at hSw); (try have hcs := hcells w hSw); (try go_split_ands); go_simp <;> with_reducible rfl)
  (try simp only [Act.put, List.setIfInBounds_toArray, List.set_cons_zero, List.set_cons_succ])
  refine wpAnyH_take (i := 10) (oi := { dst := some 22, op := Op.fieldAddr 54 (Operand.tmp 21) 1, type := 0, pos := "node.go:59", after := #[{ on := 9, ground := Ground.data }], guard := none }) (v := ?_) rfl (by kernel_rfl) (by kernel_rfl) (by kernel_rfl) (fun _ _ _ h => h) (Or.inl ⟨by rfl, ?_⟩) (by assumption) ?_
  rotate_left
  · (intro w hSw; (try dsimp only at hSw); (try have hcs := hcells w hSw); (try go_split_ands); go_simp <;> with_reducible rfl)
  (try simp only [Act.put, List.setIfInBounds_toArray, List.set_cons_zero, List.set_cons_succ])
  refine wpAnyH_ready (rs := [4]) (by kernel_rfl) (by simp) ?_
  refine AllReadyH.cons (o := { dst := some 16, op := Op.call { callee := Callee.value (Operand.func 45), args := #[Operand.tmp 15], argTypes := #[3] }, type := 3, pos := "node.go:59", after := #[{ on := 3, ground := Ground.data }], guard := none }) rfl (fun K hK => ?_) AllReadyH.nil
  go_simp
  go_at_call 45
  refine (other1_any _).mono ?_
  rintro e1 w1 ⟨rfl, rfl⟩
  (try go_wp2_with fail)
  refine hK.out _ _ (by (try dsimp only); exact hcl _ _ hHeld (by first | with_reducible assumption | with_reducible exact IsGr.refl _ | with_reducible exact (IsGr.refl _).alloc _ | with_reducible exact ((IsGr.refl _).alloc _).alloc _ | assumption)) (fun hHeld2 => ?_)
  clear hK K hHeld
  have hHeld := hHeld2
  clear hHeld2
  (try simp only [Act.put, List.setIfInBounds_toArray, List.set_cons_zero, List.set_cons_succ])
  refine wpAnyH_take (i := 7) (oi := { dst := some 19, op := Op.indexAddr 52 (Operand.tmp 18) (Operand.tmp 16), type := 0, pos := "node.go:59", after := #[{ on := 6, ground := Ground.data }, { on := 4, ground := Ground.data }], guard := none }) (v := ?_) rfl (by kernel_rfl) (by kernel_rfl) (by kernel_rfl) (fun _ _ _ h => h) (Or.inl ⟨by rfl, ?_⟩) (by assumption) ?_
  rotate_left
  · (intro w hSw; (try dsimp only at hSw); (try have hcs := hcells w hSw); (try go_split_ands); go_simp <;> with_reducible rfl)
  (try simp only [Act.put, List.setIfInBounds_toArray, List.set_cons_zero, List.set_cons_succ])
  refine wpAnyH_take (i := 8) (oi := { dst := some 20, op := Op.load 48 (Operand.tmp 19), type := 48, pos := "node.go:59", after := #[{ on := 7, ground := Ground.data }], guard := none }) (v := ?_) rfl (by kernel_rfl) (by kernel_rfl) (by kernel_rfl) (fun _ _ _ h => h) (Or.inl ⟨by rfl, ?_⟩) (by assumption) ?_
  rotate_left
  · (intro w hSw; (try dsimp only at hSw); (try have hcs := hcells w hSw); (try go_split_ands); go_simp <;> with_reducible rfl)
  (try simp only [Act.put, List.setIfInBounds_toArray, List.set_cons_zero, List.set_cons_succ])
  refine wpAnyH_take (i := 11) (oi := { dst := some 23, op := Op.indexAddr 52 (Operand.tmp 22) (Operand.tmp 13), type := 0, pos := "node.go:59", after := #[{ on := 10, ground := Ground.data }, { on := 1, ground := Ground.data }, { on := 0, ground := Ground.phase }, { on := 1, ground := Ground.phase }, { on := 2, ground := Ground.phase }, { on := 3, ground := Ground.phase }, { on := 4, ground := Ground.phase }, { on := 5, ground := Ground.phase }, { on := 6, ground := Ground.phase }, { on := 7, ground := Ground.phase }, { on := 8, ground := Ground.phase }], guard := none }) (v := ?_) rfl (by kernel_rfl) (by kernel_rfl) (by kernel_rfl) (fun _ _ _ h => h) (Or.inl ⟨by rfl, ?_⟩) (by assumption) ?_
  rotate_left
  · (intro w hSw; (try dsimp only at hSw); (try have hcs := hcells w hSw); (try go_split_ands); go_simp <;> with_reducible rfl)
  (try simp only [Act.put, List.setIfInBounds_toArray, List.set_cons_zero, List.set_cons_succ])
  refine wpAnyH_done (by kernel_rfl) ?_ _
  obtain ⟨z1, z2, z3⟩ := hcells _ hHeld
  have hg := hgr _ hHeld
  refine butLast_step (o := { dst := none, op := Op.store 48 (Operand.tmp 23) (Operand.tmp 20), type := 0, pos := "node.go:59", after := #[{ on := 11, ground := Ground.data }, { on := 8, ground := Ground.data }, { on := 4, ground := Ground.chain }, { on := 0, ground := Ground.phase }, { on := 1, ground := Ground.phase }, { on := 2, ground := Ground.phase }, { on := 3, ground := Ground.phase }, { on := 4, ground := Ground.phase }, { on := 5, ground := Ground.phase }, { on := 6, ground := Ground.phase }, { on := 7, ground := Ground.phase }, { on := 8, ground := Ground.phase }], guard := none }) rfl (fun K hK => ?_)
  go_simp
  refine hK.out _ _ ?_
  clear hK K
  (try simp only [Act.put, List.setIfInBounds_toArray, List.set_cons_zero, List.set_cons_succ])
  
  obtain ⟨w2, hw2⟩ : ∃ w2, w2 = (w.setCell ⟨b, 2, none⟩ (.pointer q.ptr)).drew := ⟨_, rfl⟩
  rw [← hw2]
  have h2 : Nd w2 b v r.ptr q.ptr d := hw2 ▸ (h.set2 _).dr
  have k2 : Nd w2 c x q.ptr p.ptr e := hw2 ▸ (k.other _ _ hcb).dr
  have hp2 : InT w2 p := hw2 ▸ (hp.set _ _ _ nb.1).dr
  have hq2 : InT w2 q := hw2 ▸ (hq.set _ _ _ nb.2.1).dr
  have hr2 : InT w2 r := hw2 ▸ (hr.set _ _ _ nb.2.2).dr
  have W2 : Wr [b, c] w w2 := hw2 ▸ ((Wr.refl _ w).set _ _ _ (Or.inl (by simp))).drew
  clear z1 z2 z3 hHeld hg hgr hcells hcl hin hw2 C b0 h k hp hq hr
  go_upto_region 4 with (go_at_call 43; refine (measured_d b v d r q w2 h2 hr2 hq2 (by omega) (by omega)).mono ?_; rintro e w3 ⟨m3, hm3, rfl, hg3⟩; have f3 := (h2.gr hg3).fz 3; have c3 := (h2.gr hg3).c3)
  obtain ⟨w4, hw4⟩ : ∃ w4, w4 = w3.setCell ⟨b, 3, none⟩ (.int .i64 m3) := ⟨_, rfl⟩
  rw [← hw4]
  have hB : InT w4 (.nd b v r q) := hw4 ▸ ⟨((h2.gr hg3).set3 _).dp hm3, (hr2.gr hg3).set _ _ _ nb.2.2, (hq2.gr hg3).set _ _ _ nb.2.1⟩
  have k4 : Nd w4 c x q.ptr p.ptr e := hw4 ▸ (k2.gr hg3).other _ _ hcb
  have hp4 : InT w4 p := hw4 ▸ (hp2.gr hg3).set _ _ _ nb.1
  have W4 : Wr [b, c] w w4 := hw4 ▸ (W2.gr hg3).set _ _ _ (Or.inl (by simp))
  have ncB : c ∉ (AT.nd b v r q).ids := notin_nd hcb nc.2.2 nc.2.1
  have kB : (AT.nd b v r q).ht ≤ 1000 := by simp only [AT.ht]; omega
  have eB : (AT.nd b v r q).ptr = some ⟨b, 0, none⟩ := rfl
  obtain ⟨B, eBe⟩ : ∃ B, (AT.nd b v r q) = B := ⟨_, rfl⟩
  rw [eBe] at hB ncB kB eB
  clear hw4 f3 c3 hg3 h2 k2 hp2 hq2 hr2 W2
  
  obtain ⟨C, hin, hcl, hcells, hgr⟩ : ∃ C : World → Prop, (∀ w', IsGr w4 w' → C w') ∧ (∀ u u', C u → IsGr u u' → C u') ∧ (∀ w', C w' → (w'.frozen? ⟨c, 1, none⟩ = false) ∧ (w'.cell? ⟨c, 1, none⟩ = some (.pointer q.ptr))) ∧ (∀ w', C w' → IsGr w4 w') := ⟨fun w' => IsGr w4 w', fun _ h => h, fun _ _ h k => h.trans k, fun w' hg => ⟨(k4.gr hg).fz 1, (k4.gr hg).c1⟩, fun _ h => h⟩
  refine wp_region_only (S := C) (k := 7) (n := 7) (by kernel_rfl) (by kernel_rfl) (by (try dsimp only); exact hin _ (by with_reducible repeat (first | exact IsGr.refl _ | refine IsGr.gr ?_ _ _ | refine IsGr.alloc ?_ _ | refine IsGr.drew ?_ | refine IsGr.drewN ?_ _))) (fun hHeld => ?_)
  refine wpAnyH_take (i := 0) (oi := { dst := some 29, op := Op.move (Operand.tmp 5), type := 48, pos := "node.go:61", after := #[], guard := none }) (v := ?_) rfl (by kernel_rfl) (by kernel_rfl) (by kernel_rfl) (fun _ _ _ h => h) (Or.inl ⟨by rfl, ?_⟩) (by assumption) ?_
  rotate_left
  · (intro w hSw; (try dsimp only at hSw); (try have hcs := hcells w hSw); (try go_split_ands); go_simp <;> with_reducible rfl)
  (try simp only [Act.put, List.setIfInBounds_toArray, List.set_cons_zero, List.set_cons_succ])
  refine wpAnyH_take (i := 1) (oi := { dst := some 30, op := Op.move (Operand.tmp 1), type := 3, pos := "node.go:61", after := #[], guard := none }) (v := ?_) rfl (by kernel_rfl) (by kernel_rfl) (by kernel_rfl) (fun _ _ _ h => h) (Or.inl ⟨by rfl, ?_⟩) (by assumption) ?_
  rotate_left
  · (intro w hSw; (try dsimp only at hSw); (try have hcs := hcells w hSw); (try go_split_ands); go_simp <;> with_reducible rfl)
  (try simp only [Act.put, List.setIfInBounds_toArray, List.set_cons_zero, List.set_cons_succ])
  refine wpAnyH_take (i := 3) (oi := { dst := some 32, op := Op.move (Operand.tmp 0), type := 48, pos := "node.go:61", after := #[], guard := none }) (v := ?_) rfl (by kernel_rfl) (by kernel_rfl) (by kernel_rfl) (fun _ _ _ h => h) (Or.inl ⟨by rfl, ?_⟩) (by assumption) ?_
  rotate_left
  · (intro w hSw; (try dsimp only at hSw); (try have hcs := hcells w hSw); (try go_split_ands); go_simp <;> with_reducible rfl)
  (try simp only [Act.put, List.setIfInBounds_toArray, List.set_cons_zero, List.set_cons_succ])
  refine wpAnyH_take (i := 4) (oi := { dst := some 33, op := Op.nilCheck (Operand.tmp 29), type := 0, pos := "node.go:61", after := #[{ on := 0, ground := Ground.data }], guard := none }) (v := ?_) rfl (by kernel_rfl) (by kernel_rfl) (by kernel_rfl) (fun _ _ _ h => h) (Or.inl ⟨by rfl, ?_⟩) (by assumption) ?_
  rotate_left
  · (intro w hSw; (try dsimp only at hSw); (try have hcs := hcells w hSw); (try go_split_ands); go_simp <;> with_reducible rfl)
  (try simp only [Act.put, List.setIfInBounds_toArray, List.set_cons_zero, List.set_cons_succ])
  refine wpAnyH_take (i := 5) (oi := { dst := some 34, op := Op.fieldAddr 54 (Operand.tmp 33) 1, type := 0, pos := "node.go:61", after := #[{ on := 4, ground := Ground.data }], guard := none }) (v := ?_) rfl (by kernel_rfl) (by kernel_rfl) (by kernel_rfl) (fun _ _ _ h => h) (Or.inl ⟨by rfl, ?_⟩) (by assumption) ?_
  rotate_left
  · (intro w hSw; (try dsimp only at hSw); (try have hcs := hcells w hSw); (try go_split_ands); go_simp <;> with_reducible rfl)
  (try simp only [Act.put, List.setIfInBounds_toArray, List.set_cons_zero, List.set_cons_succ])
  refine wpAnyH_ready (rs := [2]) (by kernel_rfl) (by simp) ?_
  refine AllReadyH.cons (o := { dst := some 31, op := Op.call { callee := Callee.value (Operand.func 45), args := #[Operand.tmp 30], argTypes := #[3] }, type := 3, pos := "node.go:61", after := #[{ on := 1, ground := Ground.data }], guard := none }) rfl (fun K hK => ?_) AllReadyH.nil
  go_simp
  go_at_call 45
  refine (other1_any _).mono ?_
  rintro e1 w1 ⟨rfl, rfl⟩
  (try go_wp2_with fail)
  refine hK.out _ _ (by (try dsimp only); exact hcl _ _ hHeld (by first | with_reducible assumption | with_reducible exact IsGr.refl _ | with_reducible exact (IsGr.refl _).alloc _ | with_reducible exact ((IsGr.refl _).alloc _).alloc _ | assumption)) (fun hHeld2 => ?_)
  clear hK K hHeld
  have hHeld := hHeld2
  clear hHeld2
  (try simp only [Act.put, List.setIfInBounds_toArray, List.set_cons_zero, List.set_cons_succ])
  refine wpAnyH_take (i := 6) (oi := { dst := some 35, op := Op.indexAddr 52 (Operand.tmp 34) (Operand.tmp 31), type := 0, pos := "node.go:61", after := #[{ on := 5, ground := Ground.data }, { on := 2, ground := Ground.data }, { on := 0, ground := Ground.phase }, { on := 1, ground := Ground.phase }, { on := 2, ground := Ground.phase }, { on := 3, ground := Ground.phase }], guard := none }) (v := ?_) rfl (by kernel_rfl) (by kernel_rfl) (by kernel_rfl) (fun _ _ _ h => h) (Or.inl ⟨by rfl, ?_⟩) (by assumption) ?_
  rotate_left
  · (intro w hSw; (try dsimp only at hSw); (try have hcs := hcells w hSw); (try go_split_ands); go_simp <;> with_reducible rfl)
  (try simp only [Act.put, List.setIfInBounds_toArray, List.set_cons_zero, List.set_cons_succ])
  refine wpAnyH_done (by kernel_rfl) ?_ _
  obtain ⟨z1, z2⟩ := hcells _ hHeld
  have hg := hgr _ hHeld
  refine butLast_step (o := { dst := none, op := Op.store 48 (Operand.tmp 35) (Operand.tmp 32), type := 0, pos := "node.go:61", after := #[{ on := 6, ground := Ground.data }, { on := 3, ground := Ground.data }, { on := 2, ground := Ground.chain }, { on := 0, ground := Ground.phase }, { on := 1, ground := Ground.phase }, { on := 2, ground := Ground.phase }, { on := 3, ground := Ground.phase }], guard := none }) rfl (fun K hK => ?_)
  go_simp
  refine hK.out _ _ ?_
  clear hK K
  (try simp only [Act.put, List.setIfInBounds_toArray, List.set_cons_zero, List.set_cons_succ])
  
  obtain ⟨w5, hw5⟩ : ∃ w5, w5 = (w4.setCell ⟨c, 1, none⟩ (.pointer (some ⟨b, 0, none⟩))).drew := ⟨_, rfl⟩
  rw [← hw5]
  have k5 : Nd w5 c x (some ⟨b, 0, none⟩) p.ptr e := hw5 ▸ (k4.set1 _).dr
  have hp5 : InT w5 p := hw5 ▸ (hp4.set _ _ _ nc.1).dr
  have hB5 : InT w5 B := hw5 ▸ (hB.set _ _ _ ncB).dr
  have W5 : Wr [b, c] w w5 := hw5 ▸ (W4.set _ _ _ (Or.inl (by simp))).drew
  clear z1 z2 hHeld hg hgr hcells hcl hin hw5 C hB k4 hp4 W4
  rw [← eB] at k5
  go_wp2_with (go_at_call 43; refine (measured_d c x e B p w5 k5 hB5 hp5 (by omega) (by omega)).mono ?_; rintro e w6 ⟨m6, hm6, rfl, hg6⟩; have f6 := (k5.gr hg6).fz 3; have c6 := (k5.gr hg6).c3)
  go_ret
  subst eBe
  exact ⟨rfl, ⟨((k5.gr hg6).set3 _).dp hm6, (hB5.gr hg6).set _ _ _ ncB, (hp5.gr hg6).set _ _ _ nc.1⟩, (W5.gr hg6).set _ _ _ (Or.inl (by simp))⟩
  
end Go.Proofs.Ytaackkfegkmpkaa
