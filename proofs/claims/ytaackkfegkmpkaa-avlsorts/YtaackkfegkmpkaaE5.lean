/- Contracts of package avl over the loaded program: balanced. -/
import Derived.Test.YtaackkfegkmpkaaE4
namespace Go.Proofs.Ytaackkfegkmpkaa
open Go.RowKit
attribute [local go_sem] Gr.size Gr.cell? Gr.frozen? Gr.setCell Gr.drew Gr.drewN Gr.of_drew Gr.of_drewN Gr.gr Gr.lt_of1 Gr.le_of1 Gr.lt_of2 Gr.le_of2 Gr.lt_of3 Gr.le_of3 Gr.lt_of4 Gr.le_of4 Gr.lt_of5 Gr.le_of5 Gr.lt_of6 Gr.le_of6 Gr.lt_of7 Gr.le_of7 Gr.lt_of8 Gr.le_of8 Gr.lt_of9 Gr.le_of9 Gr.lt_of10 Gr.le_of10 Gr.lt_of11 Gr.le_of11 Gr.lt_of12 Gr.le_of12 Gr.lt_of13 Gr.le_of13 Gr.lt_of14 Gr.le_of14 Gr.lt_of15 Gr.le_of15 Gr.lt_of16 Gr.le_of16 Gr.lt_of17 Gr.le_of17 Gr.lt_of18 Gr.le_of18 Gr.lt_of19 Gr.le_of19 Gr.lt_of20 Gr.le_of20 Gr.lt_of21 Gr.le_of21 Gr.lt_of22 Gr.le_of22 Gr.lt_of23 Gr.le_of23 Gr.lt_of24 Gr.le_of24

theorem idxp_0 (p q : Option Addr) (w : World) : (Instr.index 52 (.agg #[.pointer p, .pointer q]) (.int .i64 0)).run Try.prog w = .ok (.pointer p) w := by
  simp [Instr.index, run_underlying Try.underlying52, asIntOf, go_sem]
theorem idxp_1 (p q : Option Addr) (w : World) : (Instr.index 52 (.agg #[.pointer p, .pointer q]) (.int .i64 1)).run Try.prog w = .ok (.pointer q) w := by
  simp [Instr.index, run_underlying Try.underlying52, asIntOf, go_sem]
/-- m is z. -/
def Dm (m z : Int) : Prop := m = z
theorem Dm.lt {m z k : Int} (h : Dm m z) (hz : z < k) : decide (m < k) = true := decide_eq_true (by unfold Dm at h; omega)
theorem Dm.ge {m z k : Int} (h : Dm m z) (hz : k ≤ z) : decide (m < k) = false := decide_eq_false (by unfold Dm at h; omega)
theorem lean0_m (b : Nat) (v d : Int) (l r : AT) (w : World) (h : Nd w b v l.ptr r.ptr d) (hl : InT w l) (hr : InT w r) (kl : l.ht ≤ 1000) (kr : r.ht ≤ 1000) :
    Calls Try.prog 44 #[.pointer (some ⟨b, 0, none⟩), .int .i64 0] w fun e w' => ∃ m, Dm m ((l.ht : Int) - r.ht) ∧ e = .returned (.int .i64 m) ∧ IsGr w w' :=
  (lean0_any b v d l r w h hl hr kl kr).mono fun _ _ ⟨h1, h2⟩ => ⟨_, rfl, h1, h2⟩
theorem lean1_m (b : Nat) (v d : Int) (l r : AT) (w : World) (h : Nd w b v l.ptr r.ptr d) (hl : InT w l) (hr : InT w r) (kl : l.ht ≤ 1000) (kr : r.ht ≤ 1000) :
    Calls Try.prog 44 #[.pointer (some ⟨b, 0, none⟩), .int .i64 1] w fun e w' => ∃ m, Dm m ((r.ht : Int) - l.ht) ∧ e = .returned (.int .i64 m) ∧ IsGr w w' :=
  (lean1_any b v d l r w h hl hr kl kr).mono fun _ _ ⟨h1, h2⟩ => ⟨_, rfl, h1, h2⟩

set_option maxRecDepth 20000 in set_option maxHeartbeats 2000000 in
theorem balanced_flat (b : Nat) (v d : Int) (l r : AT) (w : World) (h : Nd w b v l.ptr r.ptr d) (hl : InT w l) (hr : InT w r) (kl : l.ht ≤ 900) (kr : r.ht ≤ 900) (nl : b ∉ l.ids) (nr : b ∉ r.ids)
    (k1 : l.ht ≤ r.ht + 1) (k2 : r.ht ≤ l.ht + 1) :
    Calls Try.prog 46 #[.pointer (some ⟨b, 0, none⟩)] w fun e w' => e = .returned (.pointer (some ⟨b, 0, none⟩)) ∧ InT w' (.nd b v l r) ∧ Wr [b] w w' := by
  have c1 := h.c1
  have c2 := h.c2
  have i0 := fun w => idxp_0 l.ptr r.ptr w
  have i1 := fun w => idxp_1 l.ptr r.ptr w
  go_enter Try.func46, Try.ntmps46
  go_wp2_with fail
  refine wp_loop_rounds 3 ?_
  rw [rounds_succ]
  go_wp2_with fail
  refine (lean0_m b v d l r _ h hl hr (by omega) (by omega)).mono ?_
  rintro e w1 ⟨m1, hm1, rfl, hg1⟩
  have d1 := hm1.lt (k := 2) (by omega)
  go_wp2_with fail
  rw [rounds_succ]
  go_wp2_with fail
  refine (lean1_m b v d l r _ (h.gr hg1) (hl.gr hg1) (hr.gr hg1) (by omega) (by omega)).mono ?_
  rintro e w2 ⟨m2, hm2, rfl, hg2⟩
  have d2 := hm2.lt (k := 2) (by omega)
  go_wp2_with fail
  rw [rounds_succ]
  go_wp2_with fail
  have hg := hg1.trans hg2
  refine (measured_d b v d l r _ (h.gr hg) (hl.gr hg) (hr.gr hg) (by omega) (by omega)).mono ?_
  rintro e w3 ⟨m3, hm3, rfl, hg3⟩
  have hgg := hg.trans hg3
  have f3 := (h.gr hgg).fz 3
  have c3 := (h.gr hgg).c3
  go_wp2_with fail
  go_ret
  exact ⟨rfl, ⟨((h.gr hgg).set3 _).dp hm3, (hl.gr hgg).set _ _ _ nl, (hr.gr hgg).set _ _ _ nr⟩, (Wr.of_gr hgg).set _ _ _ (Or.inl (by simp))⟩

theorem nodup_nd {b : Nat} {v : Int} {l r : AT} (h : (AT.nd b v l r).ids.Nodup) : b ∉ l.ids ∧ b ∉ r.ids ∧ l.ids.Nodup ∧ r.ids.Nodup ∧ ∀ x ∈ l.ids, x ∉ r.ids := by
  rw [ids_nd, List.nodup_append] at h
  obtain ⟨h1, h2, h3⟩ := h
  rw [List.nodup_cons] at h2
  refine ⟨fun hb => h3 b hb b (by simp) rfl, h2.1, h1, h2.2, fun x hx hr => h3 x hx x (by simp [hr]) rfl⟩

set_option maxRecDepth 20000 in set_option maxHeartbeats 2000000 in
theorem balanced_top0 (b c : Nat) (v x d : Int) (p q r : AT) (w : World) (h : Nd w b v (some ⟨c, 0, none⟩) r.ptr d) (k : Nd w c x p.ptr q.ptr ((AT.nd c x p q).ht : Nat)) (hp : InT w p) (hq : InT w q) (hr : InT w r) (kp : p.ht ≤ 800) (kq : q.ht ≤ 900) (kr : r.ht ≤ 800)
    (hbc : b ≠ c) (nb : b ∉ p.ids ∧ b ∉ q.ids ∧ b ∉ r.ids) (nc : c ∉ p.ids ∧ c ∉ q.ids ∧ c ∉ r.ids) (g1 : r.ht + 2 ≤ (AT.nd c x p q).ht) (g2 : q.ht ≤ p.ht):
    Calls Try.prog 46 #[.pointer (some ⟨b, 0, none⟩)] w fun e w' => e = .returned (.pointer (some ⟨c, 0, none⟩)) ∧ InT w' (.nd c x p (.nd b v q r)) ∧ Wr [b, c] w w' := by
  have c1 := h.c1
  have c2 := h.c2
  have i0 := fun w => idxp_0 (some ⟨c, 0, none⟩) r.ptr w
  have i1 := fun w => idxp_1 (some ⟨c, 0, none⟩) r.ptr w
  have hD : InT w (AT.nd c x p q) := ⟨k, hp, hq⟩
  have kD : (AT.nd c x p q).ht ≤ 1000 := by simp only [AT.ht]; omega
  go_enter Try.func46, Try.ntmps46
  go_wp2_with fail
  refine wp_loop_rounds 3 ?_
  rw [rounds_succ]
  go_wp2_with fail
  refine (lean0_m b v d (AT.nd c x p q) r _ (h.gr (IsGr.refl _)) (hD.gr (IsGr.refl _)) (hr.gr (IsGr.refl _)) kD (by omega)).mono ?_
  rintro e w2 ⟨m2, hm2, rfl, hg2⟩
  have d2 := hm2.ge (k := 2) (by omega)
  have hgg := (IsGr.refl _).trans hg2
  go_wp2_with fail
  refine (lean0_m c x _ p q _ (k.gr hgg) (hp.gr hgg) (hq.gr hgg) (by simp only [AT.ht] at *; omega) (by simp only [AT.ht] at *; omega)).mono ?_
  rintro e w3 ⟨m3, hm3, rfl, hg3⟩
  have d3 := hm3.ge (k := 0) (by omega)
  have hg := hgg.trans hg3
  go_wp2_with fail
  refine (raised0_any b c v x d _ p q r _ (h.gr hg) (k.gr hg) (hp.gr hg) (hq.gr hg) (hr.gr hg) (by omega) (by omega) (by omega) hbc nb nc).mono ?_
  rintro e w4 ⟨rfl, h4, hw4⟩
  go_wp2_with fail
  go_ret
  exact ⟨rfl, h4, Wr.trans (Wr.of_gr hg) hw4 (fun _ h _ => h)⟩

set_option maxRecDepth 20000 in set_option maxHeartbeats 2000000 in
theorem balanced_rot0 (b c dd : Nat) (v x y d : Int) (p s t r : AT) (w : World) (h : Nd w b v (some ⟨c, 0, none⟩) r.ptr d) (k : Nd w c x p.ptr (AT.nd dd y s t).ptr ((AT.nd c x p (AT.nd dd y s t)).ht : Nat)) (hp : InT w p) (j : Nd w dd y s.ptr t.ptr ((AT.nd dd y s t).ht : Nat)) (hs : InT w s) (ht : InT w t) (hr : InT w r) (kp : p.ht ≤ 800) (ks : s.ht ≤ 800) (kt : t.ht ≤ 800) (kr : r.ht ≤ 800)
    (hbc : b ≠ c) (hbd : b ≠ dd) (hcd : c ≠ dd) (nb : b ∉ p.ids ∧ b ∉ s.ids ∧ b ∉ t.ids ∧ b ∉ r.ids) (nc : c ∉ p.ids ∧ c ∉ s.ids ∧ c ∉ t.ids ∧ c ∉ r.ids) (nd : dd ∉ p.ids ∧ dd ∉ s.ids ∧ dd ∉ t.ids ∧ dd ∉ r.ids) (g1 : r.ht + 2 ≤ (AT.nd c x p (AT.nd dd y s t)).ht) (g2 : p.ht < (AT.nd dd y s t).ht):
    Calls Try.prog 46 #[.pointer (some ⟨b, 0, none⟩)] w fun e w' => e = .returned (.pointer (some ⟨dd, 0, none⟩)) ∧ InT w' (.nd dd y (.nd c x p s) (.nd b v t r)) ∧ Wr [b, c, dd] w w' := by
  have c1 := h.c1
  have c2 := h.c2
  have i0 := fun w => idxp_0 (some ⟨c, 0, none⟩) r.ptr w
  have i1 := fun w => idxp_1 (some ⟨c, 0, none⟩) r.ptr w
  have hD : InT w (AT.nd c x p (AT.nd dd y s t)) := ⟨k, hp, ⟨j, hs, ht⟩⟩
  have kD : (AT.nd c x p (AT.nd dd y s t)).ht ≤ 1000 := by simp only [AT.ht]; omega
  go_enter Try.func46, Try.ntmps46
  go_wp2_with fail
  refine wp_loop_rounds 3 ?_
  rw [rounds_succ]
  go_wp2_with fail
  refine (lean0_m b v d (AT.nd c x p (AT.nd dd y s t)) r _ (h.gr (IsGr.refl _)) (hD.gr (IsGr.refl _)) (hr.gr (IsGr.refl _)) kD (by omega)).mono ?_
  rintro e w2 ⟨m2, hm2, rfl, hg2⟩
  have d2 := hm2.ge (k := 2) (by omega)
  have hgg := (IsGr.refl _).trans hg2
  go_wp2_with fail
  refine (lean0_m c x _ p (AT.nd dd y s t) _ (k.gr hgg) (hp.gr hgg) (show InT _ (AT.nd dd y s t) from ⟨j.gr hgg, hs.gr hgg, ht.gr hgg⟩) (by simp only [AT.ht] at *; omega) (by simp only [AT.ht] at *; omega)).mono ?_
  rintro e w3 ⟨m3, hm3, rfl, hg3⟩
  have d3 := hm3.lt (k := 0) (by omega)
  have hg := hgg.trans hg3
  go_upto_region 6 with fail
  have hG := hg.drew
  refine wp_region_only (S := (fun _ => True)) (k := 9) (n := 9) (by kernel_rfl) (by kernel_rfl) trivial (fun hHeld => ?_)
  refine wpAnyH_take (i := 0) (oi := { dst := some 21, op := Op.move (Operand.tmp 0), type := 48, pos := "node.go:48", after := #[], guard := none }) (v := ?_) rfl (by kernel_rfl) (by kernel_rfl) (by kernel_rfl) (fun _ _ _ h => h) (Or.inl ⟨by rfl, ?_⟩) (by assumption) ?_
  rotate_left
  · (intro w hSw; (try dsimp only at hSw); go_simp <;> with_reducible rfl)
  (try simp only [Act.put, List.setIfInBounds_toArray, List.set_cons_zero, List.set_cons_succ])
  refine wpAnyH_take (i := 1) (oi := { dst := some 22, op := Op.move (Operand.tmp 3), type := 3, pos := "node.go:48", after := #[], guard := none }) (v := ?_) rfl (by kernel_rfl) (by kernel_rfl) (by kernel_rfl) (fun _ _ _ h => h) (Or.inl ⟨by rfl, ?_⟩) (by assumption) ?_
  rotate_left
  · (intro w hSw; (try dsimp only at hSw); go_simp <;> with_reducible rfl)
  (try simp only [Act.put, List.setIfInBounds_toArray, List.set_cons_zero, List.set_cons_succ])
  refine wpAnyH_take (i := 2) (oi := { dst := some 23, op := Op.move (Operand.tmp 4), type := 48, pos := "node.go:48", after := #[], guard := none }) (v := ?_) rfl (by kernel_rfl) (by kernel_rfl) (by kernel_rfl) (fun _ _ _ h => h) (Or.inl ⟨by rfl, ?_⟩) (by assumption) ?_
  rotate_left
  · (intro w hSw; (try dsimp only at hSw); go_simp <;> with_reducible rfl)
  (try simp only [Act.put, List.setIfInBounds_toArray, List.set_cons_zero, List.set_cons_succ])
  refine wpAnyH_take (i := 3) (oi := { dst := some 24, op := Op.move (Operand.tmp 3), type := 3, pos := "node.go:48", after := #[], guard := none }) (v := ?_) rfl (by kernel_rfl) (by kernel_rfl) (by kernel_rfl) (fun _ _ _ h => h) (Or.inl ⟨by rfl, ?_⟩) (by assumption) ?_
  rotate_left
  · (intro w hSw; (try dsimp only at hSw); go_simp <;> with_reducible rfl)
  (try simp only [Act.put, List.setIfInBounds_toArray, List.set_cons_zero, List.set_cons_succ])
  refine wpAnyH_take (i := 6) (oi := { dst := some 27, op := Op.nilCheck (Operand.tmp 21), type := 0, pos := "node.go:48", after := #[{ on := 0, ground := Ground.data }], guard := none }) (v := ?_) rfl (by kernel_rfl) (by kernel_rfl) (by kernel_rfl) (fun _ _ _ h => h) (Or.inl ⟨by rfl, ?_⟩) (by assumption) ?_
  rotate_left
  · (intro w hSw; (try dsimp only at hSw); go_simp <;> with_reducible rfl)
  (try simp only [Act.put, List.setIfInBounds_toArray, List.set_cons_zero, List.set_cons_succ])
  refine wpAnyH_take (i := 7) (oi := { dst := some 28, op := Op.fieldAddr 54 (Operand.tmp 27) 1, type := 0, pos := "node.go:48", after := #[{ on := 6, ground := Ground.data }], guard := none }) (v := ?_) rfl (by kernel_rfl) (by kernel_rfl) (by kernel_rfl) (fun _ _ _ h => h) (Or.inl ⟨by rfl, ?_⟩) (by assumption) ?_
  rotate_left
  · (intro w hSw; (try dsimp only at hSw); go_simp <;> with_reducible rfl)
  (try simp only [Act.put, List.setIfInBounds_toArray, List.set_cons_zero, List.set_cons_succ])
  refine wpAnyH_ready (rs := [4]) (by kernel_rfl) (by simp) ?_
  refine AllReadyH.cons (o := { dst := some 25, op := Op.call { callee := Callee.value (Operand.func 45), args := #[Operand.tmp 24], argTypes := #[3] }, type := 3, pos := "node.go:48", after := #[{ on := 3, ground := Ground.data }], guard := none }) rfl (fun K hK => ?_) AllReadyH.nil
  go_simp
  go_at_call 45
  refine (other0_any _).mono ?_
  rintro e4 w4 ⟨rfl, rfl⟩
  (try go_wp2_with fail)
  refine hK.out _ _ trivial (fun hHeld2 => ?_)
  clear hK K hHeld
  have hHeld := hHeld2
  clear hHeld2
  (try simp only [Act.put, List.setIfInBounds_toArray, List.set_cons_zero, List.set_cons_succ])
  refine wpAnyH_ready (rs := [5]) (by kernel_rfl) (by simp) ?_
  refine AllReadyH.cons (o := { dst := some 26, op := Op.call { callee := Callee.value (Operand.func 48), args := #[Operand.tmp 23, Operand.tmp 25], argTypes := #[48, 3] }, type := 48, pos := "node.go:48", after := #[{ on := 2, ground := Ground.data }, { on := 4, ground := Ground.data }, { on := 4, ground := Ground.chain }], guard := none }) rfl (fun K hK => ?_) AllReadyH.nil
  go_simp
  refine (raised1_any c dd x y _ _ t s p _ (k.gr hG) (j.gr hG) (ht.gr hG) (hs.gr hG) (hp.gr hG) (by omega) (by omega) (by omega) hcd ⟨nc.2.2.1, nc.2.1, nc.1⟩ ⟨nd.2.2.1, nd.2.1, nd.1⟩).mono ?_
  rintro e4 w4 ⟨rfl, h4, hw4⟩
  have n4 := (h.gr hG).wr hw4 (by simp; omega)
  have f4 := n4.fz 1
  have c4 := n4.c1
  have r4 := (hr.gr hG).wr hw4 (fun a ha hm => by simp at hm; rcases hm with rfl | rfl; exact nc.2.2.2 ha; exact nd.2.2.2 ha)
  (try go_wp2_with fail)
  refine hK.out _ _ trivial (fun hHeld2 => ?_)
  clear hK K hHeld
  have hHeld := hHeld2
  clear hHeld2
  (try simp only [Act.put, List.setIfInBounds_toArray, List.set_cons_zero, List.set_cons_succ])
  refine wpAnyH_take (i := 8) (oi := { dst := some 29, op := Op.indexAddr 52 (Operand.tmp 28) (Operand.tmp 22), type := 0, pos := "node.go:48", after := #[{ on := 7, ground := Ground.data }, { on := 1, ground := Ground.data }, { on := 0, ground := Ground.phase }, { on := 1, ground := Ground.phase }, { on := 2, ground := Ground.phase }, { on := 3, ground := Ground.phase }, { on := 4, ground := Ground.phase }, { on := 5, ground := Ground.phase }], guard := none }) (v := ?_) rfl (by kernel_rfl) (by kernel_rfl) (by kernel_rfl) (fun _ _ _ h => h) (Or.inl ⟨by rfl, ?_⟩) (by assumption) ?_
  rotate_left
  · (intro w hSw; (try dsimp only at hSw); go_simp <;> with_reducible rfl)
  (try simp only [Act.put, List.setIfInBounds_toArray, List.set_cons_zero, List.set_cons_succ])
  refine wpAnyH_done (by kernel_rfl) ?_ _
  refine butLast_step (o := { dst := none, op := Op.store 48 (Operand.tmp 29) (Operand.tmp 26), type := 0, pos := "node.go:48", after := #[{ on := 8, ground := Ground.data }, { on := 5, ground := Ground.data }, { on := 5, ground := Ground.chain }, { on := 0, ground := Ground.phase }, { on := 1, ground := Ground.phase }, { on := 2, ground := Ground.phase }, { on := 3, ground := Ground.phase }, { on := 4, ground := Ground.phase }, { on := 5, ground := Ground.phase }], guard := none }) rfl (fun K hK => ?_)
  go_simp
  refine hK.out _ _ ?_
  clear hK K
  (try simp only [Act.put, List.setIfInBounds_toArray, List.set_cons_zero, List.set_cons_succ])
  
  obtain ⟨w5, hw5⟩ : ∃ w5, w5 = w4.setCell ⟨b, 1, none⟩ (.pointer (some ⟨dd, 0, none⟩)) := ⟨_, rfl⟩
  rw [← hw5]
  have n5 : Nd w5 b v (some ⟨dd, 0, none⟩) r.ptr d := hw5 ▸ n4.set1 _
  have T5 : InT w5 (.nd dd y (.nd c x p s) t) := hw5 ▸ h4.set _ _ _ (notin_nd hbd (notin_nd hbc nb.1 nb.2.1) nb.2.2.1)
  have r5 : InT w5 r := hw5 ▸ r4.set _ _ _ nb.2.2.2
  have W5 : Wr [b, c, dd] w w5 := hw5 ▸ (Wr.trans (Wr.of_gr (S := [b, c, dd]) hG) hw4 (fun a h _ => by simp at h ⊢; omega)).set _ _ _ (Or.inl (by simp))
  clear hw5 n4 r4 h4 f4 c4 hw4
  go_wp2_with fail
  refine (raised0_any b dd v y d _ (.nd c x p s) t r _ n5 T5.1 T5.2.1 T5.2.2 r5 (by simp only [AT.ht] at *; omega) (by omega) (by omega) hbd ⟨notin_nd hbc nb.1 nb.2.1, nb.2.2.1, nb.2.2.2⟩ ⟨notin_nd (Ne.symm hcd) nd.1 nd.2.1, nd.2.2.1, nd.2.2.2⟩).mono ?_
  rintro e w6 ⟨rfl, h6, hw6⟩
  go_wp2_with fail
  go_ret
  exact ⟨rfl, h6, W5.trans hw6 (fun a h _ => by simp at h ⊢; omega)⟩

set_option maxRecDepth 20000 in set_option maxHeartbeats 2000000 in
theorem balanced_top1 (b c : Nat) (v x d : Int) (p q r : AT) (w : World) (h : Nd w b v r.ptr (some ⟨c, 0, none⟩) d) (k : Nd w c x q.ptr p.ptr ((AT.nd c x q p).ht : Nat)) (hp : InT w p) (hq : InT w q) (hr : InT w r) (kp : p.ht ≤ 800) (kq : q.ht ≤ 900) (kr : r.ht ≤ 800)
    (hbc : b ≠ c) (nb : b ∉ p.ids ∧ b ∉ q.ids ∧ b ∉ r.ids) (nc : c ∉ p.ids ∧ c ∉ q.ids ∧ c ∉ r.ids) (g1 : r.ht + 2 ≤ (AT.nd c x q p).ht) (g2 : q.ht ≤ p.ht):
    Calls Try.prog 46 #[.pointer (some ⟨b, 0, none⟩)] w fun e w' => e = .returned (.pointer (some ⟨c, 0, none⟩)) ∧ InT w' (.nd c x (.nd b v r q) p) ∧ Wr [b, c] w w' := by
  have c1 := h.c1
  have c2 := h.c2
  have i0 := fun w => idxp_0 r.ptr (some ⟨c, 0, none⟩) w
  have i1 := fun w => idxp_1 r.ptr (some ⟨c, 0, none⟩) w
  have hD : InT w (AT.nd c x q p) := ⟨k, hq, hp⟩
  have kD : (AT.nd c x q p).ht ≤ 1000 := by simp only [AT.ht]; omega
  go_enter Try.func46, Try.ntmps46
  go_wp2_with fail
  refine wp_loop_rounds 3 ?_
  rw [rounds_succ]
  go_wp2_with fail
  refine (lean0_m b v d r (AT.nd c x q p) _ h hr hD (by omega) kD).mono ?_
  rintro e w1 ⟨m1, hm1, rfl, hg1⟩
  have d1 := hm1.lt (k := 2) (by omega)
  go_wp2_with fail
  rw [rounds_succ]
  go_wp2_with fail
  refine (lean1_m b v d r (AT.nd c x q p) _ (h.gr hg1) (hr.gr hg1) (hD.gr hg1) (by omega) kD).mono ?_
  rintro e w2 ⟨m2, hm2, rfl, hg2⟩
  have d2 := hm2.ge (k := 2) (by omega)
  have hgg := hg1.trans hg2
  go_wp2_with fail
  refine (lean1_m c x _ q p _ (k.gr hgg) (hq.gr hgg) (hp.gr hgg) (by simp only [AT.ht] at *; omega) (by simp only [AT.ht] at *; omega)).mono ?_
  rintro e w3 ⟨m3, hm3, rfl, hg3⟩
  have d3 := hm3.ge (k := 0) (by omega)
  have hg := hgg.trans hg3
  go_wp2_with fail
  refine (raised1_any b c v x d _ p q r _ (h.gr hg) (k.gr hg) (hp.gr hg) (hq.gr hg) (hr.gr hg) (by omega) (by omega) (by omega) hbc nb nc).mono ?_
  rintro e w4 ⟨rfl, h4, hw4⟩
  go_wp2_with fail
  go_ret
  exact ⟨rfl, h4, Wr.trans (Wr.of_gr hg) hw4 (fun _ h _ => h)⟩

set_option maxRecDepth 20000 in set_option maxHeartbeats 2000000 in
theorem balanced_rot1 (b c dd : Nat) (v x y d : Int) (p s t r : AT) (w : World) (h : Nd w b v r.ptr (some ⟨c, 0, none⟩) d) (k : Nd w c x (AT.nd dd y t s).ptr p.ptr ((AT.nd c x (AT.nd dd y t s) p).ht : Nat)) (hp : InT w p) (j : Nd w dd y t.ptr s.ptr ((AT.nd dd y t s).ht : Nat)) (hs : InT w s) (ht : InT w t) (hr : InT w r) (kp : p.ht ≤ 800) (ks : s.ht ≤ 800) (kt : t.ht ≤ 800) (kr : r.ht ≤ 800)
    (hbc : b ≠ c) (hbd : b ≠ dd) (hcd : c ≠ dd) (nb : b ∉ p.ids ∧ b ∉ s.ids ∧ b ∉ t.ids ∧ b ∉ r.ids) (nc : c ∉ p.ids ∧ c ∉ s.ids ∧ c ∉ t.ids ∧ c ∉ r.ids) (nd : dd ∉ p.ids ∧ dd ∉ s.ids ∧ dd ∉ t.ids ∧ dd ∉ r.ids) (g1 : r.ht + 2 ≤ (AT.nd c x (AT.nd dd y t s) p).ht) (g2 : p.ht < (AT.nd dd y t s).ht):
    Calls Try.prog 46 #[.pointer (some ⟨b, 0, none⟩)] w fun e w' => e = .returned (.pointer (some ⟨dd, 0, none⟩)) ∧ InT w' (.nd dd y (.nd b v r t) (.nd c x s p)) ∧ Wr [b, c, dd] w w' := by
  have c1 := h.c1
  have c2 := h.c2
  have i0 := fun w => idxp_0 r.ptr (some ⟨c, 0, none⟩) w
  have i1 := fun w => idxp_1 r.ptr (some ⟨c, 0, none⟩) w
  have hD : InT w (AT.nd c x (AT.nd dd y t s) p) := ⟨k, ⟨j, ht, hs⟩, hp⟩
  have kD : (AT.nd c x (AT.nd dd y t s) p).ht ≤ 1000 := by simp only [AT.ht]; omega
  go_enter Try.func46, Try.ntmps46
  go_wp2_with fail
  refine wp_loop_rounds 3 ?_
  rw [rounds_succ]
  go_wp2_with fail
  refine (lean0_m b v d r (AT.nd c x (AT.nd dd y t s) p) _ h hr hD (by omega) kD).mono ?_
  rintro e w1 ⟨m1, hm1, rfl, hg1⟩
  have d1 := hm1.lt (k := 2) (by omega)
  go_wp2_with fail
  rw [rounds_succ]
  go_wp2_with fail
  refine (lean1_m b v d r (AT.nd c x (AT.nd dd y t s) p) _ (h.gr hg1) (hr.gr hg1) (hD.gr hg1) (by omega) kD).mono ?_
  rintro e w2 ⟨m2, hm2, rfl, hg2⟩
  have d2 := hm2.ge (k := 2) (by omega)
  have hgg := hg1.trans hg2
  go_wp2_with fail
  refine (lean1_m c x _ (AT.nd dd y t s) p _ (k.gr hgg) (show InT _ (AT.nd dd y t s) from ⟨j.gr hgg, ht.gr hgg, hs.gr hgg⟩) (hp.gr hgg) (by simp only [AT.ht] at *; omega) (by simp only [AT.ht] at *; omega)).mono ?_
  rintro e w3 ⟨m3, hm3, rfl, hg3⟩
  have d3 := hm3.lt (k := 0) (by omega)
  have hg := hgg.trans hg3
  go_upto_region 6 with fail
  have hG := hg.drew
  refine wp_region_only (S := (fun _ => True)) (k := 9) (n := 9) (by kernel_rfl) (by kernel_rfl) trivial (fun hHeld => ?_)
  refine wpAnyH_take (i := 0) (oi := { dst := some 21, op := Op.move (Operand.tmp 0), type := 48, pos := "node.go:48", after := #[], guard := none }) (v := ?_) rfl (by kernel_rfl) (by kernel_rfl) (by kernel_rfl) (fun _ _ _ h => h) (Or.inl ⟨by rfl, ?_⟩) (by assumption) ?_
  rotate_left
  · (intro w hSw; (try dsimp only at hSw); go_simp <;> with_reducible rfl)
  (try simp only [Act.put, List.setIfInBounds_toArray, List.set_cons_zero, List.set_cons_succ])
  refine wpAnyH_take (i := 1) (oi := { dst := some 22, op := Op.move (Operand.tmp 3), type := 3, pos := "node.go:48", after := #[], guard := none }) (v := ?_) rfl (by kernel_rfl) (by kernel_rfl) (by kernel_rfl) (fun _ _ _ h => h) (Or.inl ⟨by rfl, ?_⟩) (by assumption) ?_
  rotate_left
  · (intro w hSw; (try dsimp only at hSw); go_simp <;> with_reducible rfl)
  (try simp only [Act.put, List.setIfInBounds_toArray, List.set_cons_zero, List.set_cons_succ])
  refine wpAnyH_take (i := 2) (oi := { dst := some 23, op := Op.move (Operand.tmp 4), type := 48, pos := "node.go:48", after := #[], guard := none }) (v := ?_) rfl (by kernel_rfl) (by kernel_rfl) (by kernel_rfl) (fun _ _ _ h => h) (Or.inl ⟨by rfl, ?_⟩) (by assumption) ?_
  rotate_left
  · (intro w hSw; (try dsimp only at hSw); go_simp <;> with_reducible rfl)
  (try simp only [Act.put, List.setIfInBounds_toArray, List.set_cons_zero, List.set_cons_succ])
  refine wpAnyH_take (i := 3) (oi := { dst := some 24, op := Op.move (Operand.tmp 3), type := 3, pos := "node.go:48", after := #[], guard := none }) (v := ?_) rfl (by kernel_rfl) (by kernel_rfl) (by kernel_rfl) (fun _ _ _ h => h) (Or.inl ⟨by rfl, ?_⟩) (by assumption) ?_
  rotate_left
  · (intro w hSw; (try dsimp only at hSw); go_simp <;> with_reducible rfl)
  (try simp only [Act.put, List.setIfInBounds_toArray, List.set_cons_zero, List.set_cons_succ])
  refine wpAnyH_take (i := 6) (oi := { dst := some 27, op := Op.nilCheck (Operand.tmp 21), type := 0, pos := "node.go:48", after := #[{ on := 0, ground := Ground.data }], guard := none }) (v := ?_) rfl (by kernel_rfl) (by kernel_rfl) (by kernel_rfl) (fun _ _ _ h => h) (Or.inl ⟨by rfl, ?_⟩) (by assumption) ?_
  rotate_left
  · (intro w hSw; (try dsimp only at hSw); go_simp <;> with_reducible rfl)
  (try simp only [Act.put, List.setIfInBounds_toArray, List.set_cons_zero, List.set_cons_succ])
  refine wpAnyH_take (i := 7) (oi := { dst := some 28, op := Op.fieldAddr 54 (Operand.tmp 27) 1, type := 0, pos := "node.go:48", after := #[{ on := 6, ground := Ground.data }], guard := none }) (v := ?_) rfl (by kernel_rfl) (by kernel_rfl) (by kernel_rfl) (fun _ _ _ h => h) (Or.inl ⟨by rfl, ?_⟩) (by assumption) ?_
  rotate_left
  · (intro w hSw; (try dsimp only at hSw); go_simp <;> with_reducible rfl)
  (try simp only [Act.put, List.setIfInBounds_toArray, List.set_cons_zero, List.set_cons_succ])
  refine wpAnyH_ready (rs := [4]) (by kernel_rfl) (by simp) ?_
  refine AllReadyH.cons (o := { dst := some 25, op := Op.call { callee := Callee.value (Operand.func 45), args := #[Operand.tmp 24], argTypes := #[3] }, type := 3, pos := "node.go:48", after := #[{ on := 3, ground := Ground.data }], guard := none }) rfl (fun K hK => ?_) AllReadyH.nil
  go_simp
  go_at_call 45
  refine (other1_any _).mono ?_
  rintro e4 w4 ⟨rfl, rfl⟩
  (try go_wp2_with fail)
  refine hK.out _ _ trivial (fun hHeld2 => ?_)
  clear hK K hHeld
  have hHeld := hHeld2
  clear hHeld2
  (try simp only [Act.put, List.setIfInBounds_toArray, List.set_cons_zero, List.set_cons_succ])
  refine wpAnyH_ready (rs := [5]) (by kernel_rfl) (by simp) ?_
  refine AllReadyH.cons (o := { dst := some 26, op := Op.call { callee := Callee.value (Operand.func 48), args := #[Operand.tmp 23, Operand.tmp 25], argTypes := #[48, 3] }, type := 48, pos := "node.go:48", after := #[{ on := 2, ground := Ground.data }, { on := 4, ground := Ground.data }, { on := 4, ground := Ground.chain }], guard := none }) rfl (fun K hK => ?_) AllReadyH.nil
  go_simp
  refine (raised0_any c dd x y _ _ t s p _ (k.gr hG) (j.gr hG) (ht.gr hG) (hs.gr hG) (hp.gr hG) (by omega) (by omega) (by omega) hcd ⟨nc.2.2.1, nc.2.1, nc.1⟩ ⟨nd.2.2.1, nd.2.1, nd.1⟩).mono ?_
  rintro e4 w4 ⟨rfl, h4, hw4⟩
  have n4 := (h.gr hG).wr hw4 (by simp; omega)
  have f4 := n4.fz 2
  have c4 := n4.c2
  have r4 := (hr.gr hG).wr hw4 (fun a ha hm => by simp at hm; rcases hm with rfl | rfl; exact nc.2.2.2 ha; exact nd.2.2.2 ha)
  (try go_wp2_with fail)
  refine hK.out _ _ trivial (fun hHeld2 => ?_)
  clear hK K hHeld
  have hHeld := hHeld2
  clear hHeld2
  (try simp only [Act.put, List.setIfInBounds_toArray, List.set_cons_zero, List.set_cons_succ])
  refine wpAnyH_take (i := 8) (oi := { dst := some 29, op := Op.indexAddr 52 (Operand.tmp 28) (Operand.tmp 22), type := 0, pos := "node.go:48", after := #[{ on := 7, ground := Ground.data }, { on := 1, ground := Ground.data }, { on := 0, ground := Ground.phase }, { on := 1, ground := Ground.phase }, { on := 2, ground := Ground.phase }, { on := 3, ground := Ground.phase }, { on := 4, ground := Ground.phase }, { on := 5, ground := Ground.phase }], guard := none }) (v := ?_) rfl (by kernel_rfl) (by kernel_rfl) (by kernel_rfl) (fun _ _ _ h => h) (Or.inl ⟨by rfl, ?_⟩) (by assumption) ?_
  rotate_left
  · (intro w hSw; (try dsimp only at hSw); go_simp <;> with_reducible rfl)
  (try simp only [Act.put, List.setIfInBounds_toArray, List.set_cons_zero, List.set_cons_succ])
  refine wpAnyH_done (by kernel_rfl) ?_ _
  refine butLast_step (o := { dst := none, op := Op.store 48 (Operand.tmp 29) (Operand.tmp 26), type := 0, pos := "node.go:48", after := #[{ on := 8, ground := Ground.data }, { on := 5, ground := Ground.data }, { on := 5, ground := Ground.chain }, { on := 0, ground := Ground.phase }, { on := 1, ground := Ground.phase }, { on := 2, ground := Ground.phase }, { on := 3, ground := Ground.phase }, { on := 4, ground := Ground.phase }, { on := 5, ground := Ground.phase }], guard := none }) rfl (fun K hK => ?_)
  go_simp
  refine hK.out _ _ ?_
  clear hK K
  (try simp only [Act.put, List.setIfInBounds_toArray, List.set_cons_zero, List.set_cons_succ])
  
  obtain ⟨w5, hw5⟩ : ∃ w5, w5 = w4.setCell ⟨b, 2, none⟩ (.pointer (some ⟨dd, 0, none⟩)) := ⟨_, rfl⟩
  rw [← hw5]
  have n5 : Nd w5 b v r.ptr (some ⟨dd, 0, none⟩) d := hw5 ▸ n4.set2 _
  have T5 : InT w5 (.nd dd y t (.nd c x s p)) := hw5 ▸ h4.set _ _ _ (notin_nd hbd nb.2.2.1 (notin_nd hbc nb.2.1 nb.1))
  have r5 : InT w5 r := hw5 ▸ r4.set _ _ _ nb.2.2.2
  have W5 : Wr [b, c, dd] w w5 := hw5 ▸ (Wr.trans (Wr.of_gr (S := [b, c, dd]) hG) hw4 (fun a h _ => by simp at h ⊢; omega)).set _ _ _ (Or.inl (by simp))
  clear hw5 n4 r4 h4 f4 c4 hw4
  go_wp2_with fail
  refine (raised1_any b dd v y d _ (.nd c x s p) t r _ n5 T5.1 T5.2.2 T5.2.1 r5 (by simp only [AT.ht] at *; omega) (by omega) (by omega) hbd ⟨notin_nd hbc nb.2.1 nb.1, nb.2.2.1, nb.2.2.2⟩ ⟨notin_nd (Ne.symm hcd) nd.2.1 nd.1, nd.2.2.1, nd.2.2.2⟩).mono ?_
  rintro e w6 ⟨rfl, h6, hw6⟩
  go_wp2_with fail
  go_ret
  exact ⟨rfl, h6, W5.trans hw6 (fun a h _ => by simp at h ⊢; omega)⟩
end Go.Proofs.Ytaackkfegkmpkaa
