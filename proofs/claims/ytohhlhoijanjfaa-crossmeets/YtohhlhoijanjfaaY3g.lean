/- Contracts of package gromaref04 over the loaded program: Right. -/
import Derived.Test.YtohhlhoijanjfaaGD
namespace Go.Proofs.Ytohhlhoijanjfaa
open Go.RowKit Go.Shelf
attribute [local go_sem] Gr.size Gr.cell? Gr.frozen? Gr.setCell Gr.drew Gr.drewN Gr.of_drew Gr.of_drewN Gr.gr Gr.lt_of1 Gr.le_of1 Gr.lt_of2 Gr.le_of2 Gr.lt_of3 Gr.le_of3 Gr.lt_of4 Gr.le_of4 Gr.lt_of5 Gr.le_of5 Gr.lt_of6 Gr.le_of6 Gr.lt_of7 Gr.le_of7 Gr.lt_of8 Gr.le_of8 Gr.lt_of9 Gr.le_of9 Gr.lt_of10 Gr.le_of10 Gr.lt_of11 Gr.le_of11 Gr.lt_of12 Gr.le_of12 Gr.lt_of13 Gr.le_of13 Gr.lt_of14 Gr.le_of14 Gr.lt_of15 Gr.le_of15 Gr.lt_of16 Gr.le_of16 Gr.lt_of17 Gr.le_of17 Gr.lt_of18 Gr.le_of18 Gr.lt_of19 Gr.le_of19 Gr.lt_of20 Gr.le_of20 Gr.lt_of21 Gr.le_of21 Gr.lt_of22 Gr.le_of22 Gr.lt_of23 Gr.le_of23 Gr.lt_of24 Gr.le_of24

theorem two90 : (2 : Int) ^ (90 : Int).toNat = 1237940039285380274899124224 := by decide +kernel
theorem two41 : (2 : Int) ^ (41 : Int).toNat = 2199023255552 := by decide +kernel

theorem within_cmp (n r : Int) : withinI n r = (decide (0 ≤ cmpI n (-r)) && decide (cmpI n r ≤ 0)) := by
  unfold withinI
  rw [Bool.eq_iff_iff]
  simp
  rcases cmpI_cases n (-r) with ⟨e1, g1⟩ | ⟨e1, g1⟩ | ⟨e1, g1⟩ <;> rcases cmpI_cases n r with ⟨e2, g2⟩ | ⟨e2, g2⟩ | ⟨e2, g2⟩ <;> rw [e1, e2] <;> omega
set_option maxRecDepth 20000 in set_option maxHeartbeats 2000000 in
theorem RSRight_any (p : Value) (x y z : Int) (w : World) (hp : IsSp w p x y z) (fx : Fit x) (fy : Fit y) (fz : Fit z) :
    Calls Try.prog 26 #[p] w fun e w' => e = .returned (.bool (spotR x y z)) ∧ IsGr w w' := by
  obtain ⟨xs, xa, xn, xc, ys, ya, yn, yc, zs, za, zn, zc, rfl, hx, hy, hz⟩ := hp
  have CS := fun w1 (hg : IsGr w w1) => BigSign_any _ z w1 (hz.gr hg) fz.sm
  have CP := fun w => Power_any 90 w (by omega) (by omega)
  rw [two90] at CP
  have CC := fun w1 u (h : IsBig w1 u 1237940039285380274899124224) (hg : IsGr w w1) => BigCmp_any _ u z 1237940039285380274899124224 w1 (hz.gr hg) h fz.sm (by unfold Sm; omega)
  have CT := fun w => Power_any 41 w (by omega) (by omega)
  rw [two41] at CT
  obtain ⟨M, hM⟩ : ∃ M, M = 2199023255552 * z := ⟨_, rfl⟩
  obtain ⟨N, hN⟩ : ∃ N, N = -M := ⟨_, rfl⟩
  have sM : Sm M := by unfold Fit at fz; unfold Sm; omega
  have sN : Sm N := by unfold Sm at *; omega
  have CM := fun w1 u (h : IsBig w1 u 2199023255552) (hg : IsGr w w1) => BigMul_any u _ 2199023255552 z w1 h (hz.gr hg) (by unfold Sm; omega) fz.sm
  rw [← hM] at CM
  have CN := fun w1 u (h : IsBig w1 u M) => Minus_any u M w1 h sM
  rw [show 0 - M = N by omega] at CN
  have K1 := fun w1 (hg : IsGr w w1) v (h : IsBig w1 v N) => BigCmp_any _ v x N w1 (hx.gr hg) h fx.sm sN
  have K2 := fun w1 (hg : IsGr w w1) v (h : IsBig w1 v M) => BigCmp_any _ v x M w1 (hx.gr hg) h fx.sm sM
  have K3 := fun w1 (hg : IsGr w w1) v (h : IsBig w1 v N) => BigCmp_any _ v y N w1 (hy.gr hg) h fy.sm sN
  have K4 := fun w1 (hg : IsGr w w1) v (h : IsBig w1 v M) => BigCmp_any _ v y M w1 (hy.gr hg) h fy.sm sM
  obtain ⟨B0, hB0⟩ : ∃ B0, B0 = spotR x y z := ⟨_, rfl⟩
  rw [← hB0]
  unfold spotR at hB0
  rw [within_cmp, within_cmp, ← hM, ← hN] at hB0
  clear hM hN sM sN hx hy hz fx fy fz
  generalize cmpI x N = E1 at *
  generalize cmpI x M = E2 at *
  generalize cmpI y N = E3 at *
  generalize cmpI y M = E4 at *
  rcases cmpI_cases z 0 with ⟨e1, g1⟩ | ⟨e1, g1⟩ | ⟨e1, g1⟩
  · rw [e1] at CS
    have HR : Hid (false = B0) := by
      unfold Hid
      rw [hB0, show decide (1 ≤ z ∧ z ≤ 1237940039285380274899124224) = false by simp; omega]
      rfl
    clear hB0 g1 e1 CP CC CT CM CN K1 K2 K3 K4
    go_enter Try.func26, Try.ntmps26
    go_upto_region 1 with fail
    obtain ⟨C, hin, hcl, hcells, hgr⟩ : ∃ C : World → Prop, (∀ w', w.heap.size + 1 ≤ w'.heap.size ∧ IsGr w w' ∧ (w'.cell? ⟨w.heap.size, 0, none⟩ = some (.bool xs) ∧ w'.cell? ⟨w.heap.size, 1, none⟩ = some (.slice xa xn xc) ∧ w'.cell? ⟨w.heap.size, 2, none⟩ = some (.bool ys) ∧ w'.cell? ⟨w.heap.size, 3, none⟩ = some (.slice ya yn yc) ∧ w'.cell? ⟨w.heap.size, 4, none⟩ = some (.bool zs) ∧ w'.cell? ⟨w.heap.size, 5, none⟩ = some (.slice za zn zc)) → C w') ∧ (∀ u u', C u → IsGr u u' → C u') ∧ (∀ w', C w' → (w'.cell? ⟨w.heap.size, 0, none⟩ = some (.bool xs) ∧ w'.cell? ⟨w.heap.size, 1, none⟩ = some (.slice xa xn xc) ∧ w'.cell? ⟨w.heap.size, 2, none⟩ = some (.bool ys) ∧ w'.cell? ⟨w.heap.size, 3, none⟩ = some (.slice ya yn yc) ∧ w'.cell? ⟨w.heap.size, 4, none⟩ = some (.bool zs) ∧ w'.cell? ⟨w.heap.size, 5, none⟩ = some (.slice za zn zc))) ∧ (∀ w', C w' → IsGr w w' ∧ w.heap.size + 1 ≤ w'.heap.size) := by
      refine ⟨fun w' => w.heap.size + 1 ≤ w'.heap.size ∧ IsGr w w' ∧ (w'.cell? ⟨w.heap.size, 0, none⟩ = some (.bool xs) ∧ w'.cell? ⟨w.heap.size, 1, none⟩ = some (.slice xa xn xc) ∧ w'.cell? ⟨w.heap.size, 2, none⟩ = some (.bool ys) ∧ w'.cell? ⟨w.heap.size, 3, none⟩ = some (.slice ya yn yc) ∧ w'.cell? ⟨w.heap.size, 4, none⟩ = some (.bool zs) ∧ w'.cell? ⟨w.heap.size, 5, none⟩ = some (.slice za zn zc)), fun w' h => h, ?_, fun w' h => h.2.2, fun w' h => ⟨h.2.1, h.1⟩⟩
      rintro u u' ⟨h0, h1, h2⟩ hg
      refine ⟨Nat.le_trans h0 hg.size, h1.trans hg, ?_⟩
      exact ⟨hg.cell_at (by omega) h2.1, hg.cell_at (by omega) h2.2.1, hg.cell_at (by omega) h2.2.2.1, hg.cell_at (by omega) h2.2.2.2.1, hg.cell_at (by omega) h2.2.2.2.2.1, hg.cell_at (by omega) h2.2.2.2.2.2⟩
    refine wp_region_held_drew (S := C) (by kernel_rfl) (by (try dsimp only); exact hin _ ⟨by first | omega | (simp; done) | (simp; omega), (by with_reducible repeat (first | exact IsGr.refl _ | refine IsGr.gr ?_ _ _ | refine IsGr.alloc ?_ _ | refine IsGr.drew ?_ | refine IsGr.drewN ?_ _)), by simp [go_sem]⟩) (fun hHeld => ?_)
    refine wpAnyH_take (i := 0) (oi := { dst := some 5, op := Op.fieldAddr 55 (Operand.tmp 1) 2, type := 0, pos := "ref.go:19", after := #[], guard := none }) (v := ?_) rfl (by kernel_rfl) (by kernel_rfl) (by kernel_rfl) (fun _ _ _ h => h) (Or.inl ⟨by rfl, ?_⟩) (by assumption) ?_
    rotate_left
    · (intro w hSw; (try dsimp only at hSw); (try have hcs := hcells w hSw); (try go_split_ands); go_simp <;> with_reducible rfl)
    (try simp only [Act.put, qA, qB, qC])
    refine wpAnyH_take (i := 1) (oi := { dst := some 6, op := Op.load 53 (Operand.tmp 5), type := 53, pos := "ref.go:19", after := #[{ on := 0, ground := Ground.data }], guard := none }) (v := ?_) rfl (by kernel_rfl) (by kernel_rfl) (by kernel_rfl) (fun _ _ _ h => h) (Or.inl ⟨by rfl, ?_⟩) (by assumption) ?_
    rotate_left
    · (intro w hSw; (try dsimp only at hSw); (try have hcs := hcells w hSw); (try go_split_ands); go_simp <;> with_reducible rfl)
    (try simp only [Act.put, qA, qB, qC])
    refine wpAnyH_ready (rs := [2]) (by kernel_rfl) (by simp) ?_
    refine AllReadyH.cons (o := { dst := some 7, op := Op.call { callee := Callee.value (Operand.func 42), args := #[Operand.tmp 6], argTypes := #[53] }, type := 3, pos := "ref.go:19", after := #[{ on := 1, ground := Ground.data }], guard := none }) rfl (fun K hK => ?_) AllReadyH.nil
    go_simp
    refine (CS _ (hgr _ hHeld).1).mono ?_
    rintro e w2 ⟨rfl, hg2⟩
    (try go_wp2_with fail)
    refine hK.out _ _ (by (try dsimp only); exact hcl _ _ hHeld (by first | with_reducible assumption | with_reducible exact IsGr.refl _ | with_reducible exact (IsGr.refl _).alloc _ | with_reducible exact ((IsGr.refl _).alloc _).alloc _ | assumption)) (fun hHeld2 => ?_)
    clear hK K hHeld
    have hHeld := hHeld2
    clear hHeld2
    (try simp only [Act.put, qA, qB, qC])
    refine wpAnyH_take (i := 3) (oi := { dst := some 8, op := Op.binOp BinOp.leq 3 (Operand.tmp 7) (Operand.const (Value.int IntKind.i64 0)) 3, type := 4, pos := "ref.go:19", after := #[{ on := 2, ground := Ground.data }], guard := none }) (v := ?_) rfl (by kernel_rfl) (by kernel_rfl) (by kernel_rfl) (fun _ _ _ h => h) (Or.inl ⟨by rfl, ?_⟩) (by assumption) ?_
    rotate_left
    · (intro w hSw; (try dsimp only at hSw); (try have hcs := hcells w hSw); (try go_split_ands); go_simp <;> with_reducible rfl)
    (try simp only [Act.put, qA, qB, qC])
    refine wpAnyH_take (i := 4) (oi := { dst := some 9, op := Op.move (Operand.tmp 8), type := 4, pos := "ref.go:19", after := #[{ on := 3, ground := Ground.data }, { on := 2, ground := Ground.chain }], guard := none }) (v := ?_) rfl (by kernel_rfl) (by kernel_rfl) (by kernel_rfl) (fun _ _ _ h => h) (Or.inl ⟨by rfl, ?_⟩) (by assumption) ?_
    rotate_left
    · (intro w hSw; (try dsimp only at hSw); (try have hcs := hcells w hSw); (try go_split_ands); go_simp <;> with_reducible rfl)
    (try simp only [Act.put, qA, qB, qC])
    refine wpAnyH_take (i := 5) (oi := { dst := some 10, op := Op.fieldAddr 55 (Operand.tmp 1) 2, type := 0, pos := "ref.go:19", after := #[{ on := 4, ground := Ground.guard }], guard := some (4, false) }) (v := undef) rfl (by kernel_rfl) (by kernel_rfl) (by kernel_rfl) (fun _ _ _ h => h) (Or.inr ⟨by rfl, rfl⟩) (by assumption) ?_
    (try simp only [Act.put, qA, qB, qC])
    refine wpAnyH_take (i := 6) (oi := { dst := some 11, op := Op.load 53 (Operand.tmp 10), type := 53, pos := "ref.go:19", after := #[{ on := 5, ground := Ground.data }, { on := 4, ground := Ground.guard }], guard := some (4, false) }) (v := undef) rfl (by kernel_rfl) (by kernel_rfl) (by kernel_rfl) (fun _ _ _ h => h) (Or.inr ⟨by rfl, rfl⟩) (by assumption) ?_
    (try simp only [Act.put, qA, qB, qC])
    refine wpAnyH_take (i := 7) (oi := { dst := some 12, op := Op.call { callee := Callee.value (Operand.func 67), args := #[Operand.const (Value.int IntKind.i64 90)], argTypes := #[3] }, type := 53, pos := "ref.go:19", after := #[{ on := 4, ground := Ground.chain }, { on := 4, ground := Ground.guard }], guard := some (4, false) }) (v := undef) rfl (by kernel_rfl) (by kernel_rfl) (by kernel_rfl) (fun _ _ _ h => h) (Or.inr ⟨by rfl, rfl⟩) (by assumption) ?_
    (try simp only [Act.put, qA, qB, qC])
    refine wpAnyH_take (i := 8) (oi := { dst := some 13, op := Op.call { callee := Callee.value (Operand.func 66), args := #[Operand.tmp 11, Operand.tmp 12], argTypes := #[53, 53] }, type := 3, pos := "ref.go:19", after := #[{ on := 6, ground := Ground.data }, { on := 7, ground := Ground.data }, { on := 7, ground := Ground.chain }, { on := 4, ground := Ground.guard }], guard := some (4, false) }) (v := undef) rfl (by kernel_rfl) (by kernel_rfl) (by kernel_rfl) (fun _ _ _ h => h) (Or.inr ⟨by rfl, rfl⟩) (by assumption) ?_
    (try simp only [Act.put, qA, qB, qC])
    refine wpAnyH_take (i := 9) (oi := { dst := some 14, op := Op.binOp BinOp.gtr 3 (Operand.tmp 13) (Operand.const (Value.int IntKind.i64 0)) 3, type := 4, pos := "ref.go:19", after := #[{ on := 8, ground := Ground.data }, { on := 4, ground := Ground.guard }], guard := some (4, false) }) (v := undef) rfl (by kernel_rfl) (by kernel_rfl) (by kernel_rfl) (fun _ _ _ h => h) (Or.inr ⟨by rfl, rfl⟩) (by assumption) ?_
    (try simp only [Act.put, qA, qB, qC])
    refine wpAnyH_take (i := 10) (oi := { dst := some 15, op := Op.pick (Operand.tmp 9) (Operand.const (Value.bool true)) (Operand.tmp 14), type := 4, pos := "ref.go:19", after := #[{ on := 4, ground := Ground.data }, { on := 9, ground := Ground.data }], guard := none }) (v := ?_) rfl (by kernel_rfl) (by kernel_rfl) (by kernel_rfl) (fun _ _ _ h => h) (Or.inl ⟨by rfl, ?_⟩) (by assumption) ?_
    rotate_left
    · (intro w hSw; (try dsimp only at hSw); (try have hcs := hcells w hSw); (try go_split_ands); go_simp <;> with_reducible rfl)
    (try simp only [Act.put, qA, qB, qC])
    refine wpAnyH_done (by kernel_rfl) ?_ _
    have hg := (hgr _ hHeld).1
    clear hcells hin hcl hgr hHeld
    go_wp2
    go_ret
    exact ⟨ret_bool HR.out, hg⟩
  · rw [e1] at CS
    have HR : Hid (false = B0) := by
      unfold Hid
      rw [hB0, show decide (1 ≤ z ∧ z ≤ 1237940039285380274899124224) = false by simp; omega]
      rfl
    clear hB0 g1 e1 CP CC CT CM CN K1 K2 K3 K4
    go_enter Try.func26, Try.ntmps26
    go_upto_region 1 with fail
    obtain ⟨C, hin, hcl, hcells, hgr⟩ : ∃ C : World → Prop, (∀ w', w.heap.size + 1 ≤ w'.heap.size ∧ IsGr w w' ∧ (w'.cell? ⟨w.heap.size, 0, none⟩ = some (.bool xs) ∧ w'.cell? ⟨w.heap.size, 1, none⟩ = some (.slice xa xn xc) ∧ w'.cell? ⟨w.heap.size, 2, none⟩ = some (.bool ys) ∧ w'.cell? ⟨w.heap.size, 3, none⟩ = some (.slice ya yn yc) ∧ w'.cell? ⟨w.heap.size, 4, none⟩ = some (.bool zs) ∧ w'.cell? ⟨w.heap.size, 5, none⟩ = some (.slice za zn zc)) → C w') ∧ (∀ u u', C u → IsGr u u' → C u') ∧ (∀ w', C w' → (w'.cell? ⟨w.heap.size, 0, none⟩ = some (.bool xs) ∧ w'.cell? ⟨w.heap.size, 1, none⟩ = some (.slice xa xn xc) ∧ w'.cell? ⟨w.heap.size, 2, none⟩ = some (.bool ys) ∧ w'.cell? ⟨w.heap.size, 3, none⟩ = some (.slice ya yn yc) ∧ w'.cell? ⟨w.heap.size, 4, none⟩ = some (.bool zs) ∧ w'.cell? ⟨w.heap.size, 5, none⟩ = some (.slice za zn zc))) ∧ (∀ w', C w' → IsGr w w' ∧ w.heap.size + 1 ≤ w'.heap.size) := by
      refine ⟨fun w' => w.heap.size + 1 ≤ w'.heap.size ∧ IsGr w w' ∧ (w'.cell? ⟨w.heap.size, 0, none⟩ = some (.bool xs) ∧ w'.cell? ⟨w.heap.size, 1, none⟩ = some (.slice xa xn xc) ∧ w'.cell? ⟨w.heap.size, 2, none⟩ = some (.bool ys) ∧ w'.cell? ⟨w.heap.size, 3, none⟩ = some (.slice ya yn yc) ∧ w'.cell? ⟨w.heap.size, 4, none⟩ = some (.bool zs) ∧ w'.cell? ⟨w.heap.size, 5, none⟩ = some (.slice za zn zc)), fun w' h => h, ?_, fun w' h => h.2.2, fun w' h => ⟨h.2.1, h.1⟩⟩
      rintro u u' ⟨h0, h1, h2⟩ hg
      refine ⟨Nat.le_trans h0 hg.size, h1.trans hg, ?_⟩
      exact ⟨hg.cell_at (by omega) h2.1, hg.cell_at (by omega) h2.2.1, hg.cell_at (by omega) h2.2.2.1, hg.cell_at (by omega) h2.2.2.2.1, hg.cell_at (by omega) h2.2.2.2.2.1, hg.cell_at (by omega) h2.2.2.2.2.2⟩
    refine wp_region_held_drew (S := C) (by kernel_rfl) (by (try dsimp only); exact hin _ ⟨by first | omega | (simp; done) | (simp; omega), (by with_reducible repeat (first | exact IsGr.refl _ | refine IsGr.gr ?_ _ _ | refine IsGr.alloc ?_ _ | refine IsGr.drew ?_ | refine IsGr.drewN ?_ _)), by simp [go_sem]⟩) (fun hHeld => ?_)
    refine wpAnyH_take (i := 0) (oi := { dst := some 5, op := Op.fieldAddr 55 (Operand.tmp 1) 2, type := 0, pos := "ref.go:19", after := #[], guard := none }) (v := ?_) rfl (by kernel_rfl) (by kernel_rfl) (by kernel_rfl) (fun _ _ _ h => h) (Or.inl ⟨by rfl, ?_⟩) (by assumption) ?_
    rotate_left
    · (intro w hSw; (try dsimp only at hSw); (try have hcs := hcells w hSw); (try go_split_ands); go_simp <;> with_reducible rfl)
    (try simp only [Act.put, qA, qB, qC])
    refine wpAnyH_take (i := 1) (oi := { dst := some 6, op := Op.load 53 (Operand.tmp 5), type := 53, pos := "ref.go:19", after := #[{ on := 0, ground := Ground.data }], guard := none }) (v := ?_) rfl (by kernel_rfl) (by kernel_rfl) (by kernel_rfl) (fun _ _ _ h => h) (Or.inl ⟨by rfl, ?_⟩) (by assumption) ?_
    rotate_left
    · (intro w hSw; (try dsimp only at hSw); (try have hcs := hcells w hSw); (try go_split_ands); go_simp <;> with_reducible rfl)
    (try simp only [Act.put, qA, qB, qC])
    refine wpAnyH_ready (rs := [2]) (by kernel_rfl) (by simp) ?_
    refine AllReadyH.cons (o := { dst := some 7, op := Op.call { callee := Callee.value (Operand.func 42), args := #[Operand.tmp 6], argTypes := #[53] }, type := 3, pos := "ref.go:19", after := #[{ on := 1, ground := Ground.data }], guard := none }) rfl (fun K hK => ?_) AllReadyH.nil
    go_simp
    refine (CS _ (hgr _ hHeld).1).mono ?_
    rintro e w2 ⟨rfl, hg2⟩
    (try go_wp2_with fail)
    refine hK.out _ _ (by (try dsimp only); exact hcl _ _ hHeld (by first | with_reducible assumption | with_reducible exact IsGr.refl _ | with_reducible exact (IsGr.refl _).alloc _ | with_reducible exact ((IsGr.refl _).alloc _).alloc _ | assumption)) (fun hHeld2 => ?_)
    clear hK K hHeld
    have hHeld := hHeld2
    clear hHeld2
    (try simp only [Act.put, qA, qB, qC])
    refine wpAnyH_take (i := 3) (oi := { dst := some 8, op := Op.binOp BinOp.leq 3 (Operand.tmp 7) (Operand.const (Value.int IntKind.i64 0)) 3, type := 4, pos := "ref.go:19", after := #[{ on := 2, ground := Ground.data }], guard := none }) (v := ?_) rfl (by kernel_rfl) (by kernel_rfl) (by kernel_rfl) (fun _ _ _ h => h) (Or.inl ⟨by rfl, ?_⟩) (by assumption) ?_
    rotate_left
    · (intro w hSw; (try dsimp only at hSw); (try have hcs := hcells w hSw); (try go_split_ands); go_simp <;> with_reducible rfl)
    (try simp only [Act.put, qA, qB, qC])
    refine wpAnyH_take (i := 4) (oi := { dst := some 9, op := Op.move (Operand.tmp 8), type := 4, pos := "ref.go:19", after := #[{ on := 3, ground := Ground.data }, { on := 2, ground := Ground.chain }], guard := none }) (v := ?_) rfl (by kernel_rfl) (by kernel_rfl) (by kernel_rfl) (fun _ _ _ h => h) (Or.inl ⟨by rfl, ?_⟩) (by assumption) ?_
    rotate_left
    · (intro w hSw; (try dsimp only at hSw); (try have hcs := hcells w hSw); (try go_split_ands); go_simp <;> with_reducible rfl)
    (try simp only [Act.put, qA, qB, qC])
    refine wpAnyH_take (i := 5) (oi := { dst := some 10, op := Op.fieldAddr 55 (Operand.tmp 1) 2, type := 0, pos := "ref.go:19", after := #[{ on := 4, ground := Ground.guard }], guard := some (4, false) }) (v := undef) rfl (by kernel_rfl) (by kernel_rfl) (by kernel_rfl) (fun _ _ _ h => h) (Or.inr ⟨by rfl, rfl⟩) (by assumption) ?_
    (try simp only [Act.put, qA, qB, qC])
    refine wpAnyH_take (i := 6) (oi := { dst := some 11, op := Op.load 53 (Operand.tmp 10), type := 53, pos := "ref.go:19", after := #[{ on := 5, ground := Ground.data }, { on := 4, ground := Ground.guard }], guard := some (4, false) }) (v := undef) rfl (by kernel_rfl) (by kernel_rfl) (by kernel_rfl) (fun _ _ _ h => h) (Or.inr ⟨by rfl, rfl⟩) (by assumption) ?_
    (try simp only [Act.put, qA, qB, qC])
    refine wpAnyH_take (i := 7) (oi := { dst := some 12, op := Op.call { callee := Callee.value (Operand.func 67), args := #[Operand.const (Value.int IntKind.i64 90)], argTypes := #[3] }, type := 53, pos := "ref.go:19", after := #[{ on := 4, ground := Ground.chain }, { on := 4, ground := Ground.guard }], guard := some (4, false) }) (v := undef) rfl (by kernel_rfl) (by kernel_rfl) (by kernel_rfl) (fun _ _ _ h => h) (Or.inr ⟨by rfl, rfl⟩) (by assumption) ?_
    (try simp only [Act.put, qA, qB, qC])
    refine wpAnyH_take (i := 8) (oi := { dst := some 13, op := Op.call { callee := Callee.value (Operand.func 66), args := #[Operand.tmp 11, Operand.tmp 12], argTypes := #[53, 53] }, type := 3, pos := "ref.go:19", after := #[{ on := 6, ground := Ground.data }, { on := 7, ground := Ground.data }, { on := 7, ground := Ground.chain }, { on := 4, ground := Ground.guard }], guard := some (4, false) }) (v := undef) rfl (by kernel_rfl) (by kernel_rfl) (by kernel_rfl) (fun _ _ _ h => h) (Or.inr ⟨by rfl, rfl⟩) (by assumption) ?_
    (try simp only [Act.put, qA, qB, qC])
    refine wpAnyH_take (i := 9) (oi := { dst := some 14, op := Op.binOp BinOp.gtr 3 (Operand.tmp 13) (Operand.const (Value.int IntKind.i64 0)) 3, type := 4, pos := "ref.go:19", after := #[{ on := 8, ground := Ground.data }, { on := 4, ground := Ground.guard }], guard := some (4, false) }) (v := undef) rfl (by kernel_rfl) (by kernel_rfl) (by kernel_rfl) (fun _ _ _ h => h) (Or.inr ⟨by rfl, rfl⟩) (by assumption) ?_
    (try simp only [Act.put, qA, qB, qC])
    refine wpAnyH_take (i := 10) (oi := { dst := some 15, op := Op.pick (Operand.tmp 9) (Operand.const (Value.bool true)) (Operand.tmp 14), type := 4, pos := "ref.go:19", after := #[{ on := 4, ground := Ground.data }, { on := 9, ground := Ground.data }], guard := none }) (v := ?_) rfl (by kernel_rfl) (by kernel_rfl) (by kernel_rfl) (fun _ _ _ h => h) (Or.inl ⟨by rfl, ?_⟩) (by assumption) ?_
    rotate_left
    · (intro w hSw; (try dsimp only at hSw); (try have hcs := hcells w hSw); (try go_split_ands); go_simp <;> with_reducible rfl)
    (try simp only [Act.put, qA, qB, qC])
    refine wpAnyH_done (by kernel_rfl) ?_ _
    have hg := (hgr _ hHeld).1
    clear hcells hin hcl hgr hHeld
    go_wp2
    go_ret
    exact ⟨ret_bool HR.out, hg⟩
  · rw [e1] at CS
    rcases cmpI_cases z 1237940039285380274899124224 with ⟨e2, g2⟩ | ⟨e2, g2⟩ | ⟨e2, g2⟩
    · rw [e2] at CC
      rw [show decide (1 ≤ z ∧ z ≤ 1237940039285380274899124224) = true by simp; omega, Bool.true_and] at hB0
      clear g1 g2 e1 e2
      go_enter Try.func26, Try.ntmps26
      go_upto_region 1 with fail
      obtain ⟨C, hin, hcl, hcells, hgr⟩ : ∃ C : World → Prop, (∀ w', w.heap.size + 1 ≤ w'.heap.size ∧ IsGr w w' ∧ (w'.cell? ⟨w.heap.size, 0, none⟩ = some (.bool xs) ∧ w'.cell? ⟨w.heap.size, 1, none⟩ = some (.slice xa xn xc) ∧ w'.cell? ⟨w.heap.size, 2, none⟩ = some (.bool ys) ∧ w'.cell? ⟨w.heap.size, 3, none⟩ = some (.slice ya yn yc) ∧ w'.cell? ⟨w.heap.size, 4, none⟩ = some (.bool zs) ∧ w'.cell? ⟨w.heap.size, 5, none⟩ = some (.slice za zn zc)) → C w') ∧ (∀ u u', C u → IsGr u u' → C u') ∧ (∀ w', C w' → (w'.cell? ⟨w.heap.size, 0, none⟩ = some (.bool xs) ∧ w'.cell? ⟨w.heap.size, 1, none⟩ = some (.slice xa xn xc) ∧ w'.cell? ⟨w.heap.size, 2, none⟩ = some (.bool ys) ∧ w'.cell? ⟨w.heap.size, 3, none⟩ = some (.slice ya yn yc) ∧ w'.cell? ⟨w.heap.size, 4, none⟩ = some (.bool zs) ∧ w'.cell? ⟨w.heap.size, 5, none⟩ = some (.slice za zn zc))) ∧ (∀ w', C w' → IsGr w w' ∧ w.heap.size + 1 ≤ w'.heap.size) := by
        refine ⟨fun w' => w.heap.size + 1 ≤ w'.heap.size ∧ IsGr w w' ∧ (w'.cell? ⟨w.heap.size, 0, none⟩ = some (.bool xs) ∧ w'.cell? ⟨w.heap.size, 1, none⟩ = some (.slice xa xn xc) ∧ w'.cell? ⟨w.heap.size, 2, none⟩ = some (.bool ys) ∧ w'.cell? ⟨w.heap.size, 3, none⟩ = some (.slice ya yn yc) ∧ w'.cell? ⟨w.heap.size, 4, none⟩ = some (.bool zs) ∧ w'.cell? ⟨w.heap.size, 5, none⟩ = some (.slice za zn zc)), fun w' h => h, ?_, fun w' h => h.2.2, fun w' h => ⟨h.2.1, h.1⟩⟩
        rintro u u' ⟨h0, h1, h2⟩ hg
        refine ⟨Nat.le_trans h0 hg.size, h1.trans hg, ?_⟩
        exact ⟨hg.cell_at (by omega) h2.1, hg.cell_at (by omega) h2.2.1, hg.cell_at (by omega) h2.2.2.1, hg.cell_at (by omega) h2.2.2.2.1, hg.cell_at (by omega) h2.2.2.2.2.1, hg.cell_at (by omega) h2.2.2.2.2.2⟩
      refine wp_region_held_drew (S := C) (by kernel_rfl) (by (try dsimp only); exact hin _ ⟨by first | omega | (simp; done) | (simp; omega), (by with_reducible repeat (first | exact IsGr.refl _ | refine IsGr.gr ?_ _ _ | refine IsGr.alloc ?_ _ | refine IsGr.drew ?_ | refine IsGr.drewN ?_ _)), by simp [go_sem]⟩) (fun hHeld => ?_)
      refine wpAnyH_take (i := 0) (oi := { dst := some 5, op := Op.fieldAddr 55 (Operand.tmp 1) 2, type := 0, pos := "ref.go:19", after := #[], guard := none }) (v := ?_) rfl (by kernel_rfl) (by kernel_rfl) (by kernel_rfl) (fun _ _ _ h => h) (Or.inl ⟨by rfl, ?_⟩) (by assumption) ?_
      rotate_left
      · (intro w hSw; (try dsimp only at hSw); (try have hcs := hcells w hSw); (try go_split_ands); go_simp <;> with_reducible rfl)
      (try simp only [Act.put, qA, qB, qC])
      refine wpAnyH_take (i := 1) (oi := { dst := some 6, op := Op.load 53 (Operand.tmp 5), type := 53, pos := "ref.go:19", after := #[{ on := 0, ground := Ground.data }], guard := none }) (v := ?_) rfl (by kernel_rfl) (by kernel_rfl) (by kernel_rfl) (fun _ _ _ h => h) (Or.inl ⟨by rfl, ?_⟩) (by assumption) ?_
      rotate_left
      · (intro w hSw; (try dsimp only at hSw); (try have hcs := hcells w hSw); (try go_split_ands); go_simp <;> with_reducible rfl)
      (try simp only [Act.put, qA, qB, qC])
      refine wpAnyH_ready (rs := [2]) (by kernel_rfl) (by simp) ?_
      refine AllReadyH.cons (o := { dst := some 7, op := Op.call { callee := Callee.value (Operand.func 42), args := #[Operand.tmp 6], argTypes := #[53] }, type := 3, pos := "ref.go:19", after := #[{ on := 1, ground := Ground.data }], guard := none }) rfl (fun K hK => ?_) AllReadyH.nil
      go_simp
      refine (CS _ (hgr _ hHeld).1).mono ?_
      rintro e w2 ⟨rfl, hg2⟩
      (try go_wp2_with fail)
      refine hK.out _ _ (by (try dsimp only); exact hcl _ _ hHeld (by first | with_reducible assumption | with_reducible exact IsGr.refl _ | with_reducible exact (IsGr.refl _).alloc _ | with_reducible exact ((IsGr.refl _).alloc _).alloc _ | assumption)) (fun hHeld2 => ?_)
      clear hK K hHeld
      have hHeld := hHeld2
      clear hHeld2
      (try simp only [Act.put, qA, qB, qC])
      refine wpAnyH_take (i := 3) (oi := { dst := some 8, op := Op.binOp BinOp.leq 3 (Operand.tmp 7) (Operand.const (Value.int IntKind.i64 0)) 3, type := 4, pos := "ref.go:19", after := #[{ on := 2, ground := Ground.data }], guard := none }) (v := ?_) rfl (by kernel_rfl) (by kernel_rfl) (by kernel_rfl) (fun _ _ _ h => h) (Or.inl ⟨by rfl, ?_⟩) (by assumption) ?_
      rotate_left
      · (intro w hSw; (try dsimp only at hSw); (try have hcs := hcells w hSw); (try go_split_ands); go_simp <;> with_reducible rfl)
      (try simp only [Act.put, qA, qB, qC])
      refine wpAnyH_take (i := 4) (oi := { dst := some 9, op := Op.move (Operand.tmp 8), type := 4, pos := "ref.go:19", after := #[{ on := 3, ground := Ground.data }, { on := 2, ground := Ground.chain }], guard := none }) (v := ?_) rfl (by kernel_rfl) (by kernel_rfl) (by kernel_rfl) (fun _ _ _ h => h) (Or.inl ⟨by rfl, ?_⟩) (by assumption) ?_
      rotate_left
      · (intro w hSw; (try dsimp only at hSw); (try have hcs := hcells w hSw); (try go_split_ands); go_simp <;> with_reducible rfl)
      (try simp only [Act.put, qA, qB, qC])
      refine wpAnyH_take (i := 5) (oi := { dst := some 10, op := Op.fieldAddr 55 (Operand.tmp 1) 2, type := 0, pos := "ref.go:19", after := #[{ on := 4, ground := Ground.guard }], guard := some (4, false) }) (v := ?_) rfl (by kernel_rfl) (by kernel_rfl) (by kernel_rfl) (fun _ _ _ h => h) (Or.inl ⟨by rfl, ?_⟩) (by assumption) ?_
      rotate_left
      · (intro w hSw; (try dsimp only at hSw); (try have hcs := hcells w hSw); (try go_split_ands); go_simp <;> with_reducible rfl)
      (try simp only [Act.put, qA, qB, qC])
      refine wpAnyH_take (i := 6) (oi := { dst := some 11, op := Op.load 53 (Operand.tmp 10), type := 53, pos := "ref.go:19", after := #[{ on := 5, ground := Ground.data }, { on := 4, ground := Ground.guard }], guard := some (4, false) }) (v := ?_) rfl (by kernel_rfl) (by kernel_rfl) (by kernel_rfl) (fun _ _ _ h => h) (Or.inl ⟨by rfl, ?_⟩) (by assumption) ?_
      rotate_left
      · (intro w hSw; (try dsimp only at hSw); (try have hcs := hcells w hSw); (try go_split_ands); go_simp <;> with_reducible rfl)
      (try simp only [Act.put, qA, qB, qC])
      refine wpAnyH_ready (rs := [7]) (by kernel_rfl) (by simp) ?_
      refine AllReadyH.cons (o := { dst := some 12, op := Op.call { callee := Callee.value (Operand.func 67), args := #[Operand.const (Value.int IntKind.i64 90)], argTypes := #[3] }, type := 53, pos := "ref.go:19", after := #[{ on := 4, ground := Ground.chain }, { on := 4, ground := Ground.guard }], guard := some (4, false) }) rfl (fun K hK => ?_) AllReadyH.nil
      go_simp
      refine (CP _).mono ?_
      rintro e w3 ⟨P, rfl, hP, hg3⟩
      obtain ⟨Ps, Pa, Pn, Pc, rfl⟩ := hP.shape
      (try go_wp2_with fail)
      refine hK.out _ _ (by (try dsimp only); exact hcl _ _ hHeld (by first | with_reducible assumption | with_reducible exact IsGr.refl _ | with_reducible exact (IsGr.refl _).alloc _ | with_reducible exact ((IsGr.refl _).alloc _).alloc _ | assumption)) (fun hHeld2 => ?_)
      clear hK K hHeld
      have hHeld := hHeld2
      clear hHeld2
      (try simp only [Act.put, qA, qB, qC])
      refine wpAnyH_ready (rs := [8]) (by kernel_rfl) (by simp) ?_
      refine AllReadyH.cons (o := { dst := some 13, op := Op.call { callee := Callee.value (Operand.func 66), args := #[Operand.tmp 11, Operand.tmp 12], argTypes := #[53, 53] }, type := 3, pos := "ref.go:19", after := #[{ on := 6, ground := Ground.data }, { on := 7, ground := Ground.data }, { on := 7, ground := Ground.chain }, { on := 4, ground := Ground.guard }], guard := some (4, false) }) rfl (fun K hK => ?_) AllReadyH.nil
      go_simp
      refine (CC _ _ hP (hgr _ hHeld).1).mono ?_
      rintro e w4 ⟨rfl, hg4⟩
      (try go_wp2_with fail)
      refine hK.out _ _ (by (try dsimp only); exact hcl _ _ hHeld (by first | with_reducible assumption | with_reducible exact IsGr.refl _ | with_reducible exact (IsGr.refl _).alloc _ | with_reducible exact ((IsGr.refl _).alloc _).alloc _ | assumption)) (fun hHeld2 => ?_)
      clear hK K hHeld
      have hHeld := hHeld2
      clear hHeld2
      (try simp only [Act.put, qA, qB, qC])
      refine wpAnyH_take (i := 9) (oi := { dst := some 14, op := Op.binOp BinOp.gtr 3 (Operand.tmp 13) (Operand.const (Value.int IntKind.i64 0)) 3, type := 4, pos := "ref.go:19", after := #[{ on := 8, ground := Ground.data }, { on := 4, ground := Ground.guard }], guard := some (4, false) }) (v := ?_) rfl (by kernel_rfl) (by kernel_rfl) (by kernel_rfl) (fun _ _ _ h => h) (Or.inl ⟨by rfl, ?_⟩) (by assumption) ?_
      rotate_left
      · (intro w hSw; (try dsimp only at hSw); (try have hcs := hcells w hSw); (try go_split_ands); go_simp <;> with_reducible rfl)
      (try simp only [Act.put, qA, qB, qC])
      refine wpAnyH_take (i := 10) (oi := { dst := some 15, op := Op.pick (Operand.tmp 9) (Operand.const (Value.bool true)) (Operand.tmp 14), type := 4, pos := "ref.go:19", after := #[{ on := 4, ground := Ground.data }, { on := 9, ground := Ground.data }], guard := none }) (v := ?_) rfl (by kernel_rfl) (by kernel_rfl) (by kernel_rfl) (fun _ _ _ h => h) (Or.inl ⟨by rfl, ?_⟩) (by assumption) ?_
      rotate_left
      · (intro w hSw; (try dsimp only at hSw); (try have hcs := hcells w hSw); (try go_split_ands); go_simp <;> with_reducible rfl)
      (try simp only [Act.put, qA, qB, qC])
      refine wpAnyH_done (by kernel_rfl) ?_ _
      clear CS CP CC hP
      have SO : ∀ w', IsGr w4 w' → (w'.cell? ⟨w.heap.size, 0, none⟩ = some (.bool xs) ∧ w'.cell? ⟨w.heap.size, 1, none⟩ = some (.slice xa xn xc) ∧ w'.cell? ⟨w.heap.size, 2, none⟩ = some (.bool ys) ∧ w'.cell? ⟨w.heap.size, 3, none⟩ = some (.slice ya yn yc) ∧ w'.cell? ⟨w.heap.size, 4, none⟩ = some (.bool zs) ∧ w'.cell? ⟨w.heap.size, 5, none⟩ = some (.slice za zn zc)) := fun w' hg => hcells w' (hcl _ _ hHeld hg)
      have HG : Hid (IsGr w w4) := (hgr _ hHeld).1
      have hgw := (hgr _ hHeld).1
      have k0 : w.heap.size + 1 ≤ w4.heap.size := (hgr _ hHeld).2
      have CM' := fun w1 u (h : IsBig w1 u 2199023255552) (hg : IsGr w4 w1) => CM w1 u h (hgw.trans hg)
      clear hcells hin hcl hgr hHeld CM hgw
      go_upto_region 3 with fail
      go_cut [3] (fun t3 wr => BigAt wr t3 M ∧ IsGr w4 wr)
      case first => as_aux_lemma =>
        refine wp_region_held_drew (S := (fun w' => (w'.cell? ⟨w.heap.size, 0, none⟩ = some (.bool xs) ∧ w'.cell? ⟨w.heap.size, 1, none⟩ = some (.slice xa xn xc) ∧ w'.cell? ⟨w.heap.size, 2, none⟩ = some (.bool ys) ∧ w'.cell? ⟨w.heap.size, 3, none⟩ = some (.slice ya yn yc) ∧ w'.cell? ⟨w.heap.size, 4, none⟩ = some (.bool zs) ∧ w'.cell? ⟨w.heap.size, 5, none⟩ = some (.slice za zn zc)))) (by kernel_rfl) (by (try dsimp only); exact SO _ (by with_reducible repeat (first | exact IsGr.refl _ | refine IsGr.gr ?_ _ _ | refine IsGr.alloc ?_ _ | refine IsGr.drew ?_ | refine IsGr.drewN ?_ _))) (fun hHeld => ?_)
        refine wpAnyH_take (i := 1) (oi := { dst := some 17, op := Op.fieldAddr 55 (Operand.tmp 1) 2, type := 0, pos := "ref.go:22", after := #[], guard := none }) (v := ?_) rfl (by kernel_rfl) (by kernel_rfl) (by kernel_rfl) (fun _ _ _ h => h) (Or.inl ⟨by rfl, ?_⟩) (by assumption) ?_
        rotate_left
        · (intro w hSw; (try dsimp only at hSw); go_simp <;> with_reducible rfl)
        (try simp only [Act.put, qA, qB, qC])
        refine wpAnyH_take (i := 2) (oi := { dst := some 18, op := Op.load 53 (Operand.tmp 17), type := 53, pos := "ref.go:22", after := #[{ on := 1, ground := Ground.data }], guard := none }) (v := ?_) rfl (by kernel_rfl) (by kernel_rfl) (by kernel_rfl) (fun _ _ _ h => h) (Or.inl ⟨by rfl, ?_⟩) (by assumption) ?_
        rotate_left
        · (intro w hSw; (try dsimp only at hSw); go_simp <;> with_reducible rfl)
        (try simp only [Act.put, qA, qB, qC])
        refine wpAnyH_invA [0, 3, 4, 5] (fun A D a w => ∃ t0 t3 t4 : Value, a = (((A.put (some 16) t0).put (some 19) t3).put (some 3) t4) ∧ IsGr w4 w ∧ (D 0 → IsBig w t0 (2199023255552)) ∧ (D 3 → IsBig w t3 (M)) ∧ (D 4 → Bx w4 w 53 bigCells t4) ∧ (D 5 → D 4 ∧ D 3 ∧ ∃ c0 c1 : Value, t3 = .agg #[c0, c1] ∧ Hx w 53 t4 c0 c1)) (by kernel_rfl) (by assumption) ?_ ?_ ?_
        · exact ⟨_, _, _, by (simp only [Act.put, qA, qB, qC]); try rfl, (by with_reducible repeat (first | exact IsGr.refl _ | refine IsGr.gr ?_ _ _ | refine IsGr.alloc ?_ _ | refine IsGr.drew ?_ | refine IsGr.drewN ?_ _)), fun h => h.elim, fun h => h.elim, fun h => h.elim, fun h => h.elim⟩
        · intro D a w hD hF hSw
          obtain ⟨t0, t3, t4, ha, hg, f0, f3, b4, h5⟩ := hF
          subst ha
          (try simp only [Act.put, qA, qB, qC])
          have A1 := BigAt.of (h5 (hD 5 (by simp))).2.2 (f3 (hD 3 (by simp)))
          clear f0 f3 b4 h5 hD hSw
          go_wp2
          go_meet
          case rel => exact ⟨A1, hg⟩
        refine StepI.cons (i := 0) (o := { dst := some 16, op := Op.call { callee := Callee.value (Operand.func 67), args := #[Operand.const (Value.int IntKind.i64 41)], argTypes := #[3] }, type := 53, pos := "ref.go:22", after := #[], guard := none }) (ns := []) rfl (by kernel_rfl) (fun D a w nD hn hF hSw K hK => ?_) ?_
        · obtain ⟨t0, t3, t4, ha, hg, f0, f3, b4, h5⟩ := hF
          subst ha
          (try simp only [Act.put, qA, qB, qC])
          go_simp
          refine (CT _).mono ?_
          rintro e w1 ⟨q, rfl, hq, hg1⟩
          (try go_wp2_with fail)
          refine hK.out _ _ (SO _ (hg.trans hg1)) (fun _ => ?_)
          refine ⟨q, t3, t4, by (simp only [Act.put, qA, qB, qC]); try rfl, (hg.trans hg1), ?_, ?_, ?_, ?_⟩
          · exact fun _ => hq
          · exact fun h => (f3 (Or.resolve_left h (by decide))).gr hg1
          · exact fun h => (b4 (Or.resolve_left h (by decide))).gr hg1
          · exact fun h => (h5 (Or.resolve_left h (by decide))).imp Or.inr (fun ⟨x1, c0, c1, x2, x3⟩ => ⟨Or.inr x1, c0, c1, x2, x3.gr hg1⟩)
        refine StepI.cons (i := 3) (o := { dst := some 19, op := Op.call { callee := Callee.value (Operand.func 40), args := #[Operand.tmp 16, Operand.tmp 18], argTypes := #[53, 53] }, type := 53, pos := "ref.go:22", after := #[{ on := 0, ground := Ground.data }, { on := 2, ground := Ground.data }, { on := 0, ground := Ground.chain }], guard := none }) (ns := [0, 0]) rfl (by kernel_rfl) (fun D a w nD hn hF hSw K hK => ?_) ?_
        · obtain ⟨t0, t3, t4, ha, hg, f0, f3, b4, h5⟩ := hF
          have d0 : D 0 := hn 0 (by simp)
          have d0 : D 0 := hn 0 (by simp)
          subst ha
          (try simp only [Act.put, qA, qB, qC])
          go_simp
          refine (CM' _ _ (f0 d0) hg).mono ?_
          rintro e w1 ⟨q, rfl, hq, hg1⟩
          (try go_wp2_with fail)
          refine hK.out _ _ (SO _ (hg.trans hg1)) (fun _ => ?_)
          refine ⟨t0, q, t4, by (simp only [Act.put, qA, qB, qC]); try rfl, (hg.trans hg1), ?_, ?_, ?_, ?_⟩
          · exact fun h => (f0 (Or.resolve_left h (by decide))).gr hg1
          · exact fun _ => hq
          · exact fun h => (b4 (Or.resolve_left h (by decide))).gr hg1
          · exact fun h => absurd (h5 (Or.resolve_left h (by decide))).2.1 nD
        refine StepI.cons (i := 4) (o := { dst := some 3, op := Op.alloc 53, type := 0, pos := "ref.go:22", after := #[], guard := none }) (ns := []) rfl (by kernel_rfl) (fun D a w nD hn hF hSw K hK => ?_) ?_
        · obtain ⟨t0, t3, t4, ha, hg, f0, f3, b4, h5⟩ := hF
          subst ha
          (try simp only [Act.put, qA, qB, qC])
          go_simp
          refine hK.out _ _ (SO _ (hg.alloc _)) (fun _ => ?_)
          refine ⟨t0, t3, _, by (simp only [Act.put, qA, qB, qC]); try rfl, (hg.alloc _), ?_, ?_, ?_, ?_⟩
          · exact fun h => (f0 (Or.resolve_left h (by decide))).gr ((IsGr.refl _).alloc _)
          · exact fun h => (f3 (Or.resolve_left h (by decide))).gr ((IsGr.refl _).alloc _)
          · exact fun _ => Bx.lay hg (by simp [bigCells])
          · exact fun h => absurd (h5 (Or.resolve_left h (by decide))).1 nD
        refine StepI.cons (i := 5) (o := { dst := none, op := Op.store 53 (Operand.tmp 3) (Operand.tmp 19), type := 0, pos := "ref.go:22", after := #[{ on := 4, ground := Ground.data }, { on := 3, ground := Ground.data }, { on := 3, ground := Ground.chain }, { on := 0, ground := Ground.phase }, { on := 1, ground := Ground.phase }, { on := 2, ground := Ground.phase }, { on := 3, ground := Ground.phase }, { on := 4, ground := Ground.phase }], guard := none }) (ns := [4, 3, 3, 0, 3, 4]) rfl (by kernel_rfl) (fun D a w nD hn hF hSw K hK => ?_) ?_
        · obtain ⟨t0, t3, t4, ha, hg, f0, f3, b4, h5⟩ := hF
          have d4 : D 4 := hn 4 (by simp)
          have d3 : D 3 := hn 3 (by simp)
          have d3 : D 3 := hn 3 (by simp)
          have d0 : D 0 := hn 0 (by simp)
          have d3 : D 3 := hn 3 (by simp)
          have d4 : D 4 := hn 4 (by simp)
          obtain ⟨z0, z1, hz0⟩ : ∃ z0 z1 : Value, t3 = .agg #[z0, z1] ∧ bigCells z0 z1 := big_cells (f3 d3)
          obtain ⟨hz0, hz1⟩ := hz0
          obtain ⟨bb, y0, y1, hb0, hb1, hb2, hb3⟩ := b4 d4
          obtain ⟨k1, k2, k3, k4, k5⟩ := block_cells hb2
          have hz2 := hz1
          obtain ⟨zs, za, zn, zc, rfl, rfl⟩ := hz1
          subst hz0
          subst hb0
          subst ha
          (try simp only [Act.put, qA, qB, qC])
          go_simp
          refine hK.out _ _ (SO _ (put2_gr hg hb1)) (fun _ => ?_)
          refine ⟨t0, (.agg #[.bool zs, .slice za zn zc]), (.pointer (some ⟨bb, 0, none⟩)), by (simp only [Act.put, qA, qB, qC]); try rfl, (put2_gr hg hb1), ?_, ?_, ?_, ?_⟩
          · exact fun h => (f0 (Or.resolve_left h (by decide))).kb (put2_kb hb2 hb3)
          · exact fun h => (f3 (Or.resolve_left h (by decide))).kb (put2_kb hb2 hb3)
          · exact fun h => put2_bx hb2 hz2 (b4 (Or.resolve_left h (by decide)))
          · exact fun _ => ⟨Or.inr d4, Or.inr d3, _, _, rfl, put2_new hb2⟩
        exact StepI.nil
      case rest =>
        obtain ⟨A3, hgr⟩ := hcut
        obtain ⟨W2, hW9⟩ : ∃ W2, W2 = wc := ⟨_, rfl⟩
        subst hW9
        have q0 := SO _ hgr
        replace k0 : w.heap.size + 1 ≤ W2.heap.size := Nat.le_trans k0 hgr.size
        replace HG : Hid (IsGr w W2) := HG.out.trans hgr
        clear SO hgr CT CM'
        obtain ⟨g3, s3, a3, n3, c3, rfl, k3, u3, u3', B3⟩ := A3
        go_upto_region 4 with fail
        go_cut [4] (fun t4 wr => BigAt wr t4 N ∧ IsGr W2 wr)
        case first =>
          go_wp2_with fail
          refine (CN _ _ (B3.gr ?_)).mono ?_
          · exact (by with_reducible repeat (first | exact IsGr.refl _ | refine IsGr.gr ?_ _ _ | refine IsGr.alloc ?_ _ | refine IsGr.drew ?_ | refine IsGr.drewN ?_ _))
          rintro e w1 ⟨q, rfl, hq, os1, dr1, rfl⟩
          obtain ⟨qs, qa, qn, qc, rfl⟩ := hq.shape
          go_wp2
          go_meet
          case rel =>
            refine ⟨⟨_, _, _, _, _, rfl, ?_, ?_, ?_, hq.gr (by with_reducible repeat (first | exact IsGr.refl _ | refine IsGr.gr ?_ _ _ | refine IsGr.alloc ?_ _ | refine IsGr.drew ?_ | refine IsGr.drewN ?_ _))⟩, (by with_reducible repeat (first | exact IsGr.refl _ | refine IsGr.gr ?_ _ _ | refine IsGr.alloc ?_ _ | refine IsGr.drew ?_ | refine IsGr.drewN ?_ _))⟩
            · first | omega | (simp; done) | (simp; omega) | (simp [Gr.size]; done) | (simp [Gr.size]; omega)
            · simp [go_sem]
            · simp [go_sem]
        case rest =>
          obtain ⟨A4, hgr⟩ := hcut
          obtain ⟨W3, hW9⟩ : ∃ W3, W3 = wc := ⟨_, rfl⟩
          subst hW9
          replace HG : Hid (IsGr w W3) := HG.out.trans hgr
          replace q0 : (W3.cell? ⟨w.heap.size, 0, none⟩ = some (.bool xs) ∧ W3.cell? ⟨w.heap.size, 1, none⟩ = some (.slice xa xn xc) ∧ W3.cell? ⟨w.heap.size, 2, none⟩ = some (.bool ys) ∧ W3.cell? ⟨w.heap.size, 3, none⟩ = some (.slice ya yn yc) ∧ W3.cell? ⟨w.heap.size, 4, none⟩ = some (.bool zs) ∧ W3.cell? ⟨w.heap.size, 5, none⟩ = some (.slice za zn zc)) := ⟨hgr.cell_at (by omega) q0.1, hgr.cell_at (by omega) q0.2.1, hgr.cell_at (by omega) q0.2.2.1, hgr.cell_at (by omega) q0.2.2.2.1, hgr.cell_at (by omega) q0.2.2.2.2.1, hgr.cell_at (by omega) q0.2.2.2.2.2⟩
          replace k0 : w.heap.size + 1 ≤ W3.heap.size := Nat.le_trans k0 hgr.size
          replace u3 := hgr.cell_at k3 u3
          replace u3' := hgr.cell_at k3 u3'
          replace k3 : g3 < W3.heap.size := Nat.lt_of_lt_of_le k3 hgr.size
          replace B3 := B3.gr hgr
          obtain ⟨g4, s4, a4, n4, c4, rfl, k4, u4, u4', B4⟩ := A4
          obtain ⟨o0, o1, o2, o3, o4, o5⟩ := q0
          have k0' : w.heap.size < W3.heap.size := by omega
          clear hgr CN
          have hgw := HG.out
          have X1 := fun w1 (hg : IsGr W3 w1) => K1 w1 (hgw.trans hg) _ (B4.gr hg)
          have X2 := fun w1 (hg : IsGr W3 w1) => K2 w1 (hgw.trans hg) _ (B3.gr hg)
          have X3 := fun w1 (hg : IsGr W3 w1) => K3 w1 (hgw.trans hg) _ (B4.gr hg)
          have X4 := fun w1 (hg : IsGr W3 w1) => K4 w1 (hgw.trans hg) _ (B3.gr hg)
          clear K1 K2 K3 K4 hgw B3 B4
          by_cases h1 : 0 ≤ E1
          · by_cases h2 : E2 ≤ 0
            · by_cases h3 : 0 ≤ E3
              · have HR : Hid (decide (E4 ≤ 0) = B0) := by unfold Hid; rw [hB0]; simp [h1, h2, h3]
                clear hB0
                go_wp2_with fail
                refine (X1 _ ?_).mono ?_
                · exact (by with_reducible repeat (first | exact IsGr.refl _ | refine IsGr.gr ?_ _ _ | refine IsGr.alloc ?_ _ | refine IsGr.drew ?_ | refine IsGr.drewN ?_ _))
                rintro e w1 ⟨rfl, os5, dr5, rfl⟩
                go_wp2_with fail
                refine (X2 _ ?_).mono ?_
                · exact (by with_reducible repeat (first | exact IsGr.refl _ | refine IsGr.gr ?_ _ _ | refine IsGr.alloc ?_ _ | refine IsGr.drew ?_ | refine IsGr.drewN ?_ _))
                rintro e w1 ⟨rfl, os6, dr6, rfl⟩
                go_wp2_with fail
                refine (X3 _ ?_).mono ?_
                · exact (by with_reducible repeat (first | exact IsGr.refl _ | refine IsGr.gr ?_ _ _ | refine IsGr.alloc ?_ _ | refine IsGr.drew ?_ | refine IsGr.drewN ?_ _))
                rintro e w1 ⟨rfl, os7, dr7, rfl⟩
                go_wp2_with fail
                refine (X4 _ ?_).mono ?_
                · exact (by with_reducible repeat (first | exact IsGr.refl _ | refine IsGr.gr ?_ _ _ | refine IsGr.alloc ?_ _ | refine IsGr.drew ?_ | refine IsGr.drewN ?_ _))
                rintro e w1 ⟨rfl, os8, dr8, rfl⟩
                go_wp2
                go_ret
                exact ⟨ret_bool HR.out, HG.out.trans (by with_reducible repeat (first | exact IsGr.refl _ | refine IsGr.gr ?_ _ _ | refine IsGr.alloc ?_ _ | refine IsGr.drew ?_ | refine IsGr.drewN ?_ _))⟩
              · have HR : Hid (false = B0) := by unfold Hid; rw [hB0]; simp [h3]
                clear hB0
                go_wp2_with fail
                refine (X1 _ ?_).mono ?_
                · exact (by with_reducible repeat (first | exact IsGr.refl _ | refine IsGr.gr ?_ _ _ | refine IsGr.alloc ?_ _ | refine IsGr.drew ?_ | refine IsGr.drewN ?_ _))
                rintro e w1 ⟨rfl, os5, dr5, rfl⟩
                go_wp2_with fail
                refine (X2 _ ?_).mono ?_
                · exact (by with_reducible repeat (first | exact IsGr.refl _ | refine IsGr.gr ?_ _ _ | refine IsGr.alloc ?_ _ | refine IsGr.drew ?_ | refine IsGr.drewN ?_ _))
                rintro e w1 ⟨rfl, os6, dr6, rfl⟩
                go_wp2_with fail
                refine (X3 _ ?_).mono ?_
                · exact (by with_reducible repeat (first | exact IsGr.refl _ | refine IsGr.gr ?_ _ _ | refine IsGr.alloc ?_ _ | refine IsGr.drew ?_ | refine IsGr.drewN ?_ _))
                rintro e w1 ⟨rfl, os7, dr7, rfl⟩
                go_wp2
                go_ret
                exact ⟨ret_bool HR.out, HG.out.trans (by with_reducible repeat (first | exact IsGr.refl _ | refine IsGr.gr ?_ _ _ | refine IsGr.alloc ?_ _ | refine IsGr.drew ?_ | refine IsGr.drewN ?_ _))⟩
            · have HR : Hid (false = B0) := by unfold Hid; rw [hB0]; simp [h2]
              clear hB0
              go_wp2_with fail
              refine (X1 _ ?_).mono ?_
              · exact (by with_reducible repeat (first | exact IsGr.refl _ | refine IsGr.gr ?_ _ _ | refine IsGr.alloc ?_ _ | refine IsGr.drew ?_ | refine IsGr.drewN ?_ _))
              rintro e w1 ⟨rfl, os5, dr5, rfl⟩
              go_wp2_with fail
              refine (X2 _ ?_).mono ?_
              · exact (by with_reducible repeat (first | exact IsGr.refl _ | refine IsGr.gr ?_ _ _ | refine IsGr.alloc ?_ _ | refine IsGr.drew ?_ | refine IsGr.drewN ?_ _))
              rintro e w1 ⟨rfl, os6, dr6, rfl⟩
              go_wp2
              go_ret
              exact ⟨ret_bool HR.out, HG.out.trans (by with_reducible repeat (first | exact IsGr.refl _ | refine IsGr.gr ?_ _ _ | refine IsGr.alloc ?_ _ | refine IsGr.drew ?_ | refine IsGr.drewN ?_ _))⟩
          · have HR : Hid (false = B0) := by unfold Hid; rw [hB0]; simp [h1]
            clear hB0
            go_wp2_with fail
            refine (X1 _ ?_).mono ?_
            · exact (by with_reducible repeat (first | exact IsGr.refl _ | refine IsGr.gr ?_ _ _ | refine IsGr.alloc ?_ _ | refine IsGr.drew ?_ | refine IsGr.drewN ?_ _))
            rintro e w1 ⟨rfl, os5, dr5, rfl⟩
            go_wp2
            go_ret
            exact ⟨ret_bool HR.out, HG.out.trans (by with_reducible repeat (first | exact IsGr.refl _ | refine IsGr.gr ?_ _ _ | refine IsGr.alloc ?_ _ | refine IsGr.drew ?_ | refine IsGr.drewN ?_ _))⟩
    · rw [e2] at CC
      rw [show decide (1 ≤ z ∧ z ≤ 1237940039285380274899124224) = true by simp; omega, Bool.true_and] at hB0
      clear g1 g2 e1 e2
      go_enter Try.func26, Try.ntmps26
      go_upto_region 1 with fail
      obtain ⟨C, hin, hcl, hcells, hgr⟩ : ∃ C : World → Prop, (∀ w', w.heap.size + 1 ≤ w'.heap.size ∧ IsGr w w' ∧ (w'.cell? ⟨w.heap.size, 0, none⟩ = some (.bool xs) ∧ w'.cell? ⟨w.heap.size, 1, none⟩ = some (.slice xa xn xc) ∧ w'.cell? ⟨w.heap.size, 2, none⟩ = some (.bool ys) ∧ w'.cell? ⟨w.heap.size, 3, none⟩ = some (.slice ya yn yc) ∧ w'.cell? ⟨w.heap.size, 4, none⟩ = some (.bool zs) ∧ w'.cell? ⟨w.heap.size, 5, none⟩ = some (.slice za zn zc)) → C w') ∧ (∀ u u', C u → IsGr u u' → C u') ∧ (∀ w', C w' → (w'.cell? ⟨w.heap.size, 0, none⟩ = some (.bool xs) ∧ w'.cell? ⟨w.heap.size, 1, none⟩ = some (.slice xa xn xc) ∧ w'.cell? ⟨w.heap.size, 2, none⟩ = some (.bool ys) ∧ w'.cell? ⟨w.heap.size, 3, none⟩ = some (.slice ya yn yc) ∧ w'.cell? ⟨w.heap.size, 4, none⟩ = some (.bool zs) ∧ w'.cell? ⟨w.heap.size, 5, none⟩ = some (.slice za zn zc))) ∧ (∀ w', C w' → IsGr w w' ∧ w.heap.size + 1 ≤ w'.heap.size) := by
        refine ⟨fun w' => w.heap.size + 1 ≤ w'.heap.size ∧ IsGr w w' ∧ (w'.cell? ⟨w.heap.size, 0, none⟩ = some (.bool xs) ∧ w'.cell? ⟨w.heap.size, 1, none⟩ = some (.slice xa xn xc) ∧ w'.cell? ⟨w.heap.size, 2, none⟩ = some (.bool ys) ∧ w'.cell? ⟨w.heap.size, 3, none⟩ = some (.slice ya yn yc) ∧ w'.cell? ⟨w.heap.size, 4, none⟩ = some (.bool zs) ∧ w'.cell? ⟨w.heap.size, 5, none⟩ = some (.slice za zn zc)), fun w' h => h, ?_, fun w' h => h.2.2, fun w' h => ⟨h.2.1, h.1⟩⟩
        rintro u u' ⟨h0, h1, h2⟩ hg
        refine ⟨Nat.le_trans h0 hg.size, h1.trans hg, ?_⟩
        exact ⟨hg.cell_at (by omega) h2.1, hg.cell_at (by omega) h2.2.1, hg.cell_at (by omega) h2.2.2.1, hg.cell_at (by omega) h2.2.2.2.1, hg.cell_at (by omega) h2.2.2.2.2.1, hg.cell_at (by omega) h2.2.2.2.2.2⟩
      refine wp_region_held_drew (S := C) (by kernel_rfl) (by (try dsimp only); exact hin _ ⟨by first | omega | (simp; done) | (simp; omega), (by with_reducible repeat (first | exact IsGr.refl _ | refine IsGr.gr ?_ _ _ | refine IsGr.alloc ?_ _ | refine IsGr.drew ?_ | refine IsGr.drewN ?_ _)), by simp [go_sem]⟩) (fun hHeld => ?_)
      refine wpAnyH_take (i := 0) (oi := { dst := some 5, op := Op.fieldAddr 55 (Operand.tmp 1) 2, type := 0, pos := "ref.go:19", after := #[], guard := none }) (v := ?_) rfl (by kernel_rfl) (by kernel_rfl) (by kernel_rfl) (fun _ _ _ h => h) (Or.inl ⟨by rfl, ?_⟩) (by assumption) ?_
      rotate_left
      · (intro w hSw; (try dsimp only at hSw); (try have hcs := hcells w hSw); (try go_split_ands); go_simp <;> with_reducible rfl)
      (try simp only [Act.put, qA, qB, qC])
      refine wpAnyH_take (i := 1) (oi := { dst := some 6, op := Op.load 53 (Operand.tmp 5), type := 53, pos := "ref.go:19", after := #[{ on := 0, ground := Ground.data }], guard := none }) (v := ?_) rfl (by kernel_rfl) (by kernel_rfl) (by kernel_rfl) (fun _ _ _ h => h) (Or.inl ⟨by rfl, ?_⟩) (by assumption) ?_
      rotate_left
      · (intro w hSw; (try dsimp only at hSw); (try have hcs := hcells w hSw); (try go_split_ands); go_simp <;> with_reducible rfl)
      (try simp only [Act.put, qA, qB, qC])
      refine wpAnyH_ready (rs := [2]) (by kernel_rfl) (by simp) ?_
      refine AllReadyH.cons (o := { dst := some 7, op := Op.call { callee := Callee.value (Operand.func 42), args := #[Operand.tmp 6], argTypes := #[53] }, type := 3, pos := "ref.go:19", after := #[{ on := 1, ground := Ground.data }], guard := none }) rfl (fun K hK => ?_) AllReadyH.nil
      go_simp
      refine (CS _ (hgr _ hHeld).1).mono ?_
      rintro e w2 ⟨rfl, hg2⟩
      (try go_wp2_with fail)
      refine hK.out _ _ (by (try dsimp only); exact hcl _ _ hHeld (by first | with_reducible assumption | with_reducible exact IsGr.refl _ | with_reducible exact (IsGr.refl _).alloc _ | with_reducible exact ((IsGr.refl _).alloc _).alloc _ | assumption)) (fun hHeld2 => ?_)
      clear hK K hHeld
      have hHeld := hHeld2
      clear hHeld2
      (try simp only [Act.put, qA, qB, qC])
      refine wpAnyH_take (i := 3) (oi := { dst := some 8, op := Op.binOp BinOp.leq 3 (Operand.tmp 7) (Operand.const (Value.int IntKind.i64 0)) 3, type := 4, pos := "ref.go:19", after := #[{ on := 2, ground := Ground.data }], guard := none }) (v := ?_) rfl (by kernel_rfl) (by kernel_rfl) (by kernel_rfl) (fun _ _ _ h => h) (Or.inl ⟨by rfl, ?_⟩) (by assumption) ?_
      rotate_left
      · (intro w hSw; (try dsimp only at hSw); (try have hcs := hcells w hSw); (try go_split_ands); go_simp <;> with_reducible rfl)
      (try simp only [Act.put, qA, qB, qC])
      refine wpAnyH_take (i := 4) (oi := { dst := some 9, op := Op.move (Operand.tmp 8), type := 4, pos := "ref.go:19", after := #[{ on := 3, ground := Ground.data }, { on := 2, ground := Ground.chain }], guard := none }) (v := ?_) rfl (by kernel_rfl) (by kernel_rfl) (by kernel_rfl) (fun _ _ _ h => h) (Or.inl ⟨by rfl, ?_⟩) (by assumption) ?_
      rotate_left
      · (intro w hSw; (try dsimp only at hSw); (try have hcs := hcells w hSw); (try go_split_ands); go_simp <;> with_reducible rfl)
      (try simp only [Act.put, qA, qB, qC])
      refine wpAnyH_take (i := 5) (oi := { dst := some 10, op := Op.fieldAddr 55 (Operand.tmp 1) 2, type := 0, pos := "ref.go:19", after := #[{ on := 4, ground := Ground.guard }], guard := some (4, false) }) (v := ?_) rfl (by kernel_rfl) (by kernel_rfl) (by kernel_rfl) (fun _ _ _ h => h) (Or.inl ⟨by rfl, ?_⟩) (by assumption) ?_
      rotate_left
      · (intro w hSw; (try dsimp only at hSw); (try have hcs := hcells w hSw); (try go_split_ands); go_simp <;> with_reducible rfl)
      (try simp only [Act.put, qA, qB, qC])
      refine wpAnyH_take (i := 6) (oi := { dst := some 11, op := Op.load 53 (Operand.tmp 10), type := 53, pos := "ref.go:19", after := #[{ on := 5, ground := Ground.data }, { on := 4, ground := Ground.guard }], guard := some (4, false) }) (v := ?_) rfl (by kernel_rfl) (by kernel_rfl) (by kernel_rfl) (fun _ _ _ h => h) (Or.inl ⟨by rfl, ?_⟩) (by assumption) ?_
      rotate_left
      · (intro w hSw; (try dsimp only at hSw); (try have hcs := hcells w hSw); (try go_split_ands); go_simp <;> with_reducible rfl)
      (try simp only [Act.put, qA, qB, qC])
      refine wpAnyH_ready (rs := [7]) (by kernel_rfl) (by simp) ?_
      refine AllReadyH.cons (o := { dst := some 12, op := Op.call { callee := Callee.value (Operand.func 67), args := #[Operand.const (Value.int IntKind.i64 90)], argTypes := #[3] }, type := 53, pos := "ref.go:19", after := #[{ on := 4, ground := Ground.chain }, { on := 4, ground := Ground.guard }], guard := some (4, false) }) rfl (fun K hK => ?_) AllReadyH.nil
      go_simp
      refine (CP _).mono ?_
      rintro e w3 ⟨P, rfl, hP, hg3⟩
      obtain ⟨Ps, Pa, Pn, Pc, rfl⟩ := hP.shape
      (try go_wp2_with fail)
      refine hK.out _ _ (by (try dsimp only); exact hcl _ _ hHeld (by first | with_reducible assumption | with_reducible exact IsGr.refl _ | with_reducible exact (IsGr.refl _).alloc _ | with_reducible exact ((IsGr.refl _).alloc _).alloc _ | assumption)) (fun hHeld2 => ?_)
      clear hK K hHeld
      have hHeld := hHeld2
      clear hHeld2
      (try simp only [Act.put, qA, qB, qC])
      refine wpAnyH_ready (rs := [8]) (by kernel_rfl) (by simp) ?_
      refine AllReadyH.cons (o := { dst := some 13, op := Op.call { callee := Callee.value (Operand.func 66), args := #[Operand.tmp 11, Operand.tmp 12], argTypes := #[53, 53] }, type := 3, pos := "ref.go:19", after := #[{ on := 6, ground := Ground.data }, { on := 7, ground := Ground.data }, { on := 7, ground := Ground.chain }, { on := 4, ground := Ground.guard }], guard := some (4, false) }) rfl (fun K hK => ?_) AllReadyH.nil
      go_simp
      refine (CC _ _ hP (hgr _ hHeld).1).mono ?_
      rintro e w4 ⟨rfl, hg4⟩
      (try go_wp2_with fail)
      refine hK.out _ _ (by (try dsimp only); exact hcl _ _ hHeld (by first | with_reducible assumption | with_reducible exact IsGr.refl _ | with_reducible exact (IsGr.refl _).alloc _ | with_reducible exact ((IsGr.refl _).alloc _).alloc _ | assumption)) (fun hHeld2 => ?_)
      clear hK K hHeld
      have hHeld := hHeld2
      clear hHeld2
      (try simp only [Act.put, qA, qB, qC])
      refine wpAnyH_take (i := 9) (oi := { dst := some 14, op := Op.binOp BinOp.gtr 3 (Operand.tmp 13) (Operand.const (Value.int IntKind.i64 0)) 3, type := 4, pos := "ref.go:19", after := #[{ on := 8, ground := Ground.data }, { on := 4, ground := Ground.guard }], guard := some (4, false) }) (v := ?_) rfl (by kernel_rfl) (by kernel_rfl) (by kernel_rfl) (fun _ _ _ h => h) (Or.inl ⟨by rfl, ?_⟩) (by assumption) ?_
      rotate_left
      · (intro w hSw; (try dsimp only at hSw); (try have hcs := hcells w hSw); (try go_split_ands); go_simp <;> with_reducible rfl)
      (try simp only [Act.put, qA, qB, qC])
      refine wpAnyH_take (i := 10) (oi := { dst := some 15, op := Op.pick (Operand.tmp 9) (Operand.const (Value.bool true)) (Operand.tmp 14), type := 4, pos := "ref.go:19", after := #[{ on := 4, ground := Ground.data }, { on := 9, ground := Ground.data }], guard := none }) (v := ?_) rfl (by kernel_rfl) (by kernel_rfl) (by kernel_rfl) (fun _ _ _ h => h) (Or.inl ⟨by rfl, ?_⟩) (by assumption) ?_
      rotate_left
      · (intro w hSw; (try dsimp only at hSw); (try have hcs := hcells w hSw); (try go_split_ands); go_simp <;> with_reducible rfl)
      (try simp only [Act.put, qA, qB, qC])
      refine wpAnyH_done (by kernel_rfl) ?_ _
      clear CS CP CC hP
      have SO : ∀ w', IsGr w4 w' → (w'.cell? ⟨w.heap.size, 0, none⟩ = some (.bool xs) ∧ w'.cell? ⟨w.heap.size, 1, none⟩ = some (.slice xa xn xc) ∧ w'.cell? ⟨w.heap.size, 2, none⟩ = some (.bool ys) ∧ w'.cell? ⟨w.heap.size, 3, none⟩ = some (.slice ya yn yc) ∧ w'.cell? ⟨w.heap.size, 4, none⟩ = some (.bool zs) ∧ w'.cell? ⟨w.heap.size, 5, none⟩ = some (.slice za zn zc)) := fun w' hg => hcells w' (hcl _ _ hHeld hg)
      have HG : Hid (IsGr w w4) := (hgr _ hHeld).1
      have hgw := (hgr _ hHeld).1
      have k0 : w.heap.size + 1 ≤ w4.heap.size := (hgr _ hHeld).2
      have CM' := fun w1 u (h : IsBig w1 u 2199023255552) (hg : IsGr w4 w1) => CM w1 u h (hgw.trans hg)
      clear hcells hin hcl hgr hHeld CM hgw
      go_upto_region 3 with fail
      go_cut [3] (fun t3 wr => BigAt wr t3 M ∧ IsGr w4 wr)
      case first => as_aux_lemma =>
        refine wp_region_held_drew (S := (fun w' => (w'.cell? ⟨w.heap.size, 0, none⟩ = some (.bool xs) ∧ w'.cell? ⟨w.heap.size, 1, none⟩ = some (.slice xa xn xc) ∧ w'.cell? ⟨w.heap.size, 2, none⟩ = some (.bool ys) ∧ w'.cell? ⟨w.heap.size, 3, none⟩ = some (.slice ya yn yc) ∧ w'.cell? ⟨w.heap.size, 4, none⟩ = some (.bool zs) ∧ w'.cell? ⟨w.heap.size, 5, none⟩ = some (.slice za zn zc)))) (by kernel_rfl) (by (try dsimp only); exact SO _ (by with_reducible repeat (first | exact IsGr.refl _ | refine IsGr.gr ?_ _ _ | refine IsGr.alloc ?_ _ | refine IsGr.drew ?_ | refine IsGr.drewN ?_ _))) (fun hHeld => ?_)
        refine wpAnyH_take (i := 1) (oi := { dst := some 17, op := Op.fieldAddr 55 (Operand.tmp 1) 2, type := 0, pos := "ref.go:22", after := #[], guard := none }) (v := ?_) rfl (by kernel_rfl) (by kernel_rfl) (by kernel_rfl) (fun _ _ _ h => h) (Or.inl ⟨by rfl, ?_⟩) (by assumption) ?_
        rotate_left
        · (intro w hSw; (try dsimp only at hSw); go_simp <;> with_reducible rfl)
        (try simp only [Act.put, qA, qB, qC])
        refine wpAnyH_take (i := 2) (oi := { dst := some 18, op := Op.load 53 (Operand.tmp 17), type := 53, pos := "ref.go:22", after := #[{ on := 1, ground := Ground.data }], guard := none }) (v := ?_) rfl (by kernel_rfl) (by kernel_rfl) (by kernel_rfl) (fun _ _ _ h => h) (Or.inl ⟨by rfl, ?_⟩) (by assumption) ?_
        rotate_left
        · (intro w hSw; (try dsimp only at hSw); go_simp <;> with_reducible rfl)
        (try simp only [Act.put, qA, qB, qC])
        refine wpAnyH_invA [0, 3, 4, 5] (fun A D a w => ∃ t0 t3 t4 : Value, a = (((A.put (some 16) t0).put (some 19) t3).put (some 3) t4) ∧ IsGr w4 w ∧ (D 0 → IsBig w t0 (2199023255552)) ∧ (D 3 → IsBig w t3 (M)) ∧ (D 4 → Bx w4 w 53 bigCells t4) ∧ (D 5 → D 4 ∧ D 3 ∧ ∃ c0 c1 : Value, t3 = .agg #[c0, c1] ∧ Hx w 53 t4 c0 c1)) (by kernel_rfl) (by assumption) ?_ ?_ ?_
        · exact ⟨_, _, _, by (simp only [Act.put, qA, qB, qC]); try rfl, (by with_reducible repeat (first | exact IsGr.refl _ | refine IsGr.gr ?_ _ _ | refine IsGr.alloc ?_ _ | refine IsGr.drew ?_ | refine IsGr.drewN ?_ _)), fun h => h.elim, fun h => h.elim, fun h => h.elim, fun h => h.elim⟩
        · intro D a w hD hF hSw
          obtain ⟨t0, t3, t4, ha, hg, f0, f3, b4, h5⟩ := hF
          subst ha
          (try simp only [Act.put, qA, qB, qC])
          have A1 := BigAt.of (h5 (hD 5 (by simp))).2.2 (f3 (hD 3 (by simp)))
          clear f0 f3 b4 h5 hD hSw
          go_wp2
          go_meet
          case rel => exact ⟨A1, hg⟩
        refine StepI.cons (i := 0) (o := { dst := some 16, op := Op.call { callee := Callee.value (Operand.func 67), args := #[Operand.const (Value.int IntKind.i64 41)], argTypes := #[3] }, type := 53, pos := "ref.go:22", after := #[], guard := none }) (ns := []) rfl (by kernel_rfl) (fun D a w nD hn hF hSw K hK => ?_) ?_
        · obtain ⟨t0, t3, t4, ha, hg, f0, f3, b4, h5⟩ := hF
          subst ha
          (try simp only [Act.put, qA, qB, qC])
          go_simp
          refine (CT _).mono ?_
          rintro e w1 ⟨q, rfl, hq, hg1⟩
          (try go_wp2_with fail)
          refine hK.out _ _ (SO _ (hg.trans hg1)) (fun _ => ?_)
          refine ⟨q, t3, t4, by (simp only [Act.put, qA, qB, qC]); try rfl, (hg.trans hg1), ?_, ?_, ?_, ?_⟩
          · exact fun _ => hq
          · exact fun h => (f3 (Or.resolve_left h (by decide))).gr hg1
          · exact fun h => (b4 (Or.resolve_left h (by decide))).gr hg1
          · exact fun h => (h5 (Or.resolve_left h (by decide))).imp Or.inr (fun ⟨x1, c0, c1, x2, x3⟩ => ⟨Or.inr x1, c0, c1, x2, x3.gr hg1⟩)
        refine StepI.cons (i := 3) (o := { dst := some 19, op := Op.call { callee := Callee.value (Operand.func 40), args := #[Operand.tmp 16, Operand.tmp 18], argTypes := #[53, 53] }, type := 53, pos := "ref.go:22", after := #[{ on := 0, ground := Ground.data }, { on := 2, ground := Ground.data }, { on := 0, ground := Ground.chain }], guard := none }) (ns := [0, 0]) rfl (by kernel_rfl) (fun D a w nD hn hF hSw K hK => ?_) ?_
        · obtain ⟨t0, t3, t4, ha, hg, f0, f3, b4, h5⟩ := hF
          have d0 : D 0 := hn 0 (by simp)
          have d0 : D 0 := hn 0 (by simp)
          subst ha
          (try simp only [Act.put, qA, qB, qC])
          go_simp
          refine (CM' _ _ (f0 d0) hg).mono ?_
          rintro e w1 ⟨q, rfl, hq, hg1⟩
          (try go_wp2_with fail)
          refine hK.out _ _ (SO _ (hg.trans hg1)) (fun _ => ?_)
          refine ⟨t0, q, t4, by (simp only [Act.put, qA, qB, qC]); try rfl, (hg.trans hg1), ?_, ?_, ?_, ?_⟩
          · exact fun h => (f0 (Or.resolve_left h (by decide))).gr hg1
          · exact fun _ => hq
          · exact fun h => (b4 (Or.resolve_left h (by decide))).gr hg1
          · exact fun h => absurd (h5 (Or.resolve_left h (by decide))).2.1 nD
        refine StepI.cons (i := 4) (o := { dst := some 3, op := Op.alloc 53, type := 0, pos := "ref.go:22", after := #[], guard := none }) (ns := []) rfl (by kernel_rfl) (fun D a w nD hn hF hSw K hK => ?_) ?_
        · obtain ⟨t0, t3, t4, ha, hg, f0, f3, b4, h5⟩ := hF
          subst ha
          (try simp only [Act.put, qA, qB, qC])
          go_simp
          refine hK.out _ _ (SO _ (hg.alloc _)) (fun _ => ?_)
          refine ⟨t0, t3, _, by (simp only [Act.put, qA, qB, qC]); try rfl, (hg.alloc _), ?_, ?_, ?_, ?_⟩
          · exact fun h => (f0 (Or.resolve_left h (by decide))).gr ((IsGr.refl _).alloc _)
          · exact fun h => (f3 (Or.resolve_left h (by decide))).gr ((IsGr.refl _).alloc _)
          · exact fun _ => Bx.lay hg (by simp [bigCells])
          · exact fun h => absurd (h5 (Or.resolve_left h (by decide))).1 nD
        refine StepI.cons (i := 5) (o := { dst := none, op := Op.store 53 (Operand.tmp 3) (Operand.tmp 19), type := 0, pos := "ref.go:22", after := #[{ on := 4, ground := Ground.data }, { on := 3, ground := Ground.data }, { on := 3, ground := Ground.chain }, { on := 0, ground := Ground.phase }, { on := 1, ground := Ground.phase }, { on := 2, ground := Ground.phase }, { on := 3, ground := Ground.phase }, { on := 4, ground := Ground.phase }], guard := none }) (ns := [4, 3, 3, 0, 3, 4]) rfl (by kernel_rfl) (fun D a w nD hn hF hSw K hK => ?_) ?_
        · obtain ⟨t0, t3, t4, ha, hg, f0, f3, b4, h5⟩ := hF
          have d4 : D 4 := hn 4 (by simp)
          have d3 : D 3 := hn 3 (by simp)
          have d3 : D 3 := hn 3 (by simp)
          have d0 : D 0 := hn 0 (by simp)
          have d3 : D 3 := hn 3 (by simp)
          have d4 : D 4 := hn 4 (by simp)
          obtain ⟨z0, z1, hz0⟩ : ∃ z0 z1 : Value, t3 = .agg #[z0, z1] ∧ bigCells z0 z1 := big_cells (f3 d3)
          obtain ⟨hz0, hz1⟩ := hz0
          obtain ⟨bb, y0, y1, hb0, hb1, hb2, hb3⟩ := b4 d4
          obtain ⟨k1, k2, k3, k4, k5⟩ := block_cells hb2
          have hz2 := hz1
          obtain ⟨zs, za, zn, zc, rfl, rfl⟩ := hz1
          subst hz0
          subst hb0
          subst ha
          (try simp only [Act.put, qA, qB, qC])
          go_simp
          refine hK.out _ _ (SO _ (put2_gr hg hb1)) (fun _ => ?_)
          refine ⟨t0, (.agg #[.bool zs, .slice za zn zc]), (.pointer (some ⟨bb, 0, none⟩)), by (simp only [Act.put, qA, qB, qC]); try rfl, (put2_gr hg hb1), ?_, ?_, ?_, ?_⟩
          · exact fun h => (f0 (Or.resolve_left h (by decide))).kb (put2_kb hb2 hb3)
          · exact fun h => (f3 (Or.resolve_left h (by decide))).kb (put2_kb hb2 hb3)
          · exact fun h => put2_bx hb2 hz2 (b4 (Or.resolve_left h (by decide)))
          · exact fun _ => ⟨Or.inr d4, Or.inr d3, _, _, rfl, put2_new hb2⟩
        exact StepI.nil
      case rest =>
        obtain ⟨A3, hgr⟩ := hcut
        obtain ⟨W2, hW9⟩ : ∃ W2, W2 = wc := ⟨_, rfl⟩
        subst hW9
        have q0 := SO _ hgr
        replace k0 : w.heap.size + 1 ≤ W2.heap.size := Nat.le_trans k0 hgr.size
        replace HG : Hid (IsGr w W2) := HG.out.trans hgr
        clear SO hgr CT CM'
        obtain ⟨g3, s3, a3, n3, c3, rfl, k3, u3, u3', B3⟩ := A3
        go_upto_region 4 with fail
        go_cut [4] (fun t4 wr => BigAt wr t4 N ∧ IsGr W2 wr)
        case first =>
          go_wp2_with fail
          refine (CN _ _ (B3.gr ?_)).mono ?_
          · exact (by with_reducible repeat (first | exact IsGr.refl _ | refine IsGr.gr ?_ _ _ | refine IsGr.alloc ?_ _ | refine IsGr.drew ?_ | refine IsGr.drewN ?_ _))
          rintro e w1 ⟨q, rfl, hq, os1, dr1, rfl⟩
          obtain ⟨qs, qa, qn, qc, rfl⟩ := hq.shape
          go_wp2
          go_meet
          case rel =>
            refine ⟨⟨_, _, _, _, _, rfl, ?_, ?_, ?_, hq.gr (by with_reducible repeat (first | exact IsGr.refl _ | refine IsGr.gr ?_ _ _ | refine IsGr.alloc ?_ _ | refine IsGr.drew ?_ | refine IsGr.drewN ?_ _))⟩, (by with_reducible repeat (first | exact IsGr.refl _ | refine IsGr.gr ?_ _ _ | refine IsGr.alloc ?_ _ | refine IsGr.drew ?_ | refine IsGr.drewN ?_ _))⟩
            · first | omega | (simp; done) | (simp; omega) | (simp [Gr.size]; done) | (simp [Gr.size]; omega)
            · simp [go_sem]
            · simp [go_sem]
        case rest =>
          obtain ⟨A4, hgr⟩ := hcut
          obtain ⟨W3, hW9⟩ : ∃ W3, W3 = wc := ⟨_, rfl⟩
          subst hW9
          replace HG : Hid (IsGr w W3) := HG.out.trans hgr
          replace q0 : (W3.cell? ⟨w.heap.size, 0, none⟩ = some (.bool xs) ∧ W3.cell? ⟨w.heap.size, 1, none⟩ = some (.slice xa xn xc) ∧ W3.cell? ⟨w.heap.size, 2, none⟩ = some (.bool ys) ∧ W3.cell? ⟨w.heap.size, 3, none⟩ = some (.slice ya yn yc) ∧ W3.cell? ⟨w.heap.size, 4, none⟩ = some (.bool zs) ∧ W3.cell? ⟨w.heap.size, 5, none⟩ = some (.slice za zn zc)) := ⟨hgr.cell_at (by omega) q0.1, hgr.cell_at (by omega) q0.2.1, hgr.cell_at (by omega) q0.2.2.1, hgr.cell_at (by omega) q0.2.2.2.1, hgr.cell_at (by omega) q0.2.2.2.2.1, hgr.cell_at (by omega) q0.2.2.2.2.2⟩
          replace k0 : w.heap.size + 1 ≤ W3.heap.size := Nat.le_trans k0 hgr.size
          replace u3 := hgr.cell_at k3 u3
          replace u3' := hgr.cell_at k3 u3'
          replace k3 : g3 < W3.heap.size := Nat.lt_of_lt_of_le k3 hgr.size
          replace B3 := B3.gr hgr
          obtain ⟨g4, s4, a4, n4, c4, rfl, k4, u4, u4', B4⟩ := A4
          obtain ⟨o0, o1, o2, o3, o4, o5⟩ := q0
          have k0' : w.heap.size < W3.heap.size := by omega
          clear hgr CN
          have hgw := HG.out
          have X1 := fun w1 (hg : IsGr W3 w1) => K1 w1 (hgw.trans hg) _ (B4.gr hg)
          have X2 := fun w1 (hg : IsGr W3 w1) => K2 w1 (hgw.trans hg) _ (B3.gr hg)
          have X3 := fun w1 (hg : IsGr W3 w1) => K3 w1 (hgw.trans hg) _ (B4.gr hg)
          have X4 := fun w1 (hg : IsGr W3 w1) => K4 w1 (hgw.trans hg) _ (B3.gr hg)
          clear K1 K2 K3 K4 hgw B3 B4
          by_cases h1 : 0 ≤ E1
          · by_cases h2 : E2 ≤ 0
            · by_cases h3 : 0 ≤ E3
              · have HR : Hid (decide (E4 ≤ 0) = B0) := by unfold Hid; rw [hB0]; simp [h1, h2, h3]
                clear hB0
                go_wp2_with fail
                refine (X1 _ ?_).mono ?_
                · exact (by with_reducible repeat (first | exact IsGr.refl _ | refine IsGr.gr ?_ _ _ | refine IsGr.alloc ?_ _ | refine IsGr.drew ?_ | refine IsGr.drewN ?_ _))
                rintro e w1 ⟨rfl, os5, dr5, rfl⟩
                go_wp2_with fail
                refine (X2 _ ?_).mono ?_
                · exact (by with_reducible repeat (first | exact IsGr.refl _ | refine IsGr.gr ?_ _ _ | refine IsGr.alloc ?_ _ | refine IsGr.drew ?_ | refine IsGr.drewN ?_ _))
                rintro e w1 ⟨rfl, os6, dr6, rfl⟩
                go_wp2_with fail
                refine (X3 _ ?_).mono ?_
                · exact (by with_reducible repeat (first | exact IsGr.refl _ | refine IsGr.gr ?_ _ _ | refine IsGr.alloc ?_ _ | refine IsGr.drew ?_ | refine IsGr.drewN ?_ _))
                rintro e w1 ⟨rfl, os7, dr7, rfl⟩
                go_wp2_with fail
                refine (X4 _ ?_).mono ?_
                · exact (by with_reducible repeat (first | exact IsGr.refl _ | refine IsGr.gr ?_ _ _ | refine IsGr.alloc ?_ _ | refine IsGr.drew ?_ | refine IsGr.drewN ?_ _))
                rintro e w1 ⟨rfl, os8, dr8, rfl⟩
                go_wp2
                go_ret
                exact ⟨ret_bool HR.out, HG.out.trans (by with_reducible repeat (first | exact IsGr.refl _ | refine IsGr.gr ?_ _ _ | refine IsGr.alloc ?_ _ | refine IsGr.drew ?_ | refine IsGr.drewN ?_ _))⟩
              · have HR : Hid (false = B0) := by unfold Hid; rw [hB0]; simp [h3]
                clear hB0
                go_wp2_with fail
                refine (X1 _ ?_).mono ?_
                · exact (by with_reducible repeat (first | exact IsGr.refl _ | refine IsGr.gr ?_ _ _ | refine IsGr.alloc ?_ _ | refine IsGr.drew ?_ | refine IsGr.drewN ?_ _))
                rintro e w1 ⟨rfl, os5, dr5, rfl⟩
                go_wp2_with fail
                refine (X2 _ ?_).mono ?_
                · exact (by with_reducible repeat (first | exact IsGr.refl _ | refine IsGr.gr ?_ _ _ | refine IsGr.alloc ?_ _ | refine IsGr.drew ?_ | refine IsGr.drewN ?_ _))
                rintro e w1 ⟨rfl, os6, dr6, rfl⟩
                go_wp2_with fail
                refine (X3 _ ?_).mono ?_
                · exact (by with_reducible repeat (first | exact IsGr.refl _ | refine IsGr.gr ?_ _ _ | refine IsGr.alloc ?_ _ | refine IsGr.drew ?_ | refine IsGr.drewN ?_ _))
                rintro e w1 ⟨rfl, os7, dr7, rfl⟩
                go_wp2
                go_ret
                exact ⟨ret_bool HR.out, HG.out.trans (by with_reducible repeat (first | exact IsGr.refl _ | refine IsGr.gr ?_ _ _ | refine IsGr.alloc ?_ _ | refine IsGr.drew ?_ | refine IsGr.drewN ?_ _))⟩
            · have HR : Hid (false = B0) := by unfold Hid; rw [hB0]; simp [h2]
              clear hB0
              go_wp2_with fail
              refine (X1 _ ?_).mono ?_
              · exact (by with_reducible repeat (first | exact IsGr.refl _ | refine IsGr.gr ?_ _ _ | refine IsGr.alloc ?_ _ | refine IsGr.drew ?_ | refine IsGr.drewN ?_ _))
              rintro e w1 ⟨rfl, os5, dr5, rfl⟩
              go_wp2_with fail
              refine (X2 _ ?_).mono ?_
              · exact (by with_reducible repeat (first | exact IsGr.refl _ | refine IsGr.gr ?_ _ _ | refine IsGr.alloc ?_ _ | refine IsGr.drew ?_ | refine IsGr.drewN ?_ _))
              rintro e w1 ⟨rfl, os6, dr6, rfl⟩
              go_wp2
              go_ret
              exact ⟨ret_bool HR.out, HG.out.trans (by with_reducible repeat (first | exact IsGr.refl _ | refine IsGr.gr ?_ _ _ | refine IsGr.alloc ?_ _ | refine IsGr.drew ?_ | refine IsGr.drewN ?_ _))⟩
          · have HR : Hid (false = B0) := by unfold Hid; rw [hB0]; simp [h1]
            clear hB0
            go_wp2_with fail
            refine (X1 _ ?_).mono ?_
            · exact (by with_reducible repeat (first | exact IsGr.refl _ | refine IsGr.gr ?_ _ _ | refine IsGr.alloc ?_ _ | refine IsGr.drew ?_ | refine IsGr.drewN ?_ _))
            rintro e w1 ⟨rfl, os5, dr5, rfl⟩
            go_wp2
            go_ret
            exact ⟨ret_bool HR.out, HG.out.trans (by with_reducible repeat (first | exact IsGr.refl _ | refine IsGr.gr ?_ _ _ | refine IsGr.alloc ?_ _ | refine IsGr.drew ?_ | refine IsGr.drewN ?_ _))⟩
    · rw [e2] at CC
      have HR : Hid (false = B0) := by
        unfold Hid
        rw [hB0, show decide (1 ≤ z ∧ z ≤ 1237940039285380274899124224) = false by simp; omega]
        rfl
      clear hB0 g1 g2 e1 e2 CT CM CN K1 K2 K3 K4
      go_enter Try.func26, Try.ntmps26
      go_upto_region 1 with fail
      obtain ⟨C, hin, hcl, hcells, hgr⟩ : ∃ C : World → Prop, (∀ w', w.heap.size + 1 ≤ w'.heap.size ∧ IsGr w w' ∧ (w'.cell? ⟨w.heap.size, 0, none⟩ = some (.bool xs) ∧ w'.cell? ⟨w.heap.size, 1, none⟩ = some (.slice xa xn xc) ∧ w'.cell? ⟨w.heap.size, 2, none⟩ = some (.bool ys) ∧ w'.cell? ⟨w.heap.size, 3, none⟩ = some (.slice ya yn yc) ∧ w'.cell? ⟨w.heap.size, 4, none⟩ = some (.bool zs) ∧ w'.cell? ⟨w.heap.size, 5, none⟩ = some (.slice za zn zc)) → C w') ∧ (∀ u u', C u → IsGr u u' → C u') ∧ (∀ w', C w' → (w'.cell? ⟨w.heap.size, 0, none⟩ = some (.bool xs) ∧ w'.cell? ⟨w.heap.size, 1, none⟩ = some (.slice xa xn xc) ∧ w'.cell? ⟨w.heap.size, 2, none⟩ = some (.bool ys) ∧ w'.cell? ⟨w.heap.size, 3, none⟩ = some (.slice ya yn yc) ∧ w'.cell? ⟨w.heap.size, 4, none⟩ = some (.bool zs) ∧ w'.cell? ⟨w.heap.size, 5, none⟩ = some (.slice za zn zc))) ∧ (∀ w', C w' → IsGr w w' ∧ w.heap.size + 1 ≤ w'.heap.size) := by
        refine ⟨fun w' => w.heap.size + 1 ≤ w'.heap.size ∧ IsGr w w' ∧ (w'.cell? ⟨w.heap.size, 0, none⟩ = some (.bool xs) ∧ w'.cell? ⟨w.heap.size, 1, none⟩ = some (.slice xa xn xc) ∧ w'.cell? ⟨w.heap.size, 2, none⟩ = some (.bool ys) ∧ w'.cell? ⟨w.heap.size, 3, none⟩ = some (.slice ya yn yc) ∧ w'.cell? ⟨w.heap.size, 4, none⟩ = some (.bool zs) ∧ w'.cell? ⟨w.heap.size, 5, none⟩ = some (.slice za zn zc)), fun w' h => h, ?_, fun w' h => h.2.2, fun w' h => ⟨h.2.1, h.1⟩⟩
        rintro u u' ⟨h0, h1, h2⟩ hg
        refine ⟨Nat.le_trans h0 hg.size, h1.trans hg, ?_⟩
        exact ⟨hg.cell_at (by omega) h2.1, hg.cell_at (by omega) h2.2.1, hg.cell_at (by omega) h2.2.2.1, hg.cell_at (by omega) h2.2.2.2.1, hg.cell_at (by omega) h2.2.2.2.2.1, hg.cell_at (by omega) h2.2.2.2.2.2⟩
      refine wp_region_held_drew (S := C) (by kernel_rfl) (by (try dsimp only); exact hin _ ⟨by first | omega | (simp; done) | (simp; omega), (by with_reducible repeat (first | exact IsGr.refl _ | refine IsGr.gr ?_ _ _ | refine IsGr.alloc ?_ _ | refine IsGr.drew ?_ | refine IsGr.drewN ?_ _)), by simp [go_sem]⟩) (fun hHeld => ?_)
      refine wpAnyH_take (i := 0) (oi := { dst := some 5, op := Op.fieldAddr 55 (Operand.tmp 1) 2, type := 0, pos := "ref.go:19", after := #[], guard := none }) (v := ?_) rfl (by kernel_rfl) (by kernel_rfl) (by kernel_rfl) (fun _ _ _ h => h) (Or.inl ⟨by rfl, ?_⟩) (by assumption) ?_
      rotate_left
      · (intro w hSw; (try dsimp only at hSw); (try have hcs := hcells w hSw); (try go_split_ands); go_simp <;> with_reducible rfl)
      (try simp only [Act.put, qA, qB, qC])
      refine wpAnyH_take (i := 1) (oi := { dst := some 6, op := Op.load 53 (Operand.tmp 5), type := 53, pos := "ref.go:19", after := #[{ on := 0, ground := Ground.data }], guard := none }) (v := ?_) rfl (by kernel_rfl) (by kernel_rfl) (by kernel_rfl) (fun _ _ _ h => h) (Or.inl ⟨by rfl, ?_⟩) (by assumption) ?_
      rotate_left
      · (intro w hSw; (try dsimp only at hSw); (try have hcs := hcells w hSw); (try go_split_ands); go_simp <;> with_reducible rfl)
      (try simp only [Act.put, qA, qB, qC])
      refine wpAnyH_ready (rs := [2]) (by kernel_rfl) (by simp) ?_
      refine AllReadyH.cons (o := { dst := some 7, op := Op.call { callee := Callee.value (Operand.func 42), args := #[Operand.tmp 6], argTypes := #[53] }, type := 3, pos := "ref.go:19", after := #[{ on := 1, ground := Ground.data }], guard := none }) rfl (fun K hK => ?_) AllReadyH.nil
      go_simp
      refine (CS _ (hgr _ hHeld).1).mono ?_
      rintro e w2 ⟨rfl, hg2⟩
      (try go_wp2_with fail)
      refine hK.out _ _ (by (try dsimp only); exact hcl _ _ hHeld (by first | with_reducible assumption | with_reducible exact IsGr.refl _ | with_reducible exact (IsGr.refl _).alloc _ | with_reducible exact ((IsGr.refl _).alloc _).alloc _ | assumption)) (fun hHeld2 => ?_)
      clear hK K hHeld
      have hHeld := hHeld2
      clear hHeld2
      (try simp only [Act.put, qA, qB, qC])
      refine wpAnyH_take (i := 3) (oi := { dst := some 8, op := Op.binOp BinOp.leq 3 (Operand.tmp 7) (Operand.const (Value.int IntKind.i64 0)) 3, type := 4, pos := "ref.go:19", after := #[{ on := 2, ground := Ground.data }], guard := none }) (v := ?_) rfl (by kernel_rfl) (by kernel_rfl) (by kernel_rfl) (fun _ _ _ h => h) (Or.inl ⟨by rfl, ?_⟩) (by assumption) ?_
      rotate_left
      · (intro w hSw; (try dsimp only at hSw); (try have hcs := hcells w hSw); (try go_split_ands); go_simp <;> with_reducible rfl)
      (try simp only [Act.put, qA, qB, qC])
      refine wpAnyH_take (i := 4) (oi := { dst := some 9, op := Op.move (Operand.tmp 8), type := 4, pos := "ref.go:19", after := #[{ on := 3, ground := Ground.data }, { on := 2, ground := Ground.chain }], guard := none }) (v := ?_) rfl (by kernel_rfl) (by kernel_rfl) (by kernel_rfl) (fun _ _ _ h => h) (Or.inl ⟨by rfl, ?_⟩) (by assumption) ?_
      rotate_left
      · (intro w hSw; (try dsimp only at hSw); (try have hcs := hcells w hSw); (try go_split_ands); go_simp <;> with_reducible rfl)
      (try simp only [Act.put, qA, qB, qC])
      refine wpAnyH_take (i := 5) (oi := { dst := some 10, op := Op.fieldAddr 55 (Operand.tmp 1) 2, type := 0, pos := "ref.go:19", after := #[{ on := 4, ground := Ground.guard }], guard := some (4, false) }) (v := ?_) rfl (by kernel_rfl) (by kernel_rfl) (by kernel_rfl) (fun _ _ _ h => h) (Or.inl ⟨by rfl, ?_⟩) (by assumption) ?_
      rotate_left
      · (intro w hSw; (try dsimp only at hSw); (try have hcs := hcells w hSw); (try go_split_ands); go_simp <;> with_reducible rfl)
      (try simp only [Act.put, qA, qB, qC])
      refine wpAnyH_take (i := 6) (oi := { dst := some 11, op := Op.load 53 (Operand.tmp 10), type := 53, pos := "ref.go:19", after := #[{ on := 5, ground := Ground.data }, { on := 4, ground := Ground.guard }], guard := some (4, false) }) (v := ?_) rfl (by kernel_rfl) (by kernel_rfl) (by kernel_rfl) (fun _ _ _ h => h) (Or.inl ⟨by rfl, ?_⟩) (by assumption) ?_
      rotate_left
      · (intro w hSw; (try dsimp only at hSw); (try have hcs := hcells w hSw); (try go_split_ands); go_simp <;> with_reducible rfl)
      (try simp only [Act.put, qA, qB, qC])
      refine wpAnyH_ready (rs := [7]) (by kernel_rfl) (by simp) ?_
      refine AllReadyH.cons (o := { dst := some 12, op := Op.call { callee := Callee.value (Operand.func 67), args := #[Operand.const (Value.int IntKind.i64 90)], argTypes := #[3] }, type := 53, pos := "ref.go:19", after := #[{ on := 4, ground := Ground.chain }, { on := 4, ground := Ground.guard }], guard := some (4, false) }) rfl (fun K hK => ?_) AllReadyH.nil
      go_simp
      refine (CP _).mono ?_
      rintro e w3 ⟨P, rfl, hP, hg3⟩
      obtain ⟨Ps, Pa, Pn, Pc, rfl⟩ := hP.shape
      (try go_wp2_with fail)
      refine hK.out _ _ (by (try dsimp only); exact hcl _ _ hHeld (by first | with_reducible assumption | with_reducible exact IsGr.refl _ | with_reducible exact (IsGr.refl _).alloc _ | with_reducible exact ((IsGr.refl _).alloc _).alloc _ | assumption)) (fun hHeld2 => ?_)
      clear hK K hHeld
      have hHeld := hHeld2
      clear hHeld2
      (try simp only [Act.put, qA, qB, qC])
      refine wpAnyH_ready (rs := [8]) (by kernel_rfl) (by simp) ?_
      refine AllReadyH.cons (o := { dst := some 13, op := Op.call { callee := Callee.value (Operand.func 66), args := #[Operand.tmp 11, Operand.tmp 12], argTypes := #[53, 53] }, type := 3, pos := "ref.go:19", after := #[{ on := 6, ground := Ground.data }, { on := 7, ground := Ground.data }, { on := 7, ground := Ground.chain }, { on := 4, ground := Ground.guard }], guard := some (4, false) }) rfl (fun K hK => ?_) AllReadyH.nil
      go_simp
      refine (CC _ _ hP (hgr _ hHeld).1).mono ?_
      rintro e w4 ⟨rfl, hg4⟩
      (try go_wp2_with fail)
      refine hK.out _ _ (by (try dsimp only); exact hcl _ _ hHeld (by first | with_reducible assumption | with_reducible exact IsGr.refl _ | with_reducible exact (IsGr.refl _).alloc _ | with_reducible exact ((IsGr.refl _).alloc _).alloc _ | assumption)) (fun hHeld2 => ?_)
      clear hK K hHeld
      have hHeld := hHeld2
      clear hHeld2
      (try simp only [Act.put, qA, qB, qC])
      refine wpAnyH_take (i := 9) (oi := { dst := some 14, op := Op.binOp BinOp.gtr 3 (Operand.tmp 13) (Operand.const (Value.int IntKind.i64 0)) 3, type := 4, pos := "ref.go:19", after := #[{ on := 8, ground := Ground.data }, { on := 4, ground := Ground.guard }], guard := some (4, false) }) (v := ?_) rfl (by kernel_rfl) (by kernel_rfl) (by kernel_rfl) (fun _ _ _ h => h) (Or.inl ⟨by rfl, ?_⟩) (by assumption) ?_
      rotate_left
      · (intro w hSw; (try dsimp only at hSw); (try have hcs := hcells w hSw); (try go_split_ands); go_simp <;> with_reducible rfl)
      (try simp only [Act.put, qA, qB, qC])
      refine wpAnyH_take (i := 10) (oi := { dst := some 15, op := Op.pick (Operand.tmp 9) (Operand.const (Value.bool true)) (Operand.tmp 14), type := 4, pos := "ref.go:19", after := #[{ on := 4, ground := Ground.data }, { on := 9, ground := Ground.data }], guard := none }) (v := ?_) rfl (by kernel_rfl) (by kernel_rfl) (by kernel_rfl) (fun _ _ _ h => h) (Or.inl ⟨by rfl, ?_⟩) (by assumption) ?_
      rotate_left
      · (intro w hSw; (try dsimp only at hSw); (try have hcs := hcells w hSw); (try go_split_ands); go_simp <;> with_reducible rfl)
      (try simp only [Act.put, qA, qB, qC])
      refine wpAnyH_done (by kernel_rfl) ?_ _
      have hg := (hgr _ hHeld).1
      clear hP hcells hin hcl hgr hHeld
      go_wp2
      go_ret
      exact ⟨ret_bool HR.out, hg⟩
end Go.Proofs.Ytohhlhoijanjfaa
