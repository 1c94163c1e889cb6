/- Contracts of package gromaref04 over the loaded program: spots; At, Cmp, Side. Contracts of package gromalaw04 over the loaded program: ref, spot, right, and the fixed answer. -/
import Derived.Test.YtohhlhoijanjfaaGB
import Derived.Test.YtohhlhoijanjfaaR11
import Derived.Test.YtohhlhoijanjfaaGA
import Derived.Test.YtohhlhoijanjfaaGC
import Derived.Test.YtohhlhoijanjfaaR7
namespace Go.Proofs.Ytohhlhoijanjfaa
open Go.RowKit Go.Shelf
attribute [local go_sem] Gr.size Gr.cell? Gr.frozen? Gr.setCell Gr.drew Gr.drewN Gr.of_drew Gr.of_drewN Gr.gr Gr.lt_of1 Gr.le_of1 Gr.lt_of2 Gr.le_of2 Gr.lt_of3 Gr.le_of3 Gr.lt_of4 Gr.le_of4 Gr.lt_of5 Gr.le_of5 Gr.lt_of6 Gr.le_of6 Gr.lt_of7 Gr.le_of7 Gr.lt_of8 Gr.le_of8 Gr.lt_of9 Gr.le_of9 Gr.lt_of10 Gr.le_of10 Gr.lt_of11 Gr.le_of11 Gr.lt_of12 Gr.le_of12 Gr.lt_of13 Gr.le_of13 Gr.lt_of14 Gr.le_of14 Gr.lt_of15 Gr.le_of15 Gr.lt_of16 Gr.le_of16 Gr.lt_of17 Gr.le_of17 Gr.lt_of18 Gr.le_of18 Gr.lt_of19 Gr.le_of19 Gr.lt_of20 Gr.le_of20 Gr.lt_of21 Gr.le_of21 Gr.lt_of22 Gr.le_of22 Gr.lt_of23 Gr.le_of23 Gr.lt_of24 Gr.le_of24

theorem Fit.sm {x : Int} (h : Fit x) : Sm x := by unfold Fit at h; unfold Sm; omega
theorem BigAt.gr {w w' : World} {v : Value} {z : Int} (h : BigAt w v z) (hg : IsGr w w') : BigAt w' v z := by
  obtain ⟨g, s, a, k, c, rfl, h1, h2, h3, h4⟩ := h
  exact ⟨g, s, a, k, c, rfl, Nat.lt_of_lt_of_le h1 hg.size, hg.cell_at h1 h2, hg.cell_at h1 h3, h4.gr hg⟩
theorem Fit.sm_mul {x y : Int} (hx : Fit x) (hy : Fit y) : Sm (x * y) := by
  have := mul_le_of (x := x) (y := y) (A := 57896044618658097711785492504343953926634992332820282019728792003956564819968) (B := 57896044618658097711785492504343953926634992332820282019728792003956564819968) (by unfold Fit at hx; omega) (by unfold Fit at hy; omega)
  unfold Sm
  omega

/-- v is a spot of package gromaref04 in the world w: x / z, y / z. -/
def IsSp (w : World) (v : Value) (x y z : Int) : Prop := ∃ (xs : Bool) (xa : Option Addr) (xn xc : Nat) (ys : Bool) (ya : Option Addr) (yn yc : Nat) (zs : Bool) (za : Option Addr) (zn zc : Nat), v = .agg #[.bool xs, .slice xa xn xc, .bool ys, .slice ya yn yc, .bool zs, .slice za zn zc] ∧ IsBig w (.agg #[.bool xs, .slice xa xn xc]) x ∧ IsBig w (.agg #[.bool ys, .slice ya yn yc]) y ∧ IsBig w (.agg #[.bool zs, .slice za zn zc]) z
theorem IsSp.gr {w w' : World} {v : Value} {x y z : Int} (h : IsSp w v x y z) (hg : IsGr w w') : IsSp w' v x y z := by
  obtain ⟨xs, xa, xn, xc, ys, ya, yn, yc, zs, za, zn, zc, rfl, hx, hy, hz⟩ := h
  exact ⟨xs, xa, xn, xc, ys, ya, yn, yc, zs, za, zn, zc, rfl, hx.gr hg, hy.gr hg, hz.gr hg⟩
theorem IsSp.kb {w w' : World} {v : Value} {x y z : Int} (h : IsSp w v x y z) (hg : Kb w w') : IsSp w' v x y z := by
  obtain ⟨xs, xa, xn, xc, ys, ya, yn, yc, zs, za, zn, zc, rfl, hx, hy, hz⟩ := h
  exact ⟨xs, xa, xn, xc, ys, ya, yn, yc, zs, za, zn, zc, rfl, hx.kb hg, hy.kb hg, hz.kb hg⟩
/-- Which of two spots comes first, right ones. -/
def spotD (x y z u v t : Int) : Int := if cmpI (x * t) (u * z) = 0 then cmpI (y * t) (v * z) else cmpI (x * t) (u * z)
theorem spotD_range (x y z u v t : Int) : spotD x y z u v t = -1 ∨ spotD x y z u v t = 0 ∨ spotD x y z u v t = 1 := by
  unfold spotD
  split
  · exact cmpI_range _ _
  · exact cmpI_range _ _

set_option maxRecDepth 20000 in set_option maxHeartbeats 2000000 in
theorem RSCmp_any (p q : Value) (x y z u v t : Int) (w : World) (hp : IsSp w p x y z) (hq : IsSp w q u v t) (fx : Fit x) (fy : Fit y) (fz : Fit z) (fu : Fit u) (fv : Fit v) (ft : Fit t) :
    Calls Try.prog 27 #[p, q] w fun e w' => e = .returned (.int .i64 (spotD x y z u v t)) ∧ IsGr w w' := by
  obtain ⟨xs, xa, xn, xc, ys, ya, yn, yc, zs, za, zn, zc, rfl, hx, hy, hz⟩ := hp
  obtain ⟨us, ua, un, uc, vs, va, vn, vc, ts, ta, tn, tc, rfl, hu, hv, ht⟩ := hq
  have M1 := fun w1 (hg : IsGr w w1) => BigMul_any _ _ x t w1 (hx.gr hg) (ht.gr hg) fx.sm ft.sm
  have M2 := fun w1 (hg : IsGr w w1) => BigMul_any _ _ u z w1 (hu.gr hg) (hz.gr hg) fu.sm fz.sm
  have CC := fun w1 a b (h1 : IsBig w1 a (x * t)) (h2 : IsBig w1 b (u * z)) => BigCmp_any a b (x * t) (u * z) w1 h1 h2 (fx.sm_mul ft) (fu.sm_mul fz)
  have M3 := fun w1 (hg : IsGr w w1) => BigMul_any _ _ y t w1 (hy.gr hg) (ht.gr hg) fy.sm ft.sm
  have M4 := fun w1 (hg : IsGr w w1) => BigMul_any _ _ v z w1 (hv.gr hg) (hz.gr hg) fv.sm fz.sm
  have CD := fun w1 a b (h1 : IsBig w1 a (y * t)) (h2 : IsBig w1 b (v * z)) => BigCmp_any a b (y * t) (v * z) w1 h1 h2 (fy.sm_mul ft) (fv.sm_mul fz)
  obtain ⟨K, hK⟩ : ∃ K, K = spotD x y z u v t := ⟨_, rfl⟩
  rw [← hK]
  unfold spotD at hK
  clear hx hy hz hu hv ht fx fy fz fu fv ft
  generalize cmpI (x * t) (u * z) = A at *
  generalize cmpI (y * t) (v * z) = B at *
  generalize x * t = G1 at *
  generalize u * z = G2 at *
  generalize y * t = G3 at *
  generalize v * z = G4 at *
  by_cases hA : A = 0
  · have HR : Hid (B = K) := by unfold Hid; rw [hK, if_pos hA]
    subst hA
    clear hK
    go_enter Try.func27, Try.ntmps27
    go_upto_region 1 with fail
    obtain ⟨C, hin, hcl, hcells, hgr⟩ : ∃ C : World → Prop, (∀ w', w.heap.size + 2 ≤ w'.heap.size ∧ IsGr w w' ∧ (w'.cell? ⟨w.heap.size, 0, none⟩ = some (.bool xs) ∧ w'.cell? ⟨w.heap.size, 1, none⟩ = some (.slice xa xn xc) ∧ w'.cell? ⟨w.heap.size, 2, none⟩ = some (.bool ys) ∧ w'.cell? ⟨w.heap.size, 3, none⟩ = some (.slice ya yn yc) ∧ w'.cell? ⟨w.heap.size, 4, none⟩ = some (.bool zs) ∧ w'.cell? ⟨w.heap.size, 5, none⟩ = some (.slice za zn zc)) ∧ (w'.cell? ⟨w.heap.size + 1, 0, none⟩ = some (.bool us) ∧ w'.cell? ⟨w.heap.size + 1, 1, none⟩ = some (.slice ua un uc) ∧ w'.cell? ⟨w.heap.size + 1, 2, none⟩ = some (.bool vs) ∧ w'.cell? ⟨w.heap.size + 1, 3, none⟩ = some (.slice va vn vc) ∧ w'.cell? ⟨w.heap.size + 1, 4, none⟩ = some (.bool ts) ∧ w'.cell? ⟨w.heap.size + 1, 5, none⟩ = some (.slice ta tn tc)) → C w') ∧ (∀ u u', C u → IsGr u u' → C u') ∧ (∀ w', C w' → (w'.cell? ⟨w.heap.size, 0, none⟩ = some (.bool xs) ∧ w'.cell? ⟨w.heap.size, 1, none⟩ = some (.slice xa xn xc) ∧ w'.cell? ⟨w.heap.size, 2, none⟩ = some (.bool ys) ∧ w'.cell? ⟨w.heap.size, 3, none⟩ = some (.slice ya yn yc) ∧ w'.cell? ⟨w.heap.size, 4, none⟩ = some (.bool zs) ∧ w'.cell? ⟨w.heap.size, 5, none⟩ = some (.slice za zn zc)) ∧ (w'.cell? ⟨w.heap.size + 1, 0, none⟩ = some (.bool us) ∧ w'.cell? ⟨w.heap.size + 1, 1, none⟩ = some (.slice ua un uc) ∧ w'.cell? ⟨w.heap.size + 1, 2, none⟩ = some (.bool vs) ∧ w'.cell? ⟨w.heap.size + 1, 3, none⟩ = some (.slice va vn vc) ∧ w'.cell? ⟨w.heap.size + 1, 4, none⟩ = some (.bool ts) ∧ w'.cell? ⟨w.heap.size + 1, 5, none⟩ = some (.slice ta tn tc))) ∧ (∀ w', C w' → IsGr w w' ∧ w.heap.size + 2 ≤ w'.heap.size) := by
      refine ⟨fun w' => w.heap.size + 2 ≤ w'.heap.size ∧ IsGr w w' ∧ (w'.cell? ⟨w.heap.size, 0, none⟩ = some (.bool xs) ∧ w'.cell? ⟨w.heap.size, 1, none⟩ = some (.slice xa xn xc) ∧ w'.cell? ⟨w.heap.size, 2, none⟩ = some (.bool ys) ∧ w'.cell? ⟨w.heap.size, 3, none⟩ = some (.slice ya yn yc) ∧ w'.cell? ⟨w.heap.size, 4, none⟩ = some (.bool zs) ∧ w'.cell? ⟨w.heap.size, 5, none⟩ = some (.slice za zn zc)) ∧ (w'.cell? ⟨w.heap.size + 1, 0, none⟩ = some (.bool us) ∧ w'.cell? ⟨w.heap.size + 1, 1, none⟩ = some (.slice ua un uc) ∧ w'.cell? ⟨w.heap.size + 1, 2, none⟩ = some (.bool vs) ∧ w'.cell? ⟨w.heap.size + 1, 3, none⟩ = some (.slice va vn vc) ∧ w'.cell? ⟨w.heap.size + 1, 4, none⟩ = some (.bool ts) ∧ w'.cell? ⟨w.heap.size + 1, 5, none⟩ = some (.slice ta tn tc)), fun w' h => h, ?_, fun w' h => h.2.2, fun w' h => ⟨h.2.1, h.1⟩⟩
      rintro u u' ⟨h0, h1, h2⟩ hg
      refine ⟨Nat.le_trans h0 hg.size, h1.trans hg, ?_⟩
      exact ⟨⟨hg.cell_at (by omega) h2.1.1, hg.cell_at (by omega) h2.1.2.1, hg.cell_at (by omega) h2.1.2.2.1, hg.cell_at (by omega) h2.1.2.2.2.1, hg.cell_at (by omega) h2.1.2.2.2.2.1, hg.cell_at (by omega) h2.1.2.2.2.2.2⟩, ⟨hg.cell_at (by omega) h2.2.1, hg.cell_at (by omega) h2.2.2.1, hg.cell_at (by omega) h2.2.2.2.1, hg.cell_at (by omega) h2.2.2.2.2.1, hg.cell_at (by omega) h2.2.2.2.2.2.1, hg.cell_at (by omega) h2.2.2.2.2.2.2⟩⟩
    refine wp_region_held_drew (S := C) (by kernel_rfl) (by (try dsimp only); exact hin _ ⟨by first | omega | (simp; done) | (simp; omega), (by with_reducible repeat (first | exact IsGr.refl _ | refine IsGr.gr ?_ _ _ | refine IsGr.alloc ?_ _ | refine IsGr.drew ?_ | refine IsGr.drewN ?_ _)), by simp [go_sem]⟩) (fun hHeld => ?_)
    refine wpAnyH_take (i := 0) (oi := { dst := some 6, op := Op.fieldAddr 55 (Operand.tmp 2) 0, type := 0, pos := "ref.go:29", after := #[], guard := none }) (v := ?_) rfl (by kernel_rfl) (by kernel_rfl) (by kernel_rfl) (fun _ _ _ h => h) (Or.inl ⟨by rfl, ?_⟩) (by assumption) ?_
    rotate_left
    · (intro w hSw; (try dsimp only at hSw); (try have hcs := hcells w hSw); (try go_split_ands); go_simp <;> with_reducible rfl)
    (try simp only [Act.put, qA, qB, qC])
    refine wpAnyH_take (i := 1) (oi := { dst := some 7, op := Op.load 53 (Operand.tmp 6), type := 53, pos := "ref.go:29", after := #[{ on := 0, ground := Ground.data }], guard := none }) (v := ?_) rfl (by kernel_rfl) (by kernel_rfl) (by kernel_rfl) (fun _ _ _ h => h) (Or.inl ⟨by rfl, ?_⟩) (by assumption) ?_
    rotate_left
    · (intro w hSw; (try dsimp only at hSw); (try have hcs := hcells w hSw); (try go_split_ands); go_simp <;> with_reducible rfl)
    (try simp only [Act.put, qA, qB, qC])
    refine wpAnyH_take (i := 2) (oi := { dst := some 8, op := Op.fieldAddr 55 (Operand.tmp 3) 2, type := 0, pos := "ref.go:29", after := #[], guard := none }) (v := ?_) rfl (by kernel_rfl) (by kernel_rfl) (by kernel_rfl) (fun _ _ _ h => h) (Or.inl ⟨by rfl, ?_⟩) (by assumption) ?_
    rotate_left
    · (intro w hSw; (try dsimp only at hSw); (try have hcs := hcells w hSw); (try go_split_ands); go_simp <;> with_reducible rfl)
    (try simp only [Act.put, qA, qB, qC])
    refine wpAnyH_take (i := 3) (oi := { dst := some 9, op := Op.load 53 (Operand.tmp 8), type := 53, pos := "ref.go:29", after := #[{ on := 2, ground := Ground.data }], guard := none }) (v := ?_) rfl (by kernel_rfl) (by kernel_rfl) (by kernel_rfl) (fun _ _ _ h => h) (Or.inl ⟨by rfl, ?_⟩) (by assumption) ?_
    rotate_left
    · (intro w hSw; (try dsimp only at hSw); (try have hcs := hcells w hSw); (try go_split_ands); go_simp <;> with_reducible rfl)
    (try simp only [Act.put, qA, qB, qC])
    refine wpAnyH_take (i := 5) (oi := { dst := some 11, op := Op.fieldAddr 55 (Operand.tmp 3) 0, type := 0, pos := "ref.go:29", after := #[], guard := none }) (v := ?_) rfl (by kernel_rfl) (by kernel_rfl) (by kernel_rfl) (fun _ _ _ h => h) (Or.inl ⟨by rfl, ?_⟩) (by assumption) ?_
    rotate_left
    · (intro w hSw; (try dsimp only at hSw); (try have hcs := hcells w hSw); (try go_split_ands); go_simp <;> with_reducible rfl)
    (try simp only [Act.put, qA, qB, qC])
    refine wpAnyH_take (i := 6) (oi := { dst := some 12, op := Op.load 53 (Operand.tmp 11), type := 53, pos := "ref.go:29", after := #[{ on := 5, ground := Ground.data }], guard := none }) (v := ?_) rfl (by kernel_rfl) (by kernel_rfl) (by kernel_rfl) (fun _ _ _ h => h) (Or.inl ⟨by rfl, ?_⟩) (by assumption) ?_
    rotate_left
    · (intro w hSw; (try dsimp only at hSw); (try have hcs := hcells w hSw); (try go_split_ands); go_simp <;> with_reducible rfl)
    (try simp only [Act.put, qA, qB, qC])
    refine wpAnyH_take (i := 7) (oi := { dst := some 13, op := Op.fieldAddr 55 (Operand.tmp 2) 2, type := 0, pos := "ref.go:29", after := #[], guard := none }) (v := ?_) rfl (by kernel_rfl) (by kernel_rfl) (by kernel_rfl) (fun _ _ _ h => h) (Or.inl ⟨by rfl, ?_⟩) (by assumption) ?_
    rotate_left
    · (intro w hSw; (try dsimp only at hSw); (try have hcs := hcells w hSw); (try go_split_ands); go_simp <;> with_reducible rfl)
    (try simp only [Act.put, qA, qB, qC])
    refine wpAnyH_take (i := 8) (oi := { dst := some 14, op := Op.load 53 (Operand.tmp 13), type := 53, pos := "ref.go:29", after := #[{ on := 7, ground := Ground.data }], guard := none }) (v := ?_) rfl (by kernel_rfl) (by kernel_rfl) (by kernel_rfl) (fun _ _ _ h => h) (Or.inl ⟨by rfl, ?_⟩) (by assumption) ?_
    rotate_left
    · (intro w hSw; (try dsimp only at hSw); (try have hcs := hcells w hSw); (try go_split_ands); go_simp <;> with_reducible rfl)
    (try simp only [Act.put, qA, qB, qC])
    refine wpAnyH_ready (rs := [4]) (by kernel_rfl) (by simp) ?_
    refine AllReadyH.cons (o := { dst := some 10, op := Op.call { callee := Callee.value (Operand.func 40), args := #[Operand.tmp 7, Operand.tmp 9], argTypes := #[53, 53] }, type := 53, pos := "ref.go:29", after := #[{ on := 1, ground := Ground.data }, { on := 3, ground := Ground.data }], guard := none }) rfl (fun K hK => ?_) ?_
    · go_simp
      refine (M1 _ (hgr _ hHeld).1).mono ?_
      rintro e w2 ⟨P, rfl, hP, hg2⟩
      obtain ⟨Ps, Pa, Pn, Pc, rfl⟩ := hP.shape
      (try go_wp2_with fail)
      refine hK.out _ _ (by (try dsimp only); exact hcl _ _ hHeld (by first | with_reducible assumption | with_reducible exact IsGr.refl _ | with_reducible exact (IsGr.refl _).alloc _ | with_reducible exact ((IsGr.refl _).alloc _).alloc _ | assumption)) (fun hHeld2 => ?_)
      clear hK K hHeld
      have hHeld := hHeld2
      clear hHeld2
      (try simp only [Act.put, qA, qB, qC])
      refine wpAnyH_ready (rs := [9]) (by kernel_rfl) (by simp) ?_
      refine AllReadyH.cons (o := { dst := some 15, op := Op.call { callee := Callee.value (Operand.func 40), args := #[Operand.tmp 12, Operand.tmp 14], argTypes := #[53, 53] }, type := 53, pos := "ref.go:29", after := #[{ on := 6, ground := Ground.data }, { on := 8, ground := Ground.data }, { on := 4, ground := Ground.chain }], guard := none }) rfl (fun K hK => ?_) ?_
      · go_simp
        refine (M2 _ (hgr _ hHeld).1).mono ?_
        rintro e w3 ⟨R, rfl, hR, hg3⟩
        replace hP := hP.gr hg3
        obtain ⟨Rs, Ra, Rn, Rc, rfl⟩ := hR.shape
        (try go_wp2_with fail)
        refine hK.out _ _ (by (try dsimp only); exact hcl _ _ hHeld (by first | with_reducible assumption | with_reducible exact IsGr.refl _ | with_reducible exact (IsGr.refl _).alloc _ | with_reducible exact ((IsGr.refl _).alloc _).alloc _ | assumption)) (fun hHeld2 => ?_)
        clear hK K hHeld
        have hHeld := hHeld2
        clear hHeld2
        (try simp only [Act.put, qA, qB, qC])
        refine wpAnyH_ready (rs := [10]) (by kernel_rfl) (by simp) ?_
        refine AllReadyH.cons (o := { dst := some 16, op := Op.call { callee := Callee.value (Operand.func 66), args := #[Operand.tmp 10, Operand.tmp 15], argTypes := #[53, 53] }, type := 3, pos := "ref.go:29", after := #[{ on := 4, ground := Ground.data }, { on := 9, ground := Ground.data }, { on := 9, ground := Ground.chain }], guard := none }) rfl (fun K hK => ?_) ?_
        · go_simp
          refine (CC _ _ _ hP hR).mono ?_
          rintro e w4 ⟨rfl, hg4⟩
          (try go_wp2_with fail)
          refine hK.out _ _ (by (try dsimp only); exact hcl _ _ hHeld (by first | with_reducible assumption | with_reducible exact IsGr.refl _ | with_reducible exact (IsGr.refl _).alloc _ | with_reducible exact ((IsGr.refl _).alloc _).alloc _ | assumption)) (fun hHeld2 => ?_)
          clear hK K hHeld
          have hHeld := hHeld2
          clear hHeld2
          (try simp only [Act.put, qA, qB, qC])
          refine wpAnyH_take (i := 11) (oi := { dst := some 5, op := Op.assign (Operand.tmp 16), type := 3, pos := "ref.go:29", after := #[{ on := 10, ground := Ground.data }, { on := 10, ground := Ground.chain }, { on := 0, ground := Ground.phase }, { on := 1, ground := Ground.phase }, { on := 2, ground := Ground.phase }, { on := 3, ground := Ground.phase }, { on := 4, ground := Ground.phase }, { on := 5, ground := Ground.phase }, { on := 6, ground := Ground.phase }, { on := 7, ground := Ground.phase }, { on := 8, ground := Ground.phase }, { on := 9, ground := Ground.phase }, { on := 10, ground := Ground.phase }], guard := none }) (v := ?_) rfl (by kernel_rfl) (by kernel_rfl) (by kernel_rfl) (fun _ _ _ h => h) (Or.inl ⟨by rfl, ?_⟩) (by assumption) ?_
          rotate_left
          · (intro w hSw; (try dsimp only at hSw); (try have hcs := hcells w hSw); (try go_split_ands); go_simp <;> with_reducible rfl)
          (try simp only [Act.put, qA, qB, qC])
          refine wpAnyH_done (by kernel_rfl) ?_ _
          clear hP hR
          go_upto_region 4 with fail
          refine wp_region_held_drew (S := C) (by kernel_rfl) (by (try dsimp only); exact hcl _ _ hHeld (by with_reducible repeat (first | exact IsGr.refl _ | refine IsGr.gr ?_ _ _ | refine IsGr.alloc ?_ _ | refine IsGr.drew ?_ | refine IsGr.drewN ?_ _))) (fun hHeld => ?_)
          refine wpAnyH_take (i := 0) (oi := { dst := some 20, op := Op.fieldAddr 55 (Operand.tmp 2) 1, type := 0, pos := "ref.go:33", after := #[], guard := none }) (v := ?_) rfl (by kernel_rfl) (by kernel_rfl) (by kernel_rfl) (fun _ _ _ h => h) (Or.inl ⟨by rfl, ?_⟩) (by assumption) ?_
          rotate_left
          · (intro w hSw; (try dsimp only at hSw); (try have hcs := hcells w hSw); (try go_split_ands); go_simp <;> with_reducible rfl)
          (try simp only [Act.put, qA, qB, qC])
          refine wpAnyH_take (i := 1) (oi := { dst := some 21, op := Op.load 53 (Operand.tmp 20), type := 53, pos := "ref.go:33", after := #[{ on := 0, ground := Ground.data }], guard := none }) (v := ?_) rfl (by kernel_rfl) (by kernel_rfl) (by kernel_rfl) (fun _ _ _ h => h) (Or.inl ⟨by rfl, ?_⟩) (by assumption) ?_
          rotate_left
          · (intro w hSw; (try dsimp only at hSw); (try have hcs := hcells w hSw); (try go_split_ands); go_simp <;> with_reducible rfl)
          (try simp only [Act.put, qA, qB, qC])
          refine wpAnyH_take (i := 2) (oi := { dst := some 22, op := Op.fieldAddr 55 (Operand.tmp 3) 2, type := 0, pos := "ref.go:33", after := #[], guard := none }) (v := ?_) rfl (by kernel_rfl) (by kernel_rfl) (by kernel_rfl) (fun _ _ _ h => h) (Or.inl ⟨by rfl, ?_⟩) (by assumption) ?_
          rotate_left
          · (intro w hSw; (try dsimp only at hSw); (try have hcs := hcells w hSw); (try go_split_ands); go_simp <;> with_reducible rfl)
          (try simp only [Act.put, qA, qB, qC])
          refine wpAnyH_take (i := 3) (oi := { dst := some 23, op := Op.load 53 (Operand.tmp 22), type := 53, pos := "ref.go:33", after := #[{ on := 2, ground := Ground.data }], guard := none }) (v := ?_) rfl (by kernel_rfl) (by kernel_rfl) (by kernel_rfl) (fun _ _ _ h => h) (Or.inl ⟨by rfl, ?_⟩) (by assumption) ?_
          rotate_left
          · (intro w hSw; (try dsimp only at hSw); (try have hcs := hcells w hSw); (try go_split_ands); go_simp <;> with_reducible rfl)
          (try simp only [Act.put, qA, qB, qC])
          refine wpAnyH_take (i := 5) (oi := { dst := some 25, op := Op.fieldAddr 55 (Operand.tmp 3) 1, type := 0, pos := "ref.go:33", after := #[], guard := none }) (v := ?_) rfl (by kernel_rfl) (by kernel_rfl) (by kernel_rfl) (fun _ _ _ h => h) (Or.inl ⟨by rfl, ?_⟩) (by assumption) ?_
          rotate_left
          · (intro w hSw; (try dsimp only at hSw); (try have hcs := hcells w hSw); (try go_split_ands); go_simp <;> with_reducible rfl)
          (try simp only [Act.put, qA, qB, qC])
          refine wpAnyH_take (i := 6) (oi := { dst := some 26, op := Op.load 53 (Operand.tmp 25), type := 53, pos := "ref.go:33", after := #[{ on := 5, ground := Ground.data }], guard := none }) (v := ?_) rfl (by kernel_rfl) (by kernel_rfl) (by kernel_rfl) (fun _ _ _ h => h) (Or.inl ⟨by rfl, ?_⟩) (by assumption) ?_
          rotate_left
          · (intro w hSw; (try dsimp only at hSw); (try have hcs := hcells w hSw); (try go_split_ands); go_simp <;> with_reducible rfl)
          (try simp only [Act.put, qA, qB, qC])
          refine wpAnyH_take (i := 7) (oi := { dst := some 27, op := Op.fieldAddr 55 (Operand.tmp 2) 2, type := 0, pos := "ref.go:33", after := #[], guard := none }) (v := ?_) rfl (by kernel_rfl) (by kernel_rfl) (by kernel_rfl) (fun _ _ _ h => h) (Or.inl ⟨by rfl, ?_⟩) (by assumption) ?_
          rotate_left
          · (intro w hSw; (try dsimp only at hSw); (try have hcs := hcells w hSw); (try go_split_ands); go_simp <;> with_reducible rfl)
          (try simp only [Act.put, qA, qB, qC])
          refine wpAnyH_take (i := 8) (oi := { dst := some 28, op := Op.load 53 (Operand.tmp 27), type := 53, pos := "ref.go:33", after := #[{ on := 7, ground := Ground.data }], guard := none }) (v := ?_) rfl (by kernel_rfl) (by kernel_rfl) (by kernel_rfl) (fun _ _ _ h => h) (Or.inl ⟨by rfl, ?_⟩) (by assumption) ?_
          rotate_left
          · (intro w hSw; (try dsimp only at hSw); (try have hcs := hcells w hSw); (try go_split_ands); go_simp <;> with_reducible rfl)
          (try simp only [Act.put, qA, qB, qC])
          refine wpAnyH_ready (rs := [4]) (by kernel_rfl) (by simp) ?_
          refine AllReadyH.cons (o := { dst := some 24, op := Op.call { callee := Callee.value (Operand.func 40), args := #[Operand.tmp 21, Operand.tmp 23], argTypes := #[53, 53] }, type := 53, pos := "ref.go:33", after := #[{ on := 1, ground := Ground.data }, { on := 3, ground := Ground.data }], guard := none }) rfl (fun K hK => ?_) ?_
          · go_simp
            refine (M3 _ (hgr _ hHeld).1).mono ?_
            rintro e w2 ⟨P, rfl, hP, hg2⟩
            obtain ⟨Ps, Pa, Pn, Pc, rfl⟩ := hP.shape
            (try go_wp2_with fail)
            refine hK.out _ _ (by (try dsimp only); exact hcl _ _ hHeld (by first | with_reducible assumption | with_reducible exact IsGr.refl _ | with_reducible exact (IsGr.refl _).alloc _ | with_reducible exact ((IsGr.refl _).alloc _).alloc _ | assumption)) (fun hHeld2 => ?_)
            clear hK K hHeld
            have hHeld := hHeld2
            clear hHeld2
            (try simp only [Act.put, qA, qB, qC])
            refine wpAnyH_ready (rs := [9]) (by kernel_rfl) (by simp) ?_
            refine AllReadyH.cons (o := { dst := some 29, op := Op.call { callee := Callee.value (Operand.func 40), args := #[Operand.tmp 26, Operand.tmp 28], argTypes := #[53, 53] }, type := 53, pos := "ref.go:33", after := #[{ on := 6, ground := Ground.data }, { on := 8, ground := Ground.data }, { on := 4, ground := Ground.chain }], guard := none }) rfl (fun K hK => ?_) ?_
            · go_simp
              refine (M4 _ (hgr _ hHeld).1).mono ?_
              rintro e w3 ⟨R, rfl, hR, hg3⟩
              replace hP := hP.gr hg3
              obtain ⟨Rs, Ra, Rn, Rc, rfl⟩ := hR.shape
              (try go_wp2_with fail)
              refine hK.out _ _ (by (try dsimp only); exact hcl _ _ hHeld (by first | with_reducible assumption | with_reducible exact IsGr.refl _ | with_reducible exact (IsGr.refl _).alloc _ | with_reducible exact ((IsGr.refl _).alloc _).alloc _ | assumption)) (fun hHeld2 => ?_)
              clear hK K hHeld
              have hHeld := hHeld2
              clear hHeld2
              (try simp only [Act.put, qA, qB, qC])
              refine wpAnyH_ready (rs := [10]) (by kernel_rfl) (by simp) ?_
              refine AllReadyH.cons (o := { dst := some 30, op := Op.call { callee := Callee.value (Operand.func 66), args := #[Operand.tmp 24, Operand.tmp 29], argTypes := #[53, 53] }, type := 3, pos := "ref.go:33", after := #[{ on := 4, ground := Ground.data }, { on := 9, ground := Ground.data }, { on := 9, ground := Ground.chain }], guard := none }) rfl (fun K hK => ?_) ?_
              · go_simp
                refine (CD _ _ _ hP hR).mono ?_
                rintro e w4 ⟨rfl, hg4⟩
                (try go_wp2_with fail)
                refine hK.out _ _ (by (try dsimp only); exact hcl _ _ hHeld (by first | with_reducible assumption | with_reducible exact IsGr.refl _ | with_reducible exact (IsGr.refl _).alloc _ | with_reducible exact ((IsGr.refl _).alloc _).alloc _ | assumption)) (fun hHeld2 => ?_)
                clear hK K hHeld
                have hHeld := hHeld2
                clear hHeld2
                (try simp only [Act.put, qA, qB, qC])
                refine wpAnyH_take (i := 11) (oi := { dst := some 4, op := Op.assign (Operand.tmp 30), type := 3, pos := "ref.go:33", after := #[{ on := 10, ground := Ground.data }, { on := 10, ground := Ground.chain }, { on := 0, ground := Ground.phase }, { on := 1, ground := Ground.phase }, { on := 2, ground := Ground.phase }, { on := 3, ground := Ground.phase }, { on := 4, ground := Ground.phase }, { on := 5, ground := Ground.phase }, { on := 6, ground := Ground.phase }, { on := 7, ground := Ground.phase }, { on := 8, ground := Ground.phase }, { on := 9, ground := Ground.phase }, { on := 10, ground := Ground.phase }], guard := none }) (v := ?_) rfl (by kernel_rfl) (by kernel_rfl) (by kernel_rfl) (fun _ _ _ h => h) (Or.inl ⟨by rfl, ?_⟩) (by assumption) ?_
                rotate_left
                · (intro w hSw; (try dsimp only at hSw); (try have hcs := hcells w hSw); (try go_split_ands); go_simp <;> with_reducible rfl)
                (try simp only [Act.put, qA, qB, qC])
                refine wpAnyH_done (by kernel_rfl) ?_ _
                have hg := (hgr _ hHeld).1
                clear hcells hin hcl hgr hHeld hP hR
                go_wp2
                go_ret
                exact ⟨ret_int' HR.out, hg⟩
              exact AllReadyH.nil
            exact AllReadyH.nil
          exact AllReadyH.nil
          
        exact AllReadyH.nil
      exact AllReadyH.nil
    exact AllReadyH.nil
  · have HR : Hid (A = K) := by unfold Hid; rw [hK, if_neg hA]
    have hA' : (A == 0) = false := by simp [hA]
    clear hK
    go_enter Try.func27, Try.ntmps27
    go_upto_region 1 with fail
    obtain ⟨C, hin, hcl, hcells, hgr⟩ : ∃ C : World → Prop, (∀ w', w.heap.size + 2 ≤ w'.heap.size ∧ IsGr w w' ∧ (w'.cell? ⟨w.heap.size, 0, none⟩ = some (.bool xs) ∧ w'.cell? ⟨w.heap.size, 1, none⟩ = some (.slice xa xn xc) ∧ w'.cell? ⟨w.heap.size, 2, none⟩ = some (.bool ys) ∧ w'.cell? ⟨w.heap.size, 3, none⟩ = some (.slice ya yn yc) ∧ w'.cell? ⟨w.heap.size, 4, none⟩ = some (.bool zs) ∧ w'.cell? ⟨w.heap.size, 5, none⟩ = some (.slice za zn zc)) ∧ (w'.cell? ⟨w.heap.size + 1, 0, none⟩ = some (.bool us) ∧ w'.cell? ⟨w.heap.size + 1, 1, none⟩ = some (.slice ua un uc) ∧ w'.cell? ⟨w.heap.size + 1, 2, none⟩ = some (.bool vs) ∧ w'.cell? ⟨w.heap.size + 1, 3, none⟩ = some (.slice va vn vc) ∧ w'.cell? ⟨w.heap.size + 1, 4, none⟩ = some (.bool ts) ∧ w'.cell? ⟨w.heap.size + 1, 5, none⟩ = some (.slice ta tn tc)) → C w') ∧ (∀ u u', C u → IsGr u u' → C u') ∧ (∀ w', C w' → (w'.cell? ⟨w.heap.size, 0, none⟩ = some (.bool xs) ∧ w'.cell? ⟨w.heap.size, 1, none⟩ = some (.slice xa xn xc) ∧ w'.cell? ⟨w.heap.size, 2, none⟩ = some (.bool ys) ∧ w'.cell? ⟨w.heap.size, 3, none⟩ = some (.slice ya yn yc) ∧ w'.cell? ⟨w.heap.size, 4, none⟩ = some (.bool zs) ∧ w'.cell? ⟨w.heap.size, 5, none⟩ = some (.slice za zn zc)) ∧ (w'.cell? ⟨w.heap.size + 1, 0, none⟩ = some (.bool us) ∧ w'.cell? ⟨w.heap.size + 1, 1, none⟩ = some (.slice ua un uc) ∧ w'.cell? ⟨w.heap.size + 1, 2, none⟩ = some (.bool vs) ∧ w'.cell? ⟨w.heap.size + 1, 3, none⟩ = some (.slice va vn vc) ∧ w'.cell? ⟨w.heap.size + 1, 4, none⟩ = some (.bool ts) ∧ w'.cell? ⟨w.heap.size + 1, 5, none⟩ = some (.slice ta tn tc))) ∧ (∀ w', C w' → IsGr w w' ∧ w.heap.size + 2 ≤ w'.heap.size) := by
      refine ⟨fun w' => w.heap.size + 2 ≤ w'.heap.size ∧ IsGr w w' ∧ (w'.cell? ⟨w.heap.size, 0, none⟩ = some (.bool xs) ∧ w'.cell? ⟨w.heap.size, 1, none⟩ = some (.slice xa xn xc) ∧ w'.cell? ⟨w.heap.size, 2, none⟩ = some (.bool ys) ∧ w'.cell? ⟨w.heap.size, 3, none⟩ = some (.slice ya yn yc) ∧ w'.cell? ⟨w.heap.size, 4, none⟩ = some (.bool zs) ∧ w'.cell? ⟨w.heap.size, 5, none⟩ = some (.slice za zn zc)) ∧ (w'.cell? ⟨w.heap.size + 1, 0, none⟩ = some (.bool us) ∧ w'.cell? ⟨w.heap.size + 1, 1, none⟩ = some (.slice ua un uc) ∧ w'.cell? ⟨w.heap.size + 1, 2, none⟩ = some (.bool vs) ∧ w'.cell? ⟨w.heap.size + 1, 3, none⟩ = some (.slice va vn vc) ∧ w'.cell? ⟨w.heap.size + 1, 4, none⟩ = some (.bool ts) ∧ w'.cell? ⟨w.heap.size + 1, 5, none⟩ = some (.slice ta tn tc)), fun w' h => h, ?_, fun w' h => h.2.2, fun w' h => ⟨h.2.1, h.1⟩⟩
      rintro u u' ⟨h0, h1, h2⟩ hg
      refine ⟨Nat.le_trans h0 hg.size, h1.trans hg, ?_⟩
      exact ⟨⟨hg.cell_at (by omega) h2.1.1, hg.cell_at (by omega) h2.1.2.1, hg.cell_at (by omega) h2.1.2.2.1, hg.cell_at (by omega) h2.1.2.2.2.1, hg.cell_at (by omega) h2.1.2.2.2.2.1, hg.cell_at (by omega) h2.1.2.2.2.2.2⟩, ⟨hg.cell_at (by omega) h2.2.1, hg.cell_at (by omega) h2.2.2.1, hg.cell_at (by omega) h2.2.2.2.1, hg.cell_at (by omega) h2.2.2.2.2.1, hg.cell_at (by omega) h2.2.2.2.2.2.1, hg.cell_at (by omega) h2.2.2.2.2.2.2⟩⟩
    refine wp_region_held_drew (S := C) (by kernel_rfl) (by (try dsimp only); exact hin _ ⟨by first | omega | (simp; done) | (simp; omega), (by with_reducible repeat (first | exact IsGr.refl _ | refine IsGr.gr ?_ _ _ | refine IsGr.alloc ?_ _ | refine IsGr.drew ?_ | refine IsGr.drewN ?_ _)), by simp [go_sem]⟩) (fun hHeld => ?_)
    refine wpAnyH_take (i := 0) (oi := { dst := some 6, op := Op.fieldAddr 55 (Operand.tmp 2) 0, type := 0, pos := "ref.go:29", after := #[], guard := none }) (v := ?_) rfl (by kernel_rfl) (by kernel_rfl) (by kernel_rfl) (fun _ _ _ h => h) (Or.inl ⟨by rfl, ?_⟩) (by assumption) ?_
    rotate_left
    · (intro w hSw; (try dsimp only at hSw); (try have hcs := hcells w hSw); (try go_split_ands); go_simp <;> with_reducible rfl)
    (try simp only [Act.put, qA, qB, qC])
    refine wpAnyH_take (i := 1) (oi := { dst := some 7, op := Op.load 53 (Operand.tmp 6), type := 53, pos := "ref.go:29", after := #[{ on := 0, ground := Ground.data }], guard := none }) (v := ?_) rfl (by kernel_rfl) (by kernel_rfl) (by kernel_rfl) (fun _ _ _ h => h) (Or.inl ⟨by rfl, ?_⟩) (by assumption) ?_
    rotate_left
    · (intro w hSw; (try dsimp only at hSw); (try have hcs := hcells w hSw); (try go_split_ands); go_simp <;> with_reducible rfl)
    (try simp only [Act.put, qA, qB, qC])
    refine wpAnyH_take (i := 2) (oi := { dst := some 8, op := Op.fieldAddr 55 (Operand.tmp 3) 2, type := 0, pos := "ref.go:29", after := #[], guard := none }) (v := ?_) rfl (by kernel_rfl) (by kernel_rfl) (by kernel_rfl) (fun _ _ _ h => h) (Or.inl ⟨by rfl, ?_⟩) (by assumption) ?_
    rotate_left
    · (intro w hSw; (try dsimp only at hSw); (try have hcs := hcells w hSw); (try go_split_ands); go_simp <;> with_reducible rfl)
    (try simp only [Act.put, qA, qB, qC])
    refine wpAnyH_take (i := 3) (oi := { dst := some 9, op := Op.load 53 (Operand.tmp 8), type := 53, pos := "ref.go:29", after := #[{ on := 2, ground := Ground.data }], guard := none }) (v := ?_) rfl (by kernel_rfl) (by kernel_rfl) (by kernel_rfl) (fun _ _ _ h => h) (Or.inl ⟨by rfl, ?_⟩) (by assumption) ?_
    rotate_left
    · (intro w hSw; (try dsimp only at hSw); (try have hcs := hcells w hSw); (try go_split_ands); go_simp <;> with_reducible rfl)
    (try simp only [Act.put, qA, qB, qC])
    refine wpAnyH_take (i := 5) (oi := { dst := some 11, op := Op.fieldAddr 55 (Operand.tmp 3) 0, type := 0, pos := "ref.go:29", after := #[], guard := none }) (v := ?_) rfl (by kernel_rfl) (by kernel_rfl) (by kernel_rfl) (fun _ _ _ h => h) (Or.inl ⟨by rfl, ?_⟩) (by assumption) ?_
    rotate_left
    · (intro w hSw; (try dsimp only at hSw); (try have hcs := hcells w hSw); (try go_split_ands); go_simp <;> with_reducible rfl)
    (try simp only [Act.put, qA, qB, qC])
    refine wpAnyH_take (i := 6) (oi := { dst := some 12, op := Op.load 53 (Operand.tmp 11), type := 53, pos := "ref.go:29", after := #[{ on := 5, ground := Ground.data }], guard := none }) (v := ?_) rfl (by kernel_rfl) (by kernel_rfl) (by kernel_rfl) (fun _ _ _ h => h) (Or.inl ⟨by rfl, ?_⟩) (by assumption) ?_
    rotate_left
    · (intro w hSw; (try dsimp only at hSw); (try have hcs := hcells w hSw); (try go_split_ands); go_simp <;> with_reducible rfl)
    (try simp only [Act.put, qA, qB, qC])
    refine wpAnyH_take (i := 7) (oi := { dst := some 13, op := Op.fieldAddr 55 (Operand.tmp 2) 2, type := 0, pos := "ref.go:29", after := #[], guard := none }) (v := ?_) rfl (by kernel_rfl) (by kernel_rfl) (by kernel_rfl) (fun _ _ _ h => h) (Or.inl ⟨by rfl, ?_⟩) (by assumption) ?_
    rotate_left
    · (intro w hSw; (try dsimp only at hSw); (try have hcs := hcells w hSw); (try go_split_ands); go_simp <;> with_reducible rfl)
    (try simp only [Act.put, qA, qB, qC])
    refine wpAnyH_take (i := 8) (oi := { dst := some 14, op := Op.load 53 (Operand.tmp 13), type := 53, pos := "ref.go:29", after := #[{ on := 7, ground := Ground.data }], guard := none }) (v := ?_) rfl (by kernel_rfl) (by kernel_rfl) (by kernel_rfl) (fun _ _ _ h => h) (Or.inl ⟨by rfl, ?_⟩) (by assumption) ?_
    rotate_left
    · (intro w hSw; (try dsimp only at hSw); (try have hcs := hcells w hSw); (try go_split_ands); go_simp <;> with_reducible rfl)
    (try simp only [Act.put, qA, qB, qC])
    refine wpAnyH_ready (rs := [4]) (by kernel_rfl) (by simp) ?_
    refine AllReadyH.cons (o := { dst := some 10, op := Op.call { callee := Callee.value (Operand.func 40), args := #[Operand.tmp 7, Operand.tmp 9], argTypes := #[53, 53] }, type := 53, pos := "ref.go:29", after := #[{ on := 1, ground := Ground.data }, { on := 3, ground := Ground.data }], guard := none }) rfl (fun K hK => ?_) ?_
    · go_simp
      refine (M1 _ (hgr _ hHeld).1).mono ?_
      rintro e w2 ⟨P, rfl, hP, hg2⟩
      obtain ⟨Ps, Pa, Pn, Pc, rfl⟩ := hP.shape
      (try go_wp2_with fail)
      refine hK.out _ _ (by (try dsimp only); exact hcl _ _ hHeld (by first | with_reducible assumption | with_reducible exact IsGr.refl _ | with_reducible exact (IsGr.refl _).alloc _ | with_reducible exact ((IsGr.refl _).alloc _).alloc _ | assumption)) (fun hHeld2 => ?_)
      clear hK K hHeld
      have hHeld := hHeld2
      clear hHeld2
      (try simp only [Act.put, qA, qB, qC])
      refine wpAnyH_ready (rs := [9]) (by kernel_rfl) (by simp) ?_
      refine AllReadyH.cons (o := { dst := some 15, op := Op.call { callee := Callee.value (Operand.func 40), args := #[Operand.tmp 12, Operand.tmp 14], argTypes := #[53, 53] }, type := 53, pos := "ref.go:29", after := #[{ on := 6, ground := Ground.data }, { on := 8, ground := Ground.data }, { on := 4, ground := Ground.chain }], guard := none }) rfl (fun K hK => ?_) ?_
      · go_simp
        refine (M2 _ (hgr _ hHeld).1).mono ?_
        rintro e w3 ⟨R, rfl, hR, hg3⟩
        replace hP := hP.gr hg3
        obtain ⟨Rs, Ra, Rn, Rc, rfl⟩ := hR.shape
        (try go_wp2_with fail)
        refine hK.out _ _ (by (try dsimp only); exact hcl _ _ hHeld (by first | with_reducible assumption | with_reducible exact IsGr.refl _ | with_reducible exact (IsGr.refl _).alloc _ | with_reducible exact ((IsGr.refl _).alloc _).alloc _ | assumption)) (fun hHeld2 => ?_)
        clear hK K hHeld
        have hHeld := hHeld2
        clear hHeld2
        (try simp only [Act.put, qA, qB, qC])
        refine wpAnyH_ready (rs := [10]) (by kernel_rfl) (by simp) ?_
        refine AllReadyH.cons (o := { dst := some 16, op := Op.call { callee := Callee.value (Operand.func 66), args := #[Operand.tmp 10, Operand.tmp 15], argTypes := #[53, 53] }, type := 3, pos := "ref.go:29", after := #[{ on := 4, ground := Ground.data }, { on := 9, ground := Ground.data }, { on := 9, ground := Ground.chain }], guard := none }) rfl (fun K hK => ?_) ?_
        · go_simp
          refine (CC _ _ _ hP hR).mono ?_
          rintro e w4 ⟨rfl, hg4⟩
          (try go_wp2_with fail)
          refine hK.out _ _ (by (try dsimp only); exact hcl _ _ hHeld (by first | with_reducible assumption | with_reducible exact IsGr.refl _ | with_reducible exact (IsGr.refl _).alloc _ | with_reducible exact ((IsGr.refl _).alloc _).alloc _ | assumption)) (fun hHeld2 => ?_)
          clear hK K hHeld
          have hHeld := hHeld2
          clear hHeld2
          (try simp only [Act.put, qA, qB, qC])
          refine wpAnyH_take (i := 11) (oi := { dst := some 5, op := Op.assign (Operand.tmp 16), type := 3, pos := "ref.go:29", after := #[{ on := 10, ground := Ground.data }, { on := 10, ground := Ground.chain }, { on := 0, ground := Ground.phase }, { on := 1, ground := Ground.phase }, { on := 2, ground := Ground.phase }, { on := 3, ground := Ground.phase }, { on := 4, ground := Ground.phase }, { on := 5, ground := Ground.phase }, { on := 6, ground := Ground.phase }, { on := 7, ground := Ground.phase }, { on := 8, ground := Ground.phase }, { on := 9, ground := Ground.phase }, { on := 10, ground := Ground.phase }], guard := none }) (v := ?_) rfl (by kernel_rfl) (by kernel_rfl) (by kernel_rfl) (fun _ _ _ h => h) (Or.inl ⟨by rfl, ?_⟩) (by assumption) ?_
          rotate_left
          · (intro w hSw; (try dsimp only at hSw); (try have hcs := hcells w hSw); (try go_split_ands); go_simp <;> with_reducible rfl)
          (try simp only [Act.put, qA, qB, qC])
          refine wpAnyH_done (by kernel_rfl) ?_ _
          have hg := (hgr _ hHeld).1
          clear hcells hin hcl hgr hHeld hP hR
          go_wp2
          go_ret
          exact ⟨ret_int' HR.out, hg⟩
        exact AllReadyH.nil
      exact AllReadyH.nil
    exact AllReadyH.nil

set_option maxRecDepth 20000 in set_option maxHeartbeats 2000000 in
theorem RSAt_any (a1 a2 : Int) (ha : rightP a1 a2 = true) (w : World) :
    Calls Try.prog 36 #[.agg #[.int .i64 a1, .int .i64 a2]] w fun e w' => ∃ v, e = .returned v ∧ IsSp w' v a1 a2 1 ∧ IsGr w w' := by
  have r := rightP_t ha
  have O1 := fun w => BigOf_any a1 (by omega) (by omega) w
  have O2 := fun w => BigOf_any a2 (by omega) (by omega) w
  have O3 := fun w => BigOf_any 1 (by omega) (by omega) w
  clear ha r
  go_enter Try.func36, Try.ntmps36
  go_upto_region 1 with fail
  obtain ⟨C, hin, hcl, hcells, hgr⟩ : ∃ C : World → Prop, (∀ w', w.heap.size + 2 ≤ w'.heap.size ∧ IsGr w w' ∧ (w'.cell? ⟨w.heap.size, 0, none⟩ = some (.int .i64 a1)) ∧ (w'.cell? ⟨w.heap.size, 1, none⟩ = some (.int .i64 a2)) ∧ (w'.cell? ⟨w.heap.size + 1, 0, none⟩ = some (.bool false)) ∧ (w'.cell? ⟨w.heap.size + 1, 1, none⟩ = some (.slice none 0 0)) ∧ (w'.cell? ⟨w.heap.size + 1, 2, none⟩ = some (.bool false)) ∧ (w'.cell? ⟨w.heap.size + 1, 3, none⟩ = some (.slice none 0 0)) ∧ (w'.cell? ⟨w.heap.size + 1, 4, none⟩ = some (.bool false)) ∧ (w'.cell? ⟨w.heap.size + 1, 5, none⟩ = some (.slice none 0 0)) ∧ (w'.frozen? ⟨w.heap.size + 1, 0, none⟩ = false) ∧ (w'.frozen? ⟨w.heap.size + 1, 1, none⟩ = false) ∧ (w'.frozen? ⟨w.heap.size + 1, 2, none⟩ = false) ∧ (w'.frozen? ⟨w.heap.size + 1, 3, none⟩ = false) ∧ (w'.frozen? ⟨w.heap.size + 1, 4, none⟩ = false) ∧ (w'.frozen? ⟨w.heap.size + 1, 5, none⟩ = false) → C w') ∧ (∀ u u', C u → IsGr u u' → C u') ∧ (∀ w', C w' → (w'.cell? ⟨w.heap.size, 0, none⟩ = some (.int .i64 a1)) ∧ (w'.cell? ⟨w.heap.size, 1, none⟩ = some (.int .i64 a2)) ∧ (w'.cell? ⟨w.heap.size + 1, 0, none⟩ = some (.bool false)) ∧ (w'.cell? ⟨w.heap.size + 1, 1, none⟩ = some (.slice none 0 0)) ∧ (w'.cell? ⟨w.heap.size + 1, 2, none⟩ = some (.bool false)) ∧ (w'.cell? ⟨w.heap.size + 1, 3, none⟩ = some (.slice none 0 0)) ∧ (w'.cell? ⟨w.heap.size + 1, 4, none⟩ = some (.bool false)) ∧ (w'.cell? ⟨w.heap.size + 1, 5, none⟩ = some (.slice none 0 0)) ∧ (w'.frozen? ⟨w.heap.size + 1, 0, none⟩ = false) ∧ (w'.frozen? ⟨w.heap.size + 1, 1, none⟩ = false) ∧ (w'.frozen? ⟨w.heap.size + 1, 2, none⟩ = false) ∧ (w'.frozen? ⟨w.heap.size + 1, 3, none⟩ = false) ∧ (w'.frozen? ⟨w.heap.size + 1, 4, none⟩ = false) ∧ (w'.frozen? ⟨w.heap.size + 1, 5, none⟩ = false)) ∧ (∀ w', C w' → IsGr w w' ∧ w.heap.size + 2 ≤ w'.heap.size) := by
    refine ⟨fun w' => w.heap.size + 2 ≤ w'.heap.size ∧ IsGr w w' ∧ (w'.cell? ⟨w.heap.size, 0, none⟩ = some (.int .i64 a1)) ∧ (w'.cell? ⟨w.heap.size, 1, none⟩ = some (.int .i64 a2)) ∧ (w'.cell? ⟨w.heap.size + 1, 0, none⟩ = some (.bool false)) ∧ (w'.cell? ⟨w.heap.size + 1, 1, none⟩ = some (.slice none 0 0)) ∧ (w'.cell? ⟨w.heap.size + 1, 2, none⟩ = some (.bool false)) ∧ (w'.cell? ⟨w.heap.size + 1, 3, none⟩ = some (.slice none 0 0)) ∧ (w'.cell? ⟨w.heap.size + 1, 4, none⟩ = some (.bool false)) ∧ (w'.cell? ⟨w.heap.size + 1, 5, none⟩ = some (.slice none 0 0)) ∧ (w'.frozen? ⟨w.heap.size + 1, 0, none⟩ = false) ∧ (w'.frozen? ⟨w.heap.size + 1, 1, none⟩ = false) ∧ (w'.frozen? ⟨w.heap.size + 1, 2, none⟩ = false) ∧ (w'.frozen? ⟨w.heap.size + 1, 3, none⟩ = false) ∧ (w'.frozen? ⟨w.heap.size + 1, 4, none⟩ = false) ∧ (w'.frozen? ⟨w.heap.size + 1, 5, none⟩ = false), fun w' h => h, ?_, fun w' h => h.2.2, fun w' h => ⟨h.2.1, h.1⟩⟩
    rintro u u' ⟨h0, h1, h2⟩ hg
    refine ⟨Nat.le_trans h0 hg.size, h1.trans hg, ?_⟩
    exact ⟨hg.cell_at (by omega) h2.1, hg.cell_at (by omega) h2.2.1, hg.cell_at (by omega) h2.2.2.1, hg.cell_at (by omega) h2.2.2.2.1, hg.cell_at (by omega) h2.2.2.2.2.1, hg.cell_at (by omega) h2.2.2.2.2.2.1, hg.cell_at (by omega) h2.2.2.2.2.2.2.1, hg.cell_at (by omega) h2.2.2.2.2.2.2.2.1, hg.frozen_at (by omega) h2.2.2.2.2.2.2.2.2.1, hg.frozen_at (by omega) h2.2.2.2.2.2.2.2.2.2.1, hg.frozen_at (by omega) h2.2.2.2.2.2.2.2.2.2.2.1, hg.frozen_at (by omega) h2.2.2.2.2.2.2.2.2.2.2.2.1, hg.frozen_at (by omega) h2.2.2.2.2.2.2.2.2.2.2.2.2.1, hg.frozen_at (by omega) h2.2.2.2.2.2.2.2.2.2.2.2.2.2⟩
  refine wp_region_but (S := C) (k := 8) (n := 8) (by kernel_rfl) (by kernel_rfl) (by (try dsimp only); exact hin _ ⟨by first | omega | (simp; done) | (simp; omega), (by with_reducible repeat (first | exact IsGr.refl _ | refine IsGr.gr ?_ _ _ | refine IsGr.alloc ?_ _ | refine IsGr.drew ?_ | refine IsGr.drewN ?_ _)), by simp [go_sem]⟩) (fun hHeld => ?_)
  refine wpAnyH_take (i := 0) (oi := { dst := some 3, op := Op.fieldAddr 27 (Operand.tmp 1) 0, type := 0, pos := "ref.go:14", after := #[], guard := none }) (v := ?_) rfl (by kernel_rfl) (by kernel_rfl) (by kernel_rfl) (fun _ _ _ h => h) (Or.inl ⟨by rfl, ?_⟩) (by assumption) ?_
  rotate_left
  · (intro w hSw; (try dsimp only at hSw); (try have hcs := hcells w hSw); (try go_split_ands); go_simp <;> with_reducible rfl)
  (try simp only [Act.put, qA, qB, qC])
  refine wpAnyH_take (i := 1) (oi := { dst := some 4, op := Op.load 3 (Operand.tmp 3), type := 3, pos := "ref.go:14", after := #[{ on := 0, ground := Ground.data }], guard := none }) (v := ?_) rfl (by kernel_rfl) (by kernel_rfl) (by kernel_rfl) (fun _ _ _ h => h) (Or.inl ⟨by rfl, ?_⟩) (by assumption) ?_
  rotate_left
  · (intro w hSw; (try dsimp only at hSw); (try have hcs := hcells w hSw); (try go_split_ands); go_simp <;> with_reducible rfl)
  (try simp only [Act.put, qA, qB, qC])
  refine wpAnyH_take (i := 3) (oi := { dst := some 6, op := Op.fieldAddr 27 (Operand.tmp 1) 1, type := 0, pos := "ref.go:14", after := #[], guard := none }) (v := ?_) rfl (by kernel_rfl) (by kernel_rfl) (by kernel_rfl) (fun _ _ _ h => h) (Or.inl ⟨by rfl, ?_⟩) (by assumption) ?_
  rotate_left
  · (intro w hSw; (try dsimp only at hSw); (try have hcs := hcells w hSw); (try go_split_ands); go_simp <;> with_reducible rfl)
  (try simp only [Act.put, qA, qB, qC])
  refine wpAnyH_take (i := 4) (oi := { dst := some 7, op := Op.load 3 (Operand.tmp 6), type := 3, pos := "ref.go:14", after := #[{ on := 3, ground := Ground.data }], guard := none }) (v := ?_) rfl (by kernel_rfl) (by kernel_rfl) (by kernel_rfl) (fun _ _ _ h => h) (Or.inl ⟨by rfl, ?_⟩) (by assumption) ?_
  rotate_left
  · (intro w hSw; (try dsimp only at hSw); (try have hcs := hcells w hSw); (try go_split_ands); go_simp <;> with_reducible rfl)
  (try simp only [Act.put, qA, qB, qC])
  refine wpAnyH_ready (rs := [2]) (by kernel_rfl) (by simp) ?_
  refine AllReadyH.cons (o := { dst := some 5, op := Op.call { callee := Callee.value (Operand.func 41), args := #[Operand.tmp 4], argTypes := #[3] }, type := 53, pos := "ref.go:14", after := #[{ on := 1, ground := Ground.data }], guard := none }) rfl (fun K hK => ?_) ?_
  · go_simp
    refine (O1 _).mono ?_
    rintro e w2 ⟨x, rfl, hx, hg2⟩
    obtain ⟨xs, xa, xn, xc, rfl⟩ := hx.shape
    (try go_wp2_with fail)
    refine hK.out _ _ (by (try dsimp only); exact hcl _ _ hHeld (by first | with_reducible assumption | with_reducible exact IsGr.refl _ | with_reducible exact (IsGr.refl _).alloc _ | with_reducible exact ((IsGr.refl _).alloc _).alloc _ | assumption)) (fun hHeld2 => ?_)
    clear hK K hHeld
    have hHeld := hHeld2
    clear hHeld2
    (try simp only [Act.put, qA, qB, qC])
    refine wpAnyH_ready (rs := [5]) (by kernel_rfl) (by simp) ?_
    refine AllReadyH.cons (o := { dst := some 8, op := Op.call { callee := Callee.value (Operand.func 41), args := #[Operand.tmp 7], argTypes := #[3] }, type := 53, pos := "ref.go:14", after := #[{ on := 4, ground := Ground.data }, { on := 2, ground := Ground.chain }], guard := none }) rfl (fun K hK => ?_) ?_
    · go_simp
      refine (O2 _).mono ?_
      rintro e w3 ⟨y, rfl, hy, hg3⟩
      replace hx := hx.gr hg3
      obtain ⟨ys, ya, yn, yc, rfl⟩ := hy.shape
      (try go_wp2_with fail)
      refine hK.out _ _ (by (try dsimp only); exact hcl _ _ hHeld (by first | with_reducible assumption | with_reducible exact IsGr.refl _ | with_reducible exact (IsGr.refl _).alloc _ | with_reducible exact ((IsGr.refl _).alloc _).alloc _ | assumption)) (fun hHeld2 => ?_)
      clear hK K hHeld
      have hHeld := hHeld2
      clear hHeld2
      (try simp only [Act.put, qA, qB, qC])
      refine wpAnyH_ready (rs := [6]) (by kernel_rfl) (by simp) ?_
      refine AllReadyH.cons (o := { dst := some 9, op := Op.call { callee := Callee.value (Operand.func 41), args := #[Operand.const (Value.int IntKind.i64 1)], argTypes := #[3] }, type := 53, pos := "ref.go:14", after := #[{ on := 5, ground := Ground.chain }], guard := none }) rfl (fun K hK => ?_) ?_
      · go_simp
        refine (O3 _).mono ?_
        rintro e w4 ⟨z, rfl, hz, hg4⟩
        replace hx := hx.gr hg4
        replace hy := hy.gr hg4
        obtain ⟨zs, za, zn, zc, rfl⟩ := hz.shape
        (try go_wp2_with fail)
        refine hK.out _ _ (by (try dsimp only); exact hcl _ _ hHeld (by first | with_reducible assumption | with_reducible exact IsGr.refl _ | with_reducible exact (IsGr.refl _).alloc _ | with_reducible exact ((IsGr.refl _).alloc _).alloc _ | assumption)) (fun hHeld2 => ?_)
        clear hK K hHeld
        have hHeld := hHeld2
        clear hHeld2
        (try simp only [Act.put, qA, qB, qC])
        refine wpAnyH_take (i := 7) (oi := { dst := some 10, op := Op.build 55 #[(0, Operand.tmp 5), (1, Operand.tmp 8), (2, Operand.tmp 9)], type := 55, pos := "ref.go:14", after := #[{ on := 2, ground := Ground.data }, { on := 5, ground := Ground.data }, { on := 6, ground := Ground.data }], guard := none }) (v := ?_) rfl (by kernel_rfl) (by kernel_rfl) (by kernel_rfl) (fun _ _ _ h => h) (Or.inl ⟨by rfl, ?_⟩) (by assumption) ?_
        rotate_left
        · (intro w hSw; (try dsimp only at hSw); (try have hcs := hcells w hSw); (try go_split_ands); go_simp <;> with_reducible rfl)
        (try simp only [Act.put, qA, qB, qC])
        refine wpAnyH_done (by kernel_rfl) ?_ _
        obtain ⟨_, _, z0, z1, z2, z3, z4, z5, f0, f1, f2, f3, f4, f5⟩ := hcells _ hHeld
        obtain ⟨hg, hs⟩ := hgr _ hHeld
        have kr : w.heap.size + 1 < w4.heap.size := by omega
        refine butLast_step (o := { dst := none, op := Op.store 55 (Operand.tmp 2) (Operand.tmp 10), type := 0, pos := "ref.go:14", after := #[{ on := 7, ground := Ground.data }, { on := 6, ground := Ground.chain }, { on := 0, ground := Ground.phase }, { on := 1, ground := Ground.phase }, { on := 2, ground := Ground.phase }, { on := 3, ground := Ground.phase }, { on := 4, ground := Ground.phase }, { on := 5, ground := Ground.phase }, { on := 6, ground := Ground.phase }, { on := 7, ground := Ground.phase }], guard := none }) rfl (fun K hK => ?_)
        go_simp
        refine hK.out _ _ ?_
        clear hK K
        (try simp only [Act.put, qA, qB, qC])
        go_wp2
        have hbe := hg.below
        have kq : w.heap.size ≤ w.heap.size + 1 := by omega
        refine bodyPost_ret (v := .agg #[.bool xs, .slice xa xn xc, .bool ys, .slice ya yn yc, .bool zs, .slice za zn zc]) (by simp [results, Try.results36, go_sem, z0, z1, z2, z3, z4, z5]) rfl ⟨_, rfl, ⟨xs, xa, xn, xc, ys, ya, yn, yc, zs, za, zn, zc, rfl, hx.kb (Kb.set (Kb.set (Kb.set (Kb.set (Kb.set (Kb.set (Kb.refl _) _ _ z0 (fun n h => by cases h)) _ _ z1 (fun n h => by cases h)) _ _ z2 (fun n h => by cases h)) _ _ z3 (fun n h => by cases h)) _ _ z4 (fun n h => by cases h)) _ _ z5 (fun n h => by cases h)), hy.kb (Kb.set (Kb.set (Kb.set (Kb.set (Kb.set (Kb.set (Kb.refl _) _ _ z0 (fun n h => by cases h)) _ _ z1 (fun n h => by cases h)) _ _ z2 (fun n h => by cases h)) _ _ z3 (fun n h => by cases h)) _ _ z4 (fun n h => by cases h)) _ _ z5 (fun n h => by cases h)), hz.kb (Kb.set (Kb.set (Kb.set (Kb.set (Kb.set (Kb.set (Kb.refl _) _ _ z0 (fun n h => by cases h)) _ _ z1 (fun n h => by cases h)) _ _ z2 (fun n h => by cases h)) _ _ z3 (fun n h => by cases h)) _ _ z4 (fun n h => by cases h)) _ _ z5 (fun n h => by cases h))⟩, IsGr.of_below (Below.setCell (Below.setCell (Below.setCell (Below.setCell (Below.setCell (Below.setCell hbe kq _) kq _) kq _) kq _) kq _) kq _)⟩
      exact AllReadyH.nil
    exact AllReadyH.nil
  exact AllReadyH.nil

theorem sm_of {n : Int} (h : -4398046511104 ≤ n ∧ n ≤ 4398046511104) : Sm n := by unfold Sm; omega
set_option maxRecDepth 20000 in set_option maxHeartbeats 2000000 in
theorem RSSide_any (a1 a2 b1 b2 : Int) (p : Value) (x y z : Int) (w : World) (ha : rightP a1 a2 = true) (hb : rightP b1 b2 = true) (hp : IsSp w p x y z) (fx : Fit x) (fy : Fit y) (fz : Fit z) :
    Calls Try.prog 33 #[.agg #[.int .i64 a1, .int .i64 a2], .agg #[.int .i64 b1, .int .i64 b2], p] w fun e w' => e = .returned (.int .i64 (cmpI (sideS a1 a2 b1 b2 x y z) 0)) ∧ IsGr w w' := by
  obtain ⟨xs, xa, xn, xc, ys, ya, yn, yc, zs, za, zn, zc, rfl, hx, hy, hz⟩ := hp
  have ra := rightP_t ha
  have rb := rightP_t hb
  obtain ⟨D1, e1, d1, v1⟩ : ∃ D, b1 - a1 = D ∧ (-4398046511104 ≤ D ∧ D ≤ 4398046511104) ∧ IntKind.i64.wrap (b1 - a1) = D := ⟨_, rfl, by omega, by rw [IntKind.wrap_i64]; omega⟩
  obtain ⟨D2, e2, d2, v2⟩ : ∃ D, b2 - a2 = D ∧ (-4398046511104 ≤ D ∧ D ≤ 4398046511104) ∧ IntKind.i64.wrap (b2 - a2) = D := ⟨_, rfl, by omega, by rw [IntKind.wrap_i64]; omega⟩
  have q1 := mul_le_of (x := a1) (y := z) (A := 4398046511104) (B := 57896044618658097711785492504343953926634992332820282019728792003956564819968) (by omega) (by unfold Fit at fz; omega)
  have q2 := mul_le_of (x := a2) (y := z) (A := 4398046511104) (B := 57896044618658097711785492504343953926634992332820282019728792003956564819968) (by omega) (by unfold Fit at fz; omega)
  obtain ⟨G1, g1⟩ : ∃ G, G = a1 * z := ⟨_, rfl⟩
  obtain ⟨G2, g2⟩ : ∃ G, G = a2 * z := ⟨_, rfl⟩
  obtain ⟨E1, k1⟩ : ∃ E, E = x - G1 := ⟨_, rfl⟩
  obtain ⟨E2, k2⟩ : ∃ E, E = y - G2 := ⟨_, rfl⟩
  have bE1 : -(4398046511105 * 57896044618658097711785492504343953926634992332820282019728792003956564819968) ≤ E1 ∧ E1 ≤ 4398046511105 * 57896044618658097711785492504343953926634992332820282019728792003956564819968 := by unfold Fit at fx; omega
  have bE2 : -(4398046511105 * 57896044618658097711785492504343953926634992332820282019728792003956564819968) ≤ E2 ∧ E2 ≤ 4398046511105 * 57896044618658097711785492504343953926634992332820282019728792003956564819968 := by unfold Fit at fy; omega
  have q3 := mul_le_of d1 bE2
  have q4 := mul_le_of d2 bE1
  obtain ⟨T1, j1⟩ : ∃ T, T = D1 * E2 := ⟨_, rfl⟩
  obtain ⟨T2, j2⟩ : ∃ T, T = D2 * E1 := ⟨_, rfl⟩
  have sT : Sm (T1 - T2) := by unfold Sm; omega
  have CD1 := fun w => BigOf_any D1 (by omega) (by omega) w
  have CD2 := fun w => BigOf_any D2 (by omega) (by omega) w
  have CL1 := fun w => BigOf_any a2 (by omega) (by omega) w
  have CL2 := fun w => BigOf_any a1 (by omega) (by omega) w
  have CP1 := fun w1 u (h : IsBig w1 u a2) (hg : IsGr w w1) => BigMul_any u _ a2 z w1 h (hz.gr hg) (by unfold Sm; omega) fz.sm
  have CP2 := fun w1 u (h : IsBig w1 u a1) (hg : IsGr w w1) => BigMul_any u _ a1 z w1 h (hz.gr hg) (by unfold Sm; omega) fz.sm
  rw [← g2] at CP1
  rw [← g1] at CP2
  have CQ1 := fun w1 u (h : IsBig w1 u G2) (hg : IsGr w w1) => BigSub_any _ u y G2 w1 (hy.gr hg) h fy.sm (by unfold Sm; omega)
  have CQ2 := fun w1 u (h : IsBig w1 u G1) (hg : IsGr w w1) => BigSub_any _ u x G1 w1 (hx.gr hg) h fx.sm (by unfold Sm; omega)
  rw [← k2] at CQ1
  rw [← k1] at CQ2
  have CM1 := fun w1 u v (h : IsBig w1 u D1) (h' : IsBig w1 v E2) => BigMul_any u v D1 E2 w1 h h' (sm_of d1) (by unfold Sm; omega)
  have CM2 := fun w1 u v (h : IsBig w1 u D2) (h' : IsBig w1 v E1) => BigMul_any u v D2 E1 w1 h h' (sm_of d2) (by unfold Sm; omega)
  rw [← j1] at CM1
  rw [← j2] at CM2
  have CT := fun w1 u v (h : IsBig w1 u T1) (h' : IsBig w1 v T2) => BigSub_any u v T1 T2 w1 h h' (by unfold Sm; omega) (by unfold Sm; omega)
  have CS := fun w1 u (h : IsBig w1 u (T1 - T2)) => BigSign_any u (T1 - T2) w1 h sT
  have HT : Hid (T1 - T2 = sideS a1 a2 b1 b2 x y z) := by unfold Hid sideS; rw [j1, j2, k1, k2, g1, g2, e1, e2]
  rw [← HT.out]
  clear HT ra rb e1 e2 d1 d2 q1 q2 q3 q4 bE1 bE2 g1 g2 k1 k2 j1 j2 sT hx hy hz fx fy fz ha hb
  generalize T1 - T2 = T at *
  generalize cmpI T 0 = K at *
  go_enter Try.func33, Try.ntmps33
  go_upto_region 0 with fail
  go_cut [3, 4, 5] (fun t3 t4 t5 wr => t3 = .pointer (some ⟨w.heap.size, 0, none⟩) ∧ t4 = .pointer (some ⟨w.heap.size + 1, 0, none⟩) ∧ t5 = .pointer (some ⟨w.heap.size + 1 + 1, 0, none⟩) ∧ (wr.cell? ⟨w.heap.size, 0, none⟩ = some (.int .i64 a1) ∧ wr.cell? ⟨w.heap.size, 1, none⟩ = some (.int .i64 a2)) ∧ (wr.cell? ⟨w.heap.size + 1, 0, none⟩ = some (.int .i64 b1) ∧ wr.cell? ⟨w.heap.size + 1, 1, none⟩ = some (.int .i64 b2)) ∧ (wr.cell? ⟨w.heap.size + 1 + 1, 0, none⟩ = some (.bool xs) ∧ wr.cell? ⟨w.heap.size + 1 + 1, 1, none⟩ = some (.slice xa xn xc) ∧ wr.cell? ⟨w.heap.size + 1 + 1, 2, none⟩ = some (.bool ys) ∧ wr.cell? ⟨w.heap.size + 1 + 1, 3, none⟩ = some (.slice ya yn yc) ∧ wr.cell? ⟨w.heap.size + 1 + 1, 4, none⟩ = some (.bool zs) ∧ wr.cell? ⟨w.heap.size + 1 + 1, 5, none⟩ = some (.slice za zn zc)) ∧ w.heap.size + 3 ≤ wr.heap.size ∧ IsGr w wr)
  case first =>
    go_wp2
    go_meet
    case rel =>
      refine ⟨rfl, rfl, rfl, ?_, ?_, ?_, ?_, (by with_reducible repeat (first | exact IsGr.refl _ | refine IsGr.gr ?_ _ _ | refine IsGr.alloc ?_ _ | refine IsGr.drew ?_ | refine IsGr.drewN ?_ _))⟩
      · simp [go_sem]
      · simp [go_sem]
      · simp [go_sem]
      · first | omega | (simp; done) | (simp; omega) | (simp [Gr.size]; done) | (simp [Gr.size]; omega)
  case rest =>
    obtain ⟨rfl, rfl, rfl, q3, q4, q5, ks, hgw⟩ := hcut
    obtain ⟨W1, hW9⟩ : ∃ W1, W1 = wc := ⟨_, rfl⟩
    subst hW9
    have SO : ∀ w', IsGr W1 w' → (w'.cell? ⟨w.heap.size, 0, none⟩ = some (.int .i64 a1) ∧ w'.cell? ⟨w.heap.size, 1, none⟩ = some (.int .i64 a2)) ∧ (w'.cell? ⟨w.heap.size + 1, 0, none⟩ = some (.int .i64 b1) ∧ w'.cell? ⟨w.heap.size + 1, 1, none⟩ = some (.int .i64 b2)) ∧ (w'.cell? ⟨w.heap.size + 1 + 1, 0, none⟩ = some (.bool xs) ∧ w'.cell? ⟨w.heap.size + 1 + 1, 1, none⟩ = some (.slice xa xn xc) ∧ w'.cell? ⟨w.heap.size + 1 + 1, 2, none⟩ = some (.bool ys) ∧ w'.cell? ⟨w.heap.size + 1 + 1, 3, none⟩ = some (.slice ya yn yc) ∧ w'.cell? ⟨w.heap.size + 1 + 1, 4, none⟩ = some (.bool zs) ∧ w'.cell? ⟨w.heap.size + 1 + 1, 5, none⟩ = some (.slice za zn zc)) := fun w' hg => ⟨⟨hg.cell_at (by omega) q3.1, hg.cell_at (by omega) q3.2⟩, ⟨hg.cell_at (by omega) q4.1, hg.cell_at (by omega) q4.2⟩, ⟨hg.cell_at (by omega) q5.1, hg.cell_at (by omega) q5.2.1, hg.cell_at (by omega) q5.2.2.1, hg.cell_at (by omega) q5.2.2.2.1, hg.cell_at (by omega) q5.2.2.2.2.1, hg.cell_at (by omega) q5.2.2.2.2.2⟩⟩
    have HG : Hid (IsGr w W1) := hgw
    have CP1' := fun w1 u (h : IsBig w1 u a2) (hg : IsGr W1 w1) => CP1 w1 u h (hgw.trans hg)
    have CP2' := fun w1 u (h : IsBig w1 u a1) (hg : IsGr W1 w1) => CP2 w1 u h (hgw.trans hg)
    have CQ1' := fun w1 u (h : IsBig w1 u G2) (hg : IsGr W1 w1) => CQ1 w1 u h (hgw.trans hg)
    have CQ2' := fun w1 u (h : IsBig w1 u G1) (hg : IsGr W1 w1) => CQ2 w1 u h (hgw.trans hg)
    clear CP1 CP2 CQ1 CQ2 hgw q3 q4 q5
    go_upto_region 1 with fail
    go_cut [7] (fun t7 wr => BigAt wr t7 T1 ∧ IsGr W1 wr)
    case first => as_aux_lemma =>
      refine wp_region_held_drew (S := (fun w' => (w'.cell? ⟨w.heap.size, 0, none⟩ = some (.int .i64 a1) ∧ w'.cell? ⟨w.heap.size, 1, none⟩ = some (.int .i64 a2)) ∧ (w'.cell? ⟨w.heap.size + 1, 0, none⟩ = some (.int .i64 b1) ∧ w'.cell? ⟨w.heap.size + 1, 1, none⟩ = some (.int .i64 b2)) ∧ (w'.cell? ⟨w.heap.size + 1 + 1, 0, none⟩ = some (.bool xs) ∧ w'.cell? ⟨w.heap.size + 1 + 1, 1, none⟩ = some (.slice xa xn xc) ∧ w'.cell? ⟨w.heap.size + 1 + 1, 2, none⟩ = some (.bool ys) ∧ w'.cell? ⟨w.heap.size + 1 + 1, 3, none⟩ = some (.slice ya yn yc) ∧ w'.cell? ⟨w.heap.size + 1 + 1, 4, none⟩ = some (.bool zs) ∧ w'.cell? ⟨w.heap.size + 1 + 1, 5, none⟩ = some (.slice za zn zc)))) (by kernel_rfl) (by (try dsimp only); exact SO _ (by with_reducible repeat (first | exact IsGr.refl _ | refine IsGr.gr ?_ _ _ | refine IsGr.alloc ?_ _ | refine IsGr.drew ?_ | refine IsGr.drewN ?_ _))) (fun hHeld => ?_)
      refine wpAnyH_take (i := 0) (oi := { dst := some 9, op := Op.fieldAddr 27 (Operand.tmp 4) 0, type := 0, pos := "ref.go:38", after := #[], guard := none }) (v := ?_) rfl (by kernel_rfl) (by kernel_rfl) (by kernel_rfl) (fun _ _ _ h => h) (Or.inl ⟨by rfl, ?_⟩) (by assumption) ?_
      rotate_left
      · (intro w hSw; (try dsimp only at hSw); go_simp <;> with_reducible rfl)
      (try simp only [Act.put, qA, qB, qC])
      refine wpAnyH_take (i := 1) (oi := { dst := some 10, op := Op.load 3 (Operand.tmp 9), type := 3, pos := "ref.go:38", after := #[{ on := 0, ground := Ground.data }], guard := none }) (v := ?_) rfl (by kernel_rfl) (by kernel_rfl) (by kernel_rfl) (fun _ _ _ h => h) (Or.inl ⟨by rfl, ?_⟩) (by assumption) ?_
      rotate_left
      · (intro w hSw; (try dsimp only at hSw); go_simp <;> with_reducible rfl)
      (try simp only [Act.put, qA, qB, qC])
      refine wpAnyH_take (i := 2) (oi := { dst := some 11, op := Op.fieldAddr 27 (Operand.tmp 3) 0, type := 0, pos := "ref.go:38", after := #[], guard := none }) (v := ?_) rfl (by kernel_rfl) (by kernel_rfl) (by kernel_rfl) (fun _ _ _ h => h) (Or.inl ⟨by rfl, ?_⟩) (by assumption) ?_
      rotate_left
      · (intro w hSw; (try dsimp only at hSw); go_simp <;> with_reducible rfl)
      (try simp only [Act.put, qA, qB, qC])
      refine wpAnyH_take (i := 3) (oi := { dst := some 12, op := Op.load 3 (Operand.tmp 11), type := 3, pos := "ref.go:38", after := #[{ on := 2, ground := Ground.data }], guard := none }) (v := ?_) rfl (by kernel_rfl) (by kernel_rfl) (by kernel_rfl) (fun _ _ _ h => h) (Or.inl ⟨by rfl, ?_⟩) (by assumption) ?_
      rotate_left
      · (intro w hSw; (try dsimp only at hSw); go_simp <;> with_reducible rfl)
      (try simp only [Act.put, qA, qB, qC])
      refine wpAnyH_take (i := 4) (oi := { dst := some 13, op := Op.binOp BinOp.sub 3 (Operand.tmp 10) (Operand.tmp 12) 3, type := 3, pos := "ref.go:38", after := #[{ on := 1, ground := Ground.data }, { on := 3, ground := Ground.data }], guard := none }) (v := ?_) rfl (by kernel_rfl) (by kernel_rfl) (by kernel_rfl) (fun _ _ _ h => h) (Or.inl ⟨by rfl, ?_⟩) (by assumption) ?_
      rotate_left
      · (intro w hSw; (try dsimp only at hSw); go_simp <;> with_reducible rfl)
      (try simp only [Act.put, qA, qB, qC])
      refine wpAnyH_take (i := 6) (oi := { dst := some 15, op := Op.fieldAddr 55 (Operand.tmp 5) 1, type := 0, pos := "ref.go:38", after := #[], guard := none }) (v := ?_) rfl (by kernel_rfl) (by kernel_rfl) (by kernel_rfl) (fun _ _ _ h => h) (Or.inl ⟨by rfl, ?_⟩) (by assumption) ?_
      rotate_left
      · (intro w hSw; (try dsimp only at hSw); go_simp <;> with_reducible rfl)
      (try simp only [Act.put, qA, qB, qC])
      refine wpAnyH_take (i := 7) (oi := { dst := some 16, op := Op.load 53 (Operand.tmp 15), type := 53, pos := "ref.go:38", after := #[{ on := 6, ground := Ground.data }], guard := none }) (v := ?_) rfl (by kernel_rfl) (by kernel_rfl) (by kernel_rfl) (fun _ _ _ h => h) (Or.inl ⟨by rfl, ?_⟩) (by assumption) ?_
      rotate_left
      · (intro w hSw; (try dsimp only at hSw); go_simp <;> with_reducible rfl)
      (try simp only [Act.put, qA, qB, qC])
      refine wpAnyH_take (i := 8) (oi := { dst := some 17, op := Op.fieldAddr 27 (Operand.tmp 3) 1, type := 0, pos := "ref.go:38", after := #[], guard := none }) (v := ?_) rfl (by kernel_rfl) (by kernel_rfl) (by kernel_rfl) (fun _ _ _ h => h) (Or.inl ⟨by rfl, ?_⟩) (by assumption) ?_
      rotate_left
      · (intro w hSw; (try dsimp only at hSw); go_simp <;> with_reducible rfl)
      (try simp only [Act.put, qA, qB, qC])
      refine wpAnyH_take (i := 9) (oi := { dst := some 18, op := Op.load 3 (Operand.tmp 17), type := 3, pos := "ref.go:38", after := #[{ on := 8, ground := Ground.data }], guard := none }) (v := ?_) rfl (by kernel_rfl) (by kernel_rfl) (by kernel_rfl) (fun _ _ _ h => h) (Or.inl ⟨by rfl, ?_⟩) (by assumption) ?_
      rotate_left
      · (intro w hSw; (try dsimp only at hSw); go_simp <;> with_reducible rfl)
      (try simp only [Act.put, qA, qB, qC])
      refine wpAnyH_take (i := 11) (oi := { dst := some 20, op := Op.fieldAddr 55 (Operand.tmp 5) 2, type := 0, pos := "ref.go:38", after := #[], guard := none }) (v := ?_) rfl (by kernel_rfl) (by kernel_rfl) (by kernel_rfl) (fun _ _ _ h => h) (Or.inl ⟨by rfl, ?_⟩) (by assumption) ?_
      rotate_left
      · (intro w hSw; (try dsimp only at hSw); go_simp <;> with_reducible rfl)
      (try simp only [Act.put, qA, qB, qC])
      refine wpAnyH_take (i := 12) (oi := { dst := some 21, op := Op.load 53 (Operand.tmp 20), type := 53, pos := "ref.go:38", after := #[{ on := 11, ground := Ground.data }], guard := none }) (v := ?_) rfl (by kernel_rfl) (by kernel_rfl) (by kernel_rfl) (fun _ _ _ h => h) (Or.inl ⟨by rfl, ?_⟩) (by assumption) ?_
      rotate_left
      · (intro w hSw; (try dsimp only at hSw); go_simp <;> with_reducible rfl)
      (try simp only [Act.put, qA, qB, qC])
      refine wpAnyH_invA [5, 10, 13, 14, 15, 16, 17] (fun A D a w => ∃ t5 t10 t13 t14 t15 t16 : Value, a = ((((((A.put (some 14) t5).put (some 19) t10).put (some 22) t13).put (some 23) t14).put (some 24) t15).put (some 7) t16) ∧ IsGr W1 w ∧ (D 5 → IsBig w t5 (D1)) ∧ (D 10 → IsBig w t10 (a2)) ∧ (D 13 → IsBig w t13 (G2)) ∧ (D 14 → IsBig w t14 (E2)) ∧ (D 15 → IsBig w t15 (T1)) ∧ (D 16 → Bx W1 w 53 bigCells t16) ∧ (D 17 → D 16 ∧ D 15 ∧ ∃ c0 c1 : Value, t15 = .agg #[c0, c1] ∧ Hx w 53 t16 c0 c1)) (by kernel_rfl) (by assumption) ?_ ?_ ?_
      · exact ⟨_, _, _, _, _, _, by (simp only [Act.put, qA, qB, qC]); try rfl, (by with_reducible repeat (first | exact IsGr.refl _ | refine IsGr.gr ?_ _ _ | refine IsGr.alloc ?_ _ | refine IsGr.drew ?_ | refine IsGr.drewN ?_ _)), fun h => h.elim, fun h => h.elim, fun h => h.elim, fun h => h.elim, fun h => h.elim, fun h => h.elim, fun h => h.elim⟩
      · intro D a w hD hF hSw
        obtain ⟨t5, t10, t13, t14, t15, t16, ha, hg, f5, f10, f13, f14, f15, b16, h17⟩ := hF
        subst ha
        (try simp only [Act.put, qA, qB, qC])
        have A1 := BigAt.of (h17 (hD 17 (by simp))).2.2 (f15 (hD 15 (by simp)))
        clear f5 f10 f13 f14 f15 b16 h17 hD hSw
        go_wp2
        go_meet
        case rel => exact ⟨A1, hg⟩
      refine StepI.cons (i := 5) (o := { dst := some 14, op := Op.call { callee := Callee.value (Operand.func 41), args := #[Operand.tmp 13], argTypes := #[3] }, type := 53, pos := "ref.go:38", after := #[{ on := 4, ground := Ground.data }], guard := none }) (ns := []) rfl (by kernel_rfl) (fun D a w nD hn hF hSw K hK => ?_) ?_
      · obtain ⟨t5, t10, t13, t14, t15, t16, ha, hg, f5, f10, f13, f14, f15, b16, h17⟩ := hF
        subst ha
        (try simp only [Act.put, qA, qB, qC])
        go_simp
        refine (CD1 _).mono ?_
        rintro e w1 ⟨q, rfl, hq, hg1⟩
        (try go_wp2_with fail)
        refine hK.out _ _ (SO _ (hg.trans hg1)) (fun _ => ?_)
        refine ⟨q, t10, t13, t14, t15, t16, by (simp only [Act.put, qA, qB, qC]); try rfl, (hg.trans hg1), ?_, ?_, ?_, ?_, ?_, ?_, ?_⟩
        · exact fun _ => hq
        · exact fun h => (f10 (Or.resolve_left h (by decide))).gr hg1
        · exact fun h => (f13 (Or.resolve_left h (by decide))).gr hg1
        · exact fun h => (f14 (Or.resolve_left h (by decide))).gr hg1
        · exact fun h => (f15 (Or.resolve_left h (by decide))).gr hg1
        · exact fun h => (b16 (Or.resolve_left h (by decide))).gr hg1
        · exact fun h => (h17 (Or.resolve_left h (by decide))).imp Or.inr (fun ⟨x1, c0, c1, x2, x3⟩ => ⟨Or.inr x1, c0, c1, x2, x3.gr hg1⟩)
      refine StepI.cons (i := 10) (o := { dst := some 19, op := Op.call { callee := Callee.value (Operand.func 41), args := #[Operand.tmp 18], argTypes := #[3] }, type := 53, pos := "ref.go:38", after := #[{ on := 9, ground := Ground.data }, { on := 5, ground := Ground.chain }], guard := none }) (ns := [5]) rfl (by kernel_rfl) (fun D a w nD hn hF hSw K hK => ?_) ?_
      · obtain ⟨t5, t10, t13, t14, t15, t16, ha, hg, f5, f10, f13, f14, f15, b16, h17⟩ := hF
        have d5 : D 5 := hn 5 (by simp)
        subst ha
        (try simp only [Act.put, qA, qB, qC])
        go_simp
        refine (CL1 _).mono ?_
        rintro e w1 ⟨q, rfl, hq, hg1⟩
        (try go_wp2_with fail)
        refine hK.out _ _ (SO _ (hg.trans hg1)) (fun _ => ?_)
        refine ⟨t5, q, t13, t14, t15, t16, by (simp only [Act.put, qA, qB, qC]); try rfl, (hg.trans hg1), ?_, ?_, ?_, ?_, ?_, ?_, ?_⟩
        · exact fun h => (f5 (Or.resolve_left h (by decide))).gr hg1
        · exact fun _ => hq
        · exact fun h => (f13 (Or.resolve_left h (by decide))).gr hg1
        · exact fun h => (f14 (Or.resolve_left h (by decide))).gr hg1
        · exact fun h => (f15 (Or.resolve_left h (by decide))).gr hg1
        · exact fun h => (b16 (Or.resolve_left h (by decide))).gr hg1
        · exact fun h => (h17 (Or.resolve_left h (by decide))).imp Or.inr (fun ⟨x1, c0, c1, x2, x3⟩ => ⟨Or.inr x1, c0, c1, x2, x3.gr hg1⟩)
      refine StepI.cons (i := 13) (o := { dst := some 22, op := Op.call { callee := Callee.value (Operand.func 40), args := #[Operand.tmp 19, Operand.tmp 21], argTypes := #[53, 53] }, type := 53, pos := "ref.go:38", after := #[{ on := 10, ground := Ground.data }, { on := 12, ground := Ground.data }, { on := 10, ground := Ground.chain }], guard := none }) (ns := [10, 10]) rfl (by kernel_rfl) (fun D a w nD hn hF hSw K hK => ?_) ?_
      · obtain ⟨t5, t10, t13, t14, t15, t16, ha, hg, f5, f10, f13, f14, f15, b16, h17⟩ := hF
        have d10 : D 10 := hn 10 (by simp)
        have d10 : D 10 := hn 10 (by simp)
        subst ha
        (try simp only [Act.put, qA, qB, qC])
        go_simp
        refine (CP1' _ _ (f10 d10) hg).mono ?_
        rintro e w1 ⟨q, rfl, hq, hg1⟩
        (try go_wp2_with fail)
        refine hK.out _ _ (SO _ (hg.trans hg1)) (fun _ => ?_)
        refine ⟨t5, t10, q, t14, t15, t16, by (simp only [Act.put, qA, qB, qC]); try rfl, (hg.trans hg1), ?_, ?_, ?_, ?_, ?_, ?_, ?_⟩
        · exact fun h => (f5 (Or.resolve_left h (by decide))).gr hg1
        · exact fun h => (f10 (Or.resolve_left h (by decide))).gr hg1
        · exact fun _ => hq
        · exact fun h => (f14 (Or.resolve_left h (by decide))).gr hg1
        · exact fun h => (f15 (Or.resolve_left h (by decide))).gr hg1
        · exact fun h => (b16 (Or.resolve_left h (by decide))).gr hg1
        · exact fun h => (h17 (Or.resolve_left h (by decide))).imp Or.inr (fun ⟨x1, c0, c1, x2, x3⟩ => ⟨Or.inr x1, c0, c1, x2, x3.gr hg1⟩)
      refine StepI.cons (i := 14) (o := { dst := some 23, op := Op.call { callee := Callee.value (Operand.func 43), args := #[Operand.tmp 16, Operand.tmp 22], argTypes := #[53, 53] }, type := 53, pos := "ref.go:38", after := #[{ on := 7, ground := Ground.data }, { on := 13, ground := Ground.data }, { on := 13, ground := Ground.chain }], guard := none }) (ns := [13, 13]) rfl (by kernel_rfl) (fun D a w nD hn hF hSw K hK => ?_) ?_
      · obtain ⟨t5, t10, t13, t14, t15, t16, ha, hg, f5, f10, f13, f14, f15, b16, h17⟩ := hF
        have d13 : D 13 := hn 13 (by simp)
        have d13 : D 13 := hn 13 (by simp)
        subst ha
        (try simp only [Act.put, qA, qB, qC])
        go_simp
        refine (CQ1' _ _ (f13 d13) hg).mono ?_
        rintro e w1 ⟨q, rfl, hq, hg1⟩
        (try go_wp2_with fail)
        refine hK.out _ _ (SO _ (hg.trans hg1)) (fun _ => ?_)
        refine ⟨t5, t10, t13, q, t15, t16, by (simp only [Act.put, qA, qB, qC]); try rfl, (hg.trans hg1), ?_, ?_, ?_, ?_, ?_, ?_, ?_⟩
        · exact fun h => (f5 (Or.resolve_left h (by decide))).gr hg1
        · exact fun h => (f10 (Or.resolve_left h (by decide))).gr hg1
        · exact fun h => (f13 (Or.resolve_left h (by decide))).gr hg1
        · exact fun _ => hq
        · exact fun h => (f15 (Or.resolve_left h (by decide))).gr hg1
        · exact fun h => (b16 (Or.resolve_left h (by decide))).gr hg1
        · exact fun h => (h17 (Or.resolve_left h (by decide))).imp Or.inr (fun ⟨x1, c0, c1, x2, x3⟩ => ⟨Or.inr x1, c0, c1, x2, x3.gr hg1⟩)
      refine StepI.cons (i := 15) (o := { dst := some 24, op := Op.call { callee := Callee.value (Operand.func 40), args := #[Operand.tmp 14, Operand.tmp 23], argTypes := #[53, 53] }, type := 53, pos := "ref.go:38", after := #[{ on := 5, ground := Ground.data }, { on := 14, ground := Ground.data }, { on := 14, ground := Ground.chain }], guard := none }) (ns := [5, 14, 14]) rfl (by kernel_rfl) (fun D a w nD hn hF hSw K hK => ?_) ?_
      · obtain ⟨t5, t10, t13, t14, t15, t16, ha, hg, f5, f10, f13, f14, f15, b16, h17⟩ := hF
        have d5 : D 5 := hn 5 (by simp)
        have d14 : D 14 := hn 14 (by simp)
        have d14 : D 14 := hn 14 (by simp)
        subst ha
        (try simp only [Act.put, qA, qB, qC])
        go_simp
        refine (CM1 _ _ _ (f5 d5) (f14 d14)).mono ?_
        rintro e w1 ⟨q, rfl, hq, hg1⟩
        (try go_wp2_with fail)
        refine hK.out _ _ (SO _ (hg.trans hg1)) (fun _ => ?_)
        refine ⟨t5, t10, t13, t14, q, t16, by (simp only [Act.put, qA, qB, qC]); try rfl, (hg.trans hg1), ?_, ?_, ?_, ?_, ?_, ?_, ?_⟩
        · exact fun h => (f5 (Or.resolve_left h (by decide))).gr hg1
        · exact fun h => (f10 (Or.resolve_left h (by decide))).gr hg1
        · exact fun h => (f13 (Or.resolve_left h (by decide))).gr hg1
        · exact fun h => (f14 (Or.resolve_left h (by decide))).gr hg1
        · exact fun _ => hq
        · exact fun h => (b16 (Or.resolve_left h (by decide))).gr hg1
        · exact fun h => absurd (h17 (Or.resolve_left h (by decide))).2.1 nD
      refine StepI.cons (i := 16) (o := { dst := some 7, op := Op.alloc 53, type := 0, pos := "ref.go:38", after := #[], guard := none }) (ns := []) rfl (by kernel_rfl) (fun D a w nD hn hF hSw K hK => ?_) ?_
      · obtain ⟨t5, t10, t13, t14, t15, t16, ha, hg, f5, f10, f13, f14, f15, b16, h17⟩ := hF
        subst ha
        (try simp only [Act.put, qA, qB, qC])
        go_simp
        refine hK.out _ _ (SO _ (hg.alloc _)) (fun _ => ?_)
        refine ⟨t5, t10, t13, t14, t15, _, by (simp only [Act.put, qA, qB, qC]); try rfl, (hg.alloc _), ?_, ?_, ?_, ?_, ?_, ?_, ?_⟩
        · exact fun h => (f5 (Or.resolve_left h (by decide))).gr ((IsGr.refl _).alloc _)
        · exact fun h => (f10 (Or.resolve_left h (by decide))).gr ((IsGr.refl _).alloc _)
        · exact fun h => (f13 (Or.resolve_left h (by decide))).gr ((IsGr.refl _).alloc _)
        · exact fun h => (f14 (Or.resolve_left h (by decide))).gr ((IsGr.refl _).alloc _)
        · exact fun h => (f15 (Or.resolve_left h (by decide))).gr ((IsGr.refl _).alloc _)
        · exact fun _ => Bx.lay hg (by simp [bigCells])
        · exact fun h => absurd (h17 (Or.resolve_left h (by decide))).1 nD
      refine StepI.cons (i := 17) (o := { dst := none, op := Op.store 53 (Operand.tmp 7) (Operand.tmp 24), type := 0, pos := "ref.go:38", after := #[{ on := 16, ground := Ground.data }, { on := 15, ground := Ground.data }, { on := 15, ground := Ground.chain }, { on := 0, ground := Ground.phase }, { on := 1, ground := Ground.phase }, { on := 2, ground := Ground.phase }, { on := 3, ground := Ground.phase }, { on := 4, ground := Ground.phase }, { on := 5, ground := Ground.phase }, { on := 6, ground := Ground.phase }, { on := 7, ground := Ground.phase }, { on := 8, ground := Ground.phase }, { on := 9, ground := Ground.phase }, { on := 10, ground := Ground.phase }, { on := 11, ground := Ground.phase }, { on := 12, ground := Ground.phase }, { on := 13, ground := Ground.phase }, { on := 14, ground := Ground.phase }, { on := 15, ground := Ground.phase }, { on := 16, ground := Ground.phase }], guard := none }) (ns := [16, 15, 15, 5, 10, 13, 14, 15, 16]) rfl (by kernel_rfl) (fun D a w nD hn hF hSw K hK => ?_) ?_
      · obtain ⟨t5, t10, t13, t14, t15, t16, ha, hg, f5, f10, f13, f14, f15, b16, h17⟩ := hF
        have d16 : D 16 := hn 16 (by simp)
        have d15 : D 15 := hn 15 (by simp)
        have d15 : D 15 := hn 15 (by simp)
        have d5 : D 5 := hn 5 (by simp)
        have d10 : D 10 := hn 10 (by simp)
        have d13 : D 13 := hn 13 (by simp)
        have d14 : D 14 := hn 14 (by simp)
        have d15 : D 15 := hn 15 (by simp)
        have d16 : D 16 := hn 16 (by simp)
        obtain ⟨z0, z1, hz0⟩ : ∃ z0 z1 : Value, t15 = .agg #[z0, z1] ∧ bigCells z0 z1 := big_cells (f15 d15)
        obtain ⟨hz0, hz1⟩ := hz0
        obtain ⟨bb, y0, y1, hb0, hb1, hb2, hb3⟩ := b16 d16
        obtain ⟨k1, k2, k3, k4, k5⟩ := block_cells hb2
        have hz2 := hz1
        obtain ⟨zs, za, zn, zc, rfl, rfl⟩ := hz1
        subst hz0
        subst hb0
        subst ha
        (try simp only [Act.put, qA, qB, qC])
        go_simp
        refine hK.out _ _ (SO _ (put2_gr hg hb1)) (fun _ => ?_)
        refine ⟨t5, t10, t13, t14, (.agg #[.bool zs, .slice za zn zc]), (.pointer (some ⟨bb, 0, none⟩)), by (simp only [Act.put, qA, qB, qC]); try rfl, (put2_gr hg hb1), ?_, ?_, ?_, ?_, ?_, ?_, ?_⟩
        · exact fun h => (f5 (Or.resolve_left h (by decide))).kb (put2_kb hb2 hb3)
        · exact fun h => (f10 (Or.resolve_left h (by decide))).kb (put2_kb hb2 hb3)
        · exact fun h => (f13 (Or.resolve_left h (by decide))).kb (put2_kb hb2 hb3)
        · exact fun h => (f14 (Or.resolve_left h (by decide))).kb (put2_kb hb2 hb3)
        · exact fun h => (f15 (Or.resolve_left h (by decide))).kb (put2_kb hb2 hb3)
        · exact fun h => put2_bx hb2 hz2 (b16 (Or.resolve_left h (by decide)))
        · exact fun _ => ⟨Or.inr d16, Or.inr d15, _, _, rfl, put2_new hb2⟩
      exact StepI.nil
    case rest =>
      obtain ⟨A7, hgr⟩ := hcut
      obtain ⟨W2, hW9⟩ : ∃ W2, W2 = wc := ⟨_, rfl⟩
      subst hW9
      have SO2 : ∀ w', IsGr W2 w' → (w'.cell? ⟨w.heap.size, 0, none⟩ = some (.int .i64 a1) ∧ w'.cell? ⟨w.heap.size, 1, none⟩ = some (.int .i64 a2)) ∧ (w'.cell? ⟨w.heap.size + 1, 0, none⟩ = some (.int .i64 b1) ∧ w'.cell? ⟨w.heap.size + 1, 1, none⟩ = some (.int .i64 b2)) ∧ (w'.cell? ⟨w.heap.size + 1 + 1, 0, none⟩ = some (.bool xs) ∧ w'.cell? ⟨w.heap.size + 1 + 1, 1, none⟩ = some (.slice xa xn xc) ∧ w'.cell? ⟨w.heap.size + 1 + 1, 2, none⟩ = some (.bool ys) ∧ w'.cell? ⟨w.heap.size + 1 + 1, 3, none⟩ = some (.slice ya yn yc) ∧ w'.cell? ⟨w.heap.size + 1 + 1, 4, none⟩ = some (.bool zs) ∧ w'.cell? ⟨w.heap.size + 1 + 1, 5, none⟩ = some (.slice za zn zc)) := fun w' hg => SO w' (hgr.trans hg)
      have CP2'' := fun w1 u (h : IsBig w1 u a1) (hg : IsGr W2 w1) => CP2' w1 u h (hgr.trans hg)
      have CQ2'' := fun w1 u (h : IsBig w1 u G1) (hg : IsGr W2 w1) => CQ2' w1 u h (hgr.trans hg)
      replace HG : Hid (IsGr w W2) := HG.out.trans hgr
      clear SO hgr CP1' CP2' CQ1' CQ2' CD1 CL1 CM1
      go_upto_region 2 with fail
      go_cut [8] (fun t8 wr => BigAt wr t8 T2 ∧ IsGr W2 wr)
      case first => as_aux_lemma =>
        refine wp_region_held_drew (S := (fun w' => (w'.cell? ⟨w.heap.size, 0, none⟩ = some (.int .i64 a1) ∧ w'.cell? ⟨w.heap.size, 1, none⟩ = some (.int .i64 a2)) ∧ (w'.cell? ⟨w.heap.size + 1, 0, none⟩ = some (.int .i64 b1) ∧ w'.cell? ⟨w.heap.size + 1, 1, none⟩ = some (.int .i64 b2)) ∧ (w'.cell? ⟨w.heap.size + 1 + 1, 0, none⟩ = some (.bool xs) ∧ w'.cell? ⟨w.heap.size + 1 + 1, 1, none⟩ = some (.slice xa xn xc) ∧ w'.cell? ⟨w.heap.size + 1 + 1, 2, none⟩ = some (.bool ys) ∧ w'.cell? ⟨w.heap.size + 1 + 1, 3, none⟩ = some (.slice ya yn yc) ∧ w'.cell? ⟨w.heap.size + 1 + 1, 4, none⟩ = some (.bool zs) ∧ w'.cell? ⟨w.heap.size + 1 + 1, 5, none⟩ = some (.slice za zn zc)))) (by kernel_rfl) (by (try dsimp only); exact SO2 _ (by with_reducible repeat (first | exact IsGr.refl _ | refine IsGr.gr ?_ _ _ | refine IsGr.alloc ?_ _ | refine IsGr.drew ?_ | refine IsGr.drewN ?_ _))) (fun hHeld => ?_)
        refine wpAnyH_take (i := 0) (oi := { dst := some 25, op := Op.fieldAddr 27 (Operand.tmp 4) 1, type := 0, pos := "ref.go:39", after := #[], guard := none }) (v := ?_) rfl (by kernel_rfl) (by kernel_rfl) (by kernel_rfl) (fun _ _ _ h => h) (Or.inl ⟨by rfl, ?_⟩) (by assumption) ?_
        rotate_left
        · (intro w hSw; (try dsimp only at hSw); go_simp <;> with_reducible rfl)
        (try simp only [Act.put, qA, qB, qC])
        refine wpAnyH_take (i := 1) (oi := { dst := some 26, op := Op.load 3 (Operand.tmp 25), type := 3, pos := "ref.go:39", after := #[{ on := 0, ground := Ground.data }], guard := none }) (v := ?_) rfl (by kernel_rfl) (by kernel_rfl) (by kernel_rfl) (fun _ _ _ h => h) (Or.inl ⟨by rfl, ?_⟩) (by assumption) ?_
        rotate_left
        · (intro w hSw; (try dsimp only at hSw); go_simp <;> with_reducible rfl)
        (try simp only [Act.put, qA, qB, qC])
        refine wpAnyH_take (i := 2) (oi := { dst := some 27, op := Op.fieldAddr 27 (Operand.tmp 3) 1, type := 0, pos := "ref.go:39", after := #[], guard := none }) (v := ?_) rfl (by kernel_rfl) (by kernel_rfl) (by kernel_rfl) (fun _ _ _ h => h) (Or.inl ⟨by rfl, ?_⟩) (by assumption) ?_
        rotate_left
        · (intro w hSw; (try dsimp only at hSw); go_simp <;> with_reducible rfl)
        (try simp only [Act.put, qA, qB, qC])
        refine wpAnyH_take (i := 3) (oi := { dst := some 28, op := Op.load 3 (Operand.tmp 27), type := 3, pos := "ref.go:39", after := #[{ on := 2, ground := Ground.data }], guard := none }) (v := ?_) rfl (by kernel_rfl) (by kernel_rfl) (by kernel_rfl) (fun _ _ _ h => h) (Or.inl ⟨by rfl, ?_⟩) (by assumption) ?_
        rotate_left
        · (intro w hSw; (try dsimp only at hSw); go_simp <;> with_reducible rfl)
        (try simp only [Act.put, qA, qB, qC])
        refine wpAnyH_take (i := 4) (oi := { dst := some 29, op := Op.binOp BinOp.sub 3 (Operand.tmp 26) (Operand.tmp 28) 3, type := 3, pos := "ref.go:39", after := #[{ on := 1, ground := Ground.data }, { on := 3, ground := Ground.data }], guard := none }) (v := ?_) rfl (by kernel_rfl) (by kernel_rfl) (by kernel_rfl) (fun _ _ _ h => h) (Or.inl ⟨by rfl, ?_⟩) (by assumption) ?_
        rotate_left
        · (intro w hSw; (try dsimp only at hSw); go_simp <;> with_reducible rfl)
        (try simp only [Act.put, qA, qB, qC])
        refine wpAnyH_take (i := 6) (oi := { dst := some 31, op := Op.fieldAddr 55 (Operand.tmp 5) 0, type := 0, pos := "ref.go:39", after := #[], guard := none }) (v := ?_) rfl (by kernel_rfl) (by kernel_rfl) (by kernel_rfl) (fun _ _ _ h => h) (Or.inl ⟨by rfl, ?_⟩) (by assumption) ?_
        rotate_left
        · (intro w hSw; (try dsimp only at hSw); go_simp <;> with_reducible rfl)
        (try simp only [Act.put, qA, qB, qC])
        refine wpAnyH_take (i := 7) (oi := { dst := some 32, op := Op.load 53 (Operand.tmp 31), type := 53, pos := "ref.go:39", after := #[{ on := 6, ground := Ground.data }], guard := none }) (v := ?_) rfl (by kernel_rfl) (by kernel_rfl) (by kernel_rfl) (fun _ _ _ h => h) (Or.inl ⟨by rfl, ?_⟩) (by assumption) ?_
        rotate_left
        · (intro w hSw; (try dsimp only at hSw); go_simp <;> with_reducible rfl)
        (try simp only [Act.put, qA, qB, qC])
        refine wpAnyH_take (i := 8) (oi := { dst := some 33, op := Op.fieldAddr 27 (Operand.tmp 3) 0, type := 0, pos := "ref.go:39", after := #[], guard := none }) (v := ?_) rfl (by kernel_rfl) (by kernel_rfl) (by kernel_rfl) (fun _ _ _ h => h) (Or.inl ⟨by rfl, ?_⟩) (by assumption) ?_
        rotate_left
        · (intro w hSw; (try dsimp only at hSw); go_simp <;> with_reducible rfl)
        (try simp only [Act.put, qA, qB, qC])
        refine wpAnyH_take (i := 9) (oi := { dst := some 34, op := Op.load 3 (Operand.tmp 33), type := 3, pos := "ref.go:39", after := #[{ on := 8, ground := Ground.data }], guard := none }) (v := ?_) rfl (by kernel_rfl) (by kernel_rfl) (by kernel_rfl) (fun _ _ _ h => h) (Or.inl ⟨by rfl, ?_⟩) (by assumption) ?_
        rotate_left
        · (intro w hSw; (try dsimp only at hSw); go_simp <;> with_reducible rfl)
        (try simp only [Act.put, qA, qB, qC])
        refine wpAnyH_take (i := 11) (oi := { dst := some 36, op := Op.fieldAddr 55 (Operand.tmp 5) 2, type := 0, pos := "ref.go:39", after := #[], guard := none }) (v := ?_) rfl (by kernel_rfl) (by kernel_rfl) (by kernel_rfl) (fun _ _ _ h => h) (Or.inl ⟨by rfl, ?_⟩) (by assumption) ?_
        rotate_left
        · (intro w hSw; (try dsimp only at hSw); go_simp <;> with_reducible rfl)
        (try simp only [Act.put, qA, qB, qC])
        refine wpAnyH_take (i := 12) (oi := { dst := some 37, op := Op.load 53 (Operand.tmp 36), type := 53, pos := "ref.go:39", after := #[{ on := 11, ground := Ground.data }], guard := none }) (v := ?_) rfl (by kernel_rfl) (by kernel_rfl) (by kernel_rfl) (fun _ _ _ h => h) (Or.inl ⟨by rfl, ?_⟩) (by assumption) ?_
        rotate_left
        · (intro w hSw; (try dsimp only at hSw); go_simp <;> with_reducible rfl)
        (try simp only [Act.put, qA, qB, qC])
        refine wpAnyH_invA [5, 10, 13, 14, 15, 16, 17] (fun A D a w => ∃ t5 t10 t13 t14 t15 t16 : Value, a = ((((((A.put (some 30) t5).put (some 35) t10).put (some 38) t13).put (some 39) t14).put (some 40) t15).put (some 8) t16) ∧ IsGr W2 w ∧ (D 5 → IsBig w t5 (D2)) ∧ (D 10 → IsBig w t10 (a1)) ∧ (D 13 → IsBig w t13 (G1)) ∧ (D 14 → IsBig w t14 (E1)) ∧ (D 15 → IsBig w t15 (T2)) ∧ (D 16 → Bx W2 w 53 bigCells t16) ∧ (D 17 → D 16 ∧ D 15 ∧ ∃ c0 c1 : Value, t15 = .agg #[c0, c1] ∧ Hx w 53 t16 c0 c1)) (by kernel_rfl) (by assumption) ?_ ?_ ?_
        · exact ⟨_, _, _, _, _, _, by (simp only [Act.put, qA, qB, qC]); try rfl, (by with_reducible repeat (first | exact IsGr.refl _ | refine IsGr.gr ?_ _ _ | refine IsGr.alloc ?_ _ | refine IsGr.drew ?_ | refine IsGr.drewN ?_ _)), fun h => h.elim, fun h => h.elim, fun h => h.elim, fun h => h.elim, fun h => h.elim, fun h => h.elim, fun h => h.elim⟩
        · intro D a w hD hF hSw
          obtain ⟨t5, t10, t13, t14, t15, t16, ha, hg, f5, f10, f13, f14, f15, b16, h17⟩ := hF
          subst ha
          (try simp only [Act.put, qA, qB, qC])
          have A1 := BigAt.of (h17 (hD 17 (by simp))).2.2 (f15 (hD 15 (by simp)))
          clear f5 f10 f13 f14 f15 b16 h17 hD hSw
          go_wp2
          go_meet
          case rel => exact ⟨A1, hg⟩
        refine StepI.cons (i := 5) (o := { dst := some 30, op := Op.call { callee := Callee.value (Operand.func 41), args := #[Operand.tmp 29], argTypes := #[3] }, type := 53, pos := "ref.go:39", after := #[{ on := 4, ground := Ground.data }], guard := none }) (ns := []) rfl (by kernel_rfl) (fun D a w nD hn hF hSw K hK => ?_) ?_
        · obtain ⟨t5, t10, t13, t14, t15, t16, ha, hg, f5, f10, f13, f14, f15, b16, h17⟩ := hF
          subst ha
          (try simp only [Act.put, qA, qB, qC])
          go_simp
          refine (CD2 _).mono ?_
          rintro e w1 ⟨q, rfl, hq, hg1⟩
          (try go_wp2_with fail)
          refine hK.out _ _ (SO2 _ (hg.trans hg1)) (fun _ => ?_)
          refine ⟨q, t10, t13, t14, t15, t16, by (simp only [Act.put, qA, qB, qC]); try rfl, (hg.trans hg1), ?_, ?_, ?_, ?_, ?_, ?_, ?_⟩
          · exact fun _ => hq
          · exact fun h => (f10 (Or.resolve_left h (by decide))).gr hg1
          · exact fun h => (f13 (Or.resolve_left h (by decide))).gr hg1
          · exact fun h => (f14 (Or.resolve_left h (by decide))).gr hg1
          · exact fun h => (f15 (Or.resolve_left h (by decide))).gr hg1
          · exact fun h => (b16 (Or.resolve_left h (by decide))).gr hg1
          · exact fun h => (h17 (Or.resolve_left h (by decide))).imp Or.inr (fun ⟨x1, c0, c1, x2, x3⟩ => ⟨Or.inr x1, c0, c1, x2, x3.gr hg1⟩)
        refine StepI.cons (i := 10) (o := { dst := some 35, op := Op.call { callee := Callee.value (Operand.func 41), args := #[Operand.tmp 34], argTypes := #[3] }, type := 53, pos := "ref.go:39", after := #[{ on := 9, ground := Ground.data }, { on := 5, ground := Ground.chain }], guard := none }) (ns := [5]) rfl (by kernel_rfl) (fun D a w nD hn hF hSw K hK => ?_) ?_
        · obtain ⟨t5, t10, t13, t14, t15, t16, ha, hg, f5, f10, f13, f14, f15, b16, h17⟩ := hF
          have d5 : D 5 := hn 5 (by simp)
          subst ha
          (try simp only [Act.put, qA, qB, qC])
          go_simp
          refine (CL2 _).mono ?_
          rintro e w1 ⟨q, rfl, hq, hg1⟩
          (try go_wp2_with fail)
          refine hK.out _ _ (SO2 _ (hg.trans hg1)) (fun _ => ?_)
          refine ⟨t5, q, t13, t14, t15, t16, by (simp only [Act.put, qA, qB, qC]); try rfl, (hg.trans hg1), ?_, ?_, ?_, ?_, ?_, ?_, ?_⟩
          · exact fun h => (f5 (Or.resolve_left h (by decide))).gr hg1
          · exact fun _ => hq
          · exact fun h => (f13 (Or.resolve_left h (by decide))).gr hg1
          · exact fun h => (f14 (Or.resolve_left h (by decide))).gr hg1
          · exact fun h => (f15 (Or.resolve_left h (by decide))).gr hg1
          · exact fun h => (b16 (Or.resolve_left h (by decide))).gr hg1
          · exact fun h => (h17 (Or.resolve_left h (by decide))).imp Or.inr (fun ⟨x1, c0, c1, x2, x3⟩ => ⟨Or.inr x1, c0, c1, x2, x3.gr hg1⟩)
        refine StepI.cons (i := 13) (o := { dst := some 38, op := Op.call { callee := Callee.value (Operand.func 40), args := #[Operand.tmp 35, Operand.tmp 37], argTypes := #[53, 53] }, type := 53, pos := "ref.go:39", after := #[{ on := 10, ground := Ground.data }, { on := 12, ground := Ground.data }, { on := 10, ground := Ground.chain }], guard := none }) (ns := [10, 10]) rfl (by kernel_rfl) (fun D a w nD hn hF hSw K hK => ?_) ?_
        · obtain ⟨t5, t10, t13, t14, t15, t16, ha, hg, f5, f10, f13, f14, f15, b16, h17⟩ := hF
          have d10 : D 10 := hn 10 (by simp)
          have d10 : D 10 := hn 10 (by simp)
          subst ha
          (try simp only [Act.put, qA, qB, qC])
          go_simp
          refine (CP2'' _ _ (f10 d10) hg).mono ?_
          rintro e w1 ⟨q, rfl, hq, hg1⟩
          (try go_wp2_with fail)
          refine hK.out _ _ (SO2 _ (hg.trans hg1)) (fun _ => ?_)
          refine ⟨t5, t10, q, t14, t15, t16, by (simp only [Act.put, qA, qB, qC]); try rfl, (hg.trans hg1), ?_, ?_, ?_, ?_, ?_, ?_, ?_⟩
          · exact fun h => (f5 (Or.resolve_left h (by decide))).gr hg1
          · exact fun h => (f10 (Or.resolve_left h (by decide))).gr hg1
          · exact fun _ => hq
          · exact fun h => (f14 (Or.resolve_left h (by decide))).gr hg1
          · exact fun h => (f15 (Or.resolve_left h (by decide))).gr hg1
          · exact fun h => (b16 (Or.resolve_left h (by decide))).gr hg1
          · exact fun h => (h17 (Or.resolve_left h (by decide))).imp Or.inr (fun ⟨x1, c0, c1, x2, x3⟩ => ⟨Or.inr x1, c0, c1, x2, x3.gr hg1⟩)
        refine StepI.cons (i := 14) (o := { dst := some 39, op := Op.call { callee := Callee.value (Operand.func 43), args := #[Operand.tmp 32, Operand.tmp 38], argTypes := #[53, 53] }, type := 53, pos := "ref.go:39", after := #[{ on := 7, ground := Ground.data }, { on := 13, ground := Ground.data }, { on := 13, ground := Ground.chain }], guard := none }) (ns := [13, 13]) rfl (by kernel_rfl) (fun D a w nD hn hF hSw K hK => ?_) ?_
        · obtain ⟨t5, t10, t13, t14, t15, t16, ha, hg, f5, f10, f13, f14, f15, b16, h17⟩ := hF
          have d13 : D 13 := hn 13 (by simp)
          have d13 : D 13 := hn 13 (by simp)
          subst ha
          (try simp only [Act.put, qA, qB, qC])
          go_simp
          refine (CQ2'' _ _ (f13 d13) hg).mono ?_
          rintro e w1 ⟨q, rfl, hq, hg1⟩
          (try go_wp2_with fail)
          refine hK.out _ _ (SO2 _ (hg.trans hg1)) (fun _ => ?_)
          refine ⟨t5, t10, t13, q, t15, t16, by (simp only [Act.put, qA, qB, qC]); try rfl, (hg.trans hg1), ?_, ?_, ?_, ?_, ?_, ?_, ?_⟩
          · exact fun h => (f5 (Or.resolve_left h (by decide))).gr hg1
          · exact fun h => (f10 (Or.resolve_left h (by decide))).gr hg1
          · exact fun h => (f13 (Or.resolve_left h (by decide))).gr hg1
          · exact fun _ => hq
          · exact fun h => (f15 (Or.resolve_left h (by decide))).gr hg1
          · exact fun h => (b16 (Or.resolve_left h (by decide))).gr hg1
          · exact fun h => (h17 (Or.resolve_left h (by decide))).imp Or.inr (fun ⟨x1, c0, c1, x2, x3⟩ => ⟨Or.inr x1, c0, c1, x2, x3.gr hg1⟩)
        refine StepI.cons (i := 15) (o := { dst := some 40, op := Op.call { callee := Callee.value (Operand.func 40), args := #[Operand.tmp 30, Operand.tmp 39], argTypes := #[53, 53] }, type := 53, pos := "ref.go:39", after := #[{ on := 5, ground := Ground.data }, { on := 14, ground := Ground.data }, { on := 14, ground := Ground.chain }], guard := none }) (ns := [5, 14, 14]) rfl (by kernel_rfl) (fun D a w nD hn hF hSw K hK => ?_) ?_
        · obtain ⟨t5, t10, t13, t14, t15, t16, ha, hg, f5, f10, f13, f14, f15, b16, h17⟩ := hF
          have d5 : D 5 := hn 5 (by simp)
          have d14 : D 14 := hn 14 (by simp)
          have d14 : D 14 := hn 14 (by simp)
          subst ha
          (try simp only [Act.put, qA, qB, qC])
          go_simp
          refine (CM2 _ _ _ (f5 d5) (f14 d14)).mono ?_
          rintro e w1 ⟨q, rfl, hq, hg1⟩
          (try go_wp2_with fail)
          refine hK.out _ _ (SO2 _ (hg.trans hg1)) (fun _ => ?_)
          refine ⟨t5, t10, t13, t14, q, t16, by (simp only [Act.put, qA, qB, qC]); try rfl, (hg.trans hg1), ?_, ?_, ?_, ?_, ?_, ?_, ?_⟩
          · exact fun h => (f5 (Or.resolve_left h (by decide))).gr hg1
          · exact fun h => (f10 (Or.resolve_left h (by decide))).gr hg1
          · exact fun h => (f13 (Or.resolve_left h (by decide))).gr hg1
          · exact fun h => (f14 (Or.resolve_left h (by decide))).gr hg1
          · exact fun _ => hq
          · exact fun h => (b16 (Or.resolve_left h (by decide))).gr hg1
          · exact fun h => absurd (h17 (Or.resolve_left h (by decide))).2.1 nD
        refine StepI.cons (i := 16) (o := { dst := some 8, op := Op.alloc 53, type := 0, pos := "ref.go:39", after := #[], guard := none }) (ns := []) rfl (by kernel_rfl) (fun D a w nD hn hF hSw K hK => ?_) ?_
        · obtain ⟨t5, t10, t13, t14, t15, t16, ha, hg, f5, f10, f13, f14, f15, b16, h17⟩ := hF
          subst ha
          (try simp only [Act.put, qA, qB, qC])
          go_simp
          refine hK.out _ _ (SO2 _ (hg.alloc _)) (fun _ => ?_)
          refine ⟨t5, t10, t13, t14, t15, _, by (simp only [Act.put, qA, qB, qC]); try rfl, (hg.alloc _), ?_, ?_, ?_, ?_, ?_, ?_, ?_⟩
          · exact fun h => (f5 (Or.resolve_left h (by decide))).gr ((IsGr.refl _).alloc _)
          · exact fun h => (f10 (Or.resolve_left h (by decide))).gr ((IsGr.refl _).alloc _)
          · exact fun h => (f13 (Or.resolve_left h (by decide))).gr ((IsGr.refl _).alloc _)
          · exact fun h => (f14 (Or.resolve_left h (by decide))).gr ((IsGr.refl _).alloc _)
          · exact fun h => (f15 (Or.resolve_left h (by decide))).gr ((IsGr.refl _).alloc _)
          · exact fun _ => Bx.lay hg (by simp [bigCells])
          · exact fun h => absurd (h17 (Or.resolve_left h (by decide))).1 nD
        refine StepI.cons (i := 17) (o := { dst := none, op := Op.store 53 (Operand.tmp 8) (Operand.tmp 40), type := 0, pos := "ref.go:39", after := #[{ on := 16, ground := Ground.data }, { on := 15, ground := Ground.data }, { on := 15, ground := Ground.chain }, { on := 0, ground := Ground.phase }, { on := 1, ground := Ground.phase }, { on := 2, ground := Ground.phase }, { on := 3, ground := Ground.phase }, { on := 4, ground := Ground.phase }, { on := 5, ground := Ground.phase }, { on := 6, ground := Ground.phase }, { on := 7, ground := Ground.phase }, { on := 8, ground := Ground.phase }, { on := 9, ground := Ground.phase }, { on := 10, ground := Ground.phase }, { on := 11, ground := Ground.phase }, { on := 12, ground := Ground.phase }, { on := 13, ground := Ground.phase }, { on := 14, ground := Ground.phase }, { on := 15, ground := Ground.phase }, { on := 16, ground := Ground.phase }], guard := none }) (ns := [16, 15, 15, 5, 10, 13, 14, 15, 16]) rfl (by kernel_rfl) (fun D a w nD hn hF hSw K hK => ?_) ?_
        · obtain ⟨t5, t10, t13, t14, t15, t16, ha, hg, f5, f10, f13, f14, f15, b16, h17⟩ := hF
          have d16 : D 16 := hn 16 (by simp)
          have d15 : D 15 := hn 15 (by simp)
          have d15 : D 15 := hn 15 (by simp)
          have d5 : D 5 := hn 5 (by simp)
          have d10 : D 10 := hn 10 (by simp)
          have d13 : D 13 := hn 13 (by simp)
          have d14 : D 14 := hn 14 (by simp)
          have d15 : D 15 := hn 15 (by simp)
          have d16 : D 16 := hn 16 (by simp)
          obtain ⟨z0, z1, hz0⟩ : ∃ z0 z1 : Value, t15 = .agg #[z0, z1] ∧ bigCells z0 z1 := big_cells (f15 d15)
          obtain ⟨hz0, hz1⟩ := hz0
          obtain ⟨bb, y0, y1, hb0, hb1, hb2, hb3⟩ := b16 d16
          obtain ⟨k1, k2, k3, k4, k5⟩ := block_cells hb2
          have hz2 := hz1
          obtain ⟨zs, za, zn, zc, rfl, rfl⟩ := hz1
          subst hz0
          subst hb0
          subst ha
          (try simp only [Act.put, qA, qB, qC])
          go_simp
          refine hK.out _ _ (SO2 _ (put2_gr hg hb1)) (fun _ => ?_)
          refine ⟨t5, t10, t13, t14, (.agg #[.bool zs, .slice za zn zc]), (.pointer (some ⟨bb, 0, none⟩)), by (simp only [Act.put, qA, qB, qC]); try rfl, (put2_gr hg hb1), ?_, ?_, ?_, ?_, ?_, ?_, ?_⟩
          · exact fun h => (f5 (Or.resolve_left h (by decide))).kb (put2_kb hb2 hb3)
          · exact fun h => (f10 (Or.resolve_left h (by decide))).kb (put2_kb hb2 hb3)
          · exact fun h => (f13 (Or.resolve_left h (by decide))).kb (put2_kb hb2 hb3)
          · exact fun h => (f14 (Or.resolve_left h (by decide))).kb (put2_kb hb2 hb3)
          · exact fun h => (f15 (Or.resolve_left h (by decide))).kb (put2_kb hb2 hb3)
          · exact fun h => put2_bx hb2 hz2 (b16 (Or.resolve_left h (by decide)))
          · exact fun _ => ⟨Or.inr d16, Or.inr d15, _, _, rfl, put2_new hb2⟩
        exact StepI.nil
      case rest =>
        obtain ⟨A8, hgr⟩ := hcut
        obtain ⟨W3, hW9⟩ : ∃ W3, W3 = wc := ⟨_, rfl⟩
        subst hW9
        replace HG : Hid (IsGr w W3) := HG.out.trans hgr
        obtain ⟨g7, xs7, xa7, xn7, xc7, rfl, k7, c7, c7', B7⟩ := A7.gr hgr
        obtain ⟨g8, xs8, xa8, xn8, xc8, rfl, k8, c8, c8', B8⟩ := A8
        clear hgr SO2 CP2'' CQ2'' CD2 CL2 CM2 A7
        go_wp2_with fail
        refine (CT _ _ _ (B7.gr ?_) (B8.gr ?_)).mono ?_
        · exact (by with_reducible repeat (first | exact IsGr.refl _ | refine IsGr.gr ?_ _ _ | refine IsGr.alloc ?_ _ | refine IsGr.drew ?_ | refine IsGr.drewN ?_ _))
        · exact (by with_reducible repeat (first | exact IsGr.refl _ | refine IsGr.gr ?_ _ _ | refine IsGr.alloc ?_ _ | refine IsGr.drew ?_ | refine IsGr.drewN ?_ _))
        rintro e w1 ⟨q, rfl, hq, os1, dr1, rfl⟩
        obtain ⟨qs, qa, qn, qc, rfl⟩ := hq.shape
        go_wp2_with fail
        refine (CS _ _ (hq.gr ?_)).mono ?_
        · exact (by with_reducible repeat (first | exact IsGr.refl _ | refine IsGr.gr ?_ _ _ | refine IsGr.alloc ?_ _ | refine IsGr.drew ?_ | refine IsGr.drewN ?_ _))
        rintro e w1 ⟨rfl, os2, dr2, rfl⟩
        go_wp2
        go_ret
        exact ⟨rfl, HG.out.trans (by with_reducible repeat (first | exact IsGr.refl _ | refine IsGr.gr ?_ _ _ | refine IsGr.alloc ?_ _ | refine IsGr.drew ?_ | refine IsGr.drewN ?_ _))⟩

end Go.Proofs.Ytohhlhoijanjfaa
namespace Go.Proofs.Ytohhlhoijanjfaa
open Go.RowKit Go.Shelf
attribute [local go_sem] Gr.size Gr.cell? Gr.frozen? Gr.setCell Gr.drew Gr.drewN Gr.of_drew Gr.of_drewN Gr.gr Gr.lt_of1 Gr.le_of1 Gr.lt_of2 Gr.le_of2 Gr.lt_of3 Gr.le_of3 Gr.lt_of4 Gr.le_of4 Gr.lt_of5 Gr.le_of5 Gr.lt_of6 Gr.le_of6 Gr.lt_of7 Gr.le_of7 Gr.lt_of8 Gr.le_of8 Gr.lt_of9 Gr.le_of9 Gr.lt_of10 Gr.le_of10 Gr.lt_of11 Gr.le_of11 Gr.lt_of12 Gr.le_of12 Gr.lt_of13 Gr.le_of13 Gr.lt_of14 Gr.le_of14 Gr.lt_of15 Gr.le_of15 Gr.lt_of16 Gr.le_of16 Gr.lt_of17 Gr.le_of17 Gr.lt_of18 Gr.le_of18 Gr.lt_of19 Gr.le_of19 Gr.lt_of20 Gr.le_of20 Gr.lt_of21 Gr.le_of21 Gr.lt_of22 Gr.le_of22 Gr.lt_of23 Gr.le_of23 Gr.lt_of24 Gr.le_of24

set_option maxRecDepth 20000 in set_option maxHeartbeats 2000000 in
theorem xref_any (a1 a2 : Int) (w : World) : Calls Try.prog 22 #[.agg #[.int .i64 a1, .int .i64 a2]] w fun e w' => e = .returned (.agg #[.int .i64 a1, .int .i64 a2]) ∧ IsGr w w' := by
  go_enter Try.func22, Try.ntmps22
  go_wp2
  exact bodyPost_ret (v := .agg #[.int .i64 a1, .int .i64 a2]) (by simp [results, Try.results22, go_sem]) rfl ⟨rfl, (by with_reducible repeat (first | exact IsGr.refl _ | refine IsGr.gr ?_ _ _ | refine IsGr.alloc ?_ _ | refine IsGr.drew ?_ | refine IsGr.drewN ?_ _))⟩

set_option maxRecDepth 20000 in set_option maxHeartbeats 2000000 in
theorem lright_any (a1 a2 b1 b2 : Int) (w : World) : Calls Try.prog 20 #[.agg #[.int .i64 a1, .int .i64 a2, .int .i64 b1, .int .i64 b2]] w fun e w' => e = .returned (.bool (segR a1 a2 b1 b2)) ∧ IsGr w w' := by
  have F1 := fun w => xref_any a1 a2 w
  have F2 := fun w => xref_any b1 b2 w
  have C1 := fun w => RefRight_any a1 a2 w
  have C2 := fun w => RefRight_any b1 b2 w
  have HR : Hid ((rightP a1 a2 && rightP b1 b2) = segR a1 a2 b1 b2) := rfl
  generalize rightP a1 a2 = X at C1 HR
  generalize rightP b1 b2 = Y at C2 HR
  go_enter Try.func20, Try.ntmps20
  go_wp2_with fail
  refine (F1 _).mono ?_
  rintro e w1 ⟨rfl, os1, dr1, rfl⟩
  go_wp2_with fail
  refine (C1 _).mono ?_
  rintro e w1 ⟨rfl, os2, dr2, rfl⟩
  cases X
  · go_wp2
    go_ret
    exact ⟨ret_bool HR.out, (by with_reducible repeat (first | exact IsGr.refl _ | refine IsGr.gr ?_ _ _ | refine IsGr.alloc ?_ _ | refine IsGr.drew ?_ | refine IsGr.drewN ?_ _))⟩
  · go_wp2_with fail
    refine (F2 _).mono ?_
    rintro e w1 ⟨rfl, os3, dr3, rfl⟩
    go_wp2_with fail
    refine (C2 _).mono ?_
    rintro e w1 ⟨rfl, os4, dr4, rfl⟩
    go_wp2
    go_ret
    exact ⟨ret_bool HR.out, (by with_reducible repeat (first | exact IsGr.refl _ | refine IsGr.gr ?_ _ _ | refine IsGr.alloc ?_ _ | refine IsGr.drew ?_ | refine IsGr.drewN ?_ _))⟩

set_option maxRecDepth 20000 in set_option maxHeartbeats 2000000 in
theorem lspot_any (x y z : Int) (fx : Fit x) (fy : Fit y) (fz : Fit z) (w : World) :
    Calls Try.prog 25 #[.agg #[.int .u64 (wd0 x), .int .u64 (wd1 x), .int .u64 (wd2 x), .int .u64 (wd3 x), .int .u64 (wd0 y), .int .u64 (wd1 y), .int .u64 (wd2 y), .int .u64 (wd3 y), .int .u64 (wd0 z), .int .u64 (wd1 z), .int .u64 (wd2 z), .int .u64 (wd3 z)]] w fun e w' => ∃ v, e = .returned v ∧ IsSp w' v x y z ∧ IsGr w w' := by
  have O1 := fun w => Read_any (wd_is fx).1 fx.1 fx.2 w
  have O2 := fun w => Read_any (wd_is fy).1 fy.1 fy.2 w
  have O3 := fun w => Read_any (wd_is fz).1 fz.1 fz.2 w
  clear fx fy fz
  go_enter Try.func25, Try.ntmps25
  go_upto_region 1 with fail
  obtain ⟨C, hin, hcl, hcells, hgr⟩ : ∃ C : World → Prop, (∀ w', w.heap.size + 2 ≤ w'.heap.size ∧ IsGr w w' ∧ (w'.cell? ⟨w.heap.size, 0, none⟩ = some (.int .u64 (wd0 x))) ∧ (w'.cell? ⟨w.heap.size, 1, none⟩ = some (.int .u64 (wd1 x))) ∧ (w'.cell? ⟨w.heap.size, 2, none⟩ = some (.int .u64 (wd2 x))) ∧ (w'.cell? ⟨w.heap.size, 3, none⟩ = some (.int .u64 (wd3 x))) ∧ (w'.cell? ⟨w.heap.size, 4, none⟩ = some (.int .u64 (wd0 y))) ∧ (w'.cell? ⟨w.heap.size, 5, none⟩ = some (.int .u64 (wd1 y))) ∧ (w'.cell? ⟨w.heap.size, 6, none⟩ = some (.int .u64 (wd2 y))) ∧ (w'.cell? ⟨w.heap.size, 7, none⟩ = some (.int .u64 (wd3 y))) ∧ (w'.cell? ⟨w.heap.size, 8, none⟩ = some (.int .u64 (wd0 z))) ∧ (w'.cell? ⟨w.heap.size, 9, none⟩ = some (.int .u64 (wd1 z))) ∧ (w'.cell? ⟨w.heap.size, 10, none⟩ = some (.int .u64 (wd2 z))) ∧ (w'.cell? ⟨w.heap.size, 11, none⟩ = some (.int .u64 (wd3 z))) ∧ (w'.cell? ⟨w.heap.size + 1, 0, none⟩ = some (.bool false)) ∧ (w'.cell? ⟨w.heap.size + 1, 1, none⟩ = some (.slice none 0 0)) ∧ (w'.cell? ⟨w.heap.size + 1, 2, none⟩ = some (.bool false)) ∧ (w'.cell? ⟨w.heap.size + 1, 3, none⟩ = some (.slice none 0 0)) ∧ (w'.cell? ⟨w.heap.size + 1, 4, none⟩ = some (.bool false)) ∧ (w'.cell? ⟨w.heap.size + 1, 5, none⟩ = some (.slice none 0 0)) ∧ (w'.frozen? ⟨w.heap.size + 1, 0, none⟩ = false) ∧ (w'.frozen? ⟨w.heap.size + 1, 1, none⟩ = false) ∧ (w'.frozen? ⟨w.heap.size + 1, 2, none⟩ = false) ∧ (w'.frozen? ⟨w.heap.size + 1, 3, none⟩ = false) ∧ (w'.frozen? ⟨w.heap.size + 1, 4, none⟩ = false) ∧ (w'.frozen? ⟨w.heap.size + 1, 5, none⟩ = false) → C w') ∧ (∀ u u', C u → IsGr u u' → C u') ∧ (∀ w', C w' → (w'.cell? ⟨w.heap.size, 0, none⟩ = some (.int .u64 (wd0 x))) ∧ (w'.cell? ⟨w.heap.size, 1, none⟩ = some (.int .u64 (wd1 x))) ∧ (w'.cell? ⟨w.heap.size, 2, none⟩ = some (.int .u64 (wd2 x))) ∧ (w'.cell? ⟨w.heap.size, 3, none⟩ = some (.int .u64 (wd3 x))) ∧ (w'.cell? ⟨w.heap.size, 4, none⟩ = some (.int .u64 (wd0 y))) ∧ (w'.cell? ⟨w.heap.size, 5, none⟩ = some (.int .u64 (wd1 y))) ∧ (w'.cell? ⟨w.heap.size, 6, none⟩ = some (.int .u64 (wd2 y))) ∧ (w'.cell? ⟨w.heap.size, 7, none⟩ = some (.int .u64 (wd3 y))) ∧ (w'.cell? ⟨w.heap.size, 8, none⟩ = some (.int .u64 (wd0 z))) ∧ (w'.cell? ⟨w.heap.size, 9, none⟩ = some (.int .u64 (wd1 z))) ∧ (w'.cell? ⟨w.heap.size, 10, none⟩ = some (.int .u64 (wd2 z))) ∧ (w'.cell? ⟨w.heap.size, 11, none⟩ = some (.int .u64 (wd3 z))) ∧ (w'.cell? ⟨w.heap.size + 1, 0, none⟩ = some (.bool false)) ∧ (w'.cell? ⟨w.heap.size + 1, 1, none⟩ = some (.slice none 0 0)) ∧ (w'.cell? ⟨w.heap.size + 1, 2, none⟩ = some (.bool false)) ∧ (w'.cell? ⟨w.heap.size + 1, 3, none⟩ = some (.slice none 0 0)) ∧ (w'.cell? ⟨w.heap.size + 1, 4, none⟩ = some (.bool false)) ∧ (w'.cell? ⟨w.heap.size + 1, 5, none⟩ = some (.slice none 0 0)) ∧ (w'.frozen? ⟨w.heap.size + 1, 0, none⟩ = false) ∧ (w'.frozen? ⟨w.heap.size + 1, 1, none⟩ = false) ∧ (w'.frozen? ⟨w.heap.size + 1, 2, none⟩ = false) ∧ (w'.frozen? ⟨w.heap.size + 1, 3, none⟩ = false) ∧ (w'.frozen? ⟨w.heap.size + 1, 4, none⟩ = false) ∧ (w'.frozen? ⟨w.heap.size + 1, 5, none⟩ = false)) ∧ (∀ w', C w' → IsGr w w' ∧ w.heap.size + 2 ≤ w'.heap.size) := by
    refine ⟨fun w' => w.heap.size + 2 ≤ w'.heap.size ∧ IsGr w w' ∧ (w'.cell? ⟨w.heap.size, 0, none⟩ = some (.int .u64 (wd0 x))) ∧ (w'.cell? ⟨w.heap.size, 1, none⟩ = some (.int .u64 (wd1 x))) ∧ (w'.cell? ⟨w.heap.size, 2, none⟩ = some (.int .u64 (wd2 x))) ∧ (w'.cell? ⟨w.heap.size, 3, none⟩ = some (.int .u64 (wd3 x))) ∧ (w'.cell? ⟨w.heap.size, 4, none⟩ = some (.int .u64 (wd0 y))) ∧ (w'.cell? ⟨w.heap.size, 5, none⟩ = some (.int .u64 (wd1 y))) ∧ (w'.cell? ⟨w.heap.size, 6, none⟩ = some (.int .u64 (wd2 y))) ∧ (w'.cell? ⟨w.heap.size, 7, none⟩ = some (.int .u64 (wd3 y))) ∧ (w'.cell? ⟨w.heap.size, 8, none⟩ = some (.int .u64 (wd0 z))) ∧ (w'.cell? ⟨w.heap.size, 9, none⟩ = some (.int .u64 (wd1 z))) ∧ (w'.cell? ⟨w.heap.size, 10, none⟩ = some (.int .u64 (wd2 z))) ∧ (w'.cell? ⟨w.heap.size, 11, none⟩ = some (.int .u64 (wd3 z))) ∧ (w'.cell? ⟨w.heap.size + 1, 0, none⟩ = some (.bool false)) ∧ (w'.cell? ⟨w.heap.size + 1, 1, none⟩ = some (.slice none 0 0)) ∧ (w'.cell? ⟨w.heap.size + 1, 2, none⟩ = some (.bool false)) ∧ (w'.cell? ⟨w.heap.size + 1, 3, none⟩ = some (.slice none 0 0)) ∧ (w'.cell? ⟨w.heap.size + 1, 4, none⟩ = some (.bool false)) ∧ (w'.cell? ⟨w.heap.size + 1, 5, none⟩ = some (.slice none 0 0)) ∧ (w'.frozen? ⟨w.heap.size + 1, 0, none⟩ = false) ∧ (w'.frozen? ⟨w.heap.size + 1, 1, none⟩ = false) ∧ (w'.frozen? ⟨w.heap.size + 1, 2, none⟩ = false) ∧ (w'.frozen? ⟨w.heap.size + 1, 3, none⟩ = false) ∧ (w'.frozen? ⟨w.heap.size + 1, 4, none⟩ = false) ∧ (w'.frozen? ⟨w.heap.size + 1, 5, none⟩ = false), fun w' h => h, ?_, fun w' h => h.2.2, fun w' h => ⟨h.2.1, h.1⟩⟩
    rintro u u' ⟨h0, h1, h2⟩ hg
    refine ⟨Nat.le_trans h0 hg.size, h1.trans hg, ?_⟩
    exact ⟨hg.cell_at (by omega) h2.1, hg.cell_at (by omega) h2.2.1, hg.cell_at (by omega) h2.2.2.1, hg.cell_at (by omega) h2.2.2.2.1, hg.cell_at (by omega) h2.2.2.2.2.1, hg.cell_at (by omega) h2.2.2.2.2.2.1, hg.cell_at (by omega) h2.2.2.2.2.2.2.1, hg.cell_at (by omega) h2.2.2.2.2.2.2.2.1, hg.cell_at (by omega) h2.2.2.2.2.2.2.2.2.1, hg.cell_at (by omega) h2.2.2.2.2.2.2.2.2.2.1, hg.cell_at (by omega) h2.2.2.2.2.2.2.2.2.2.2.1, hg.cell_at (by omega) h2.2.2.2.2.2.2.2.2.2.2.2.1, hg.cell_at (by omega) h2.2.2.2.2.2.2.2.2.2.2.2.2.1, hg.cell_at (by omega) h2.2.2.2.2.2.2.2.2.2.2.2.2.2.1, hg.cell_at (by omega) h2.2.2.2.2.2.2.2.2.2.2.2.2.2.2.1, hg.cell_at (by omega) h2.2.2.2.2.2.2.2.2.2.2.2.2.2.2.2.1, hg.cell_at (by omega) h2.2.2.2.2.2.2.2.2.2.2.2.2.2.2.2.2.1, hg.cell_at (by omega) h2.2.2.2.2.2.2.2.2.2.2.2.2.2.2.2.2.2.1, hg.frozen_at (by omega) h2.2.2.2.2.2.2.2.2.2.2.2.2.2.2.2.2.2.2.1, hg.frozen_at (by omega) h2.2.2.2.2.2.2.2.2.2.2.2.2.2.2.2.2.2.2.2.1, hg.frozen_at (by omega) h2.2.2.2.2.2.2.2.2.2.2.2.2.2.2.2.2.2.2.2.2.1, hg.frozen_at (by omega) h2.2.2.2.2.2.2.2.2.2.2.2.2.2.2.2.2.2.2.2.2.2.1, hg.frozen_at (by omega) h2.2.2.2.2.2.2.2.2.2.2.2.2.2.2.2.2.2.2.2.2.2.2.1, hg.frozen_at (by omega) h2.2.2.2.2.2.2.2.2.2.2.2.2.2.2.2.2.2.2.2.2.2.2.2⟩
  refine wp_region_but (S := C) (k := 10) (n := 10) (by kernel_rfl) (by kernel_rfl) (by (try dsimp only); exact hin _ ⟨by first | omega | (simp; done) | (simp; omega) | (simp [Gr.size]; done) | (simp [Gr.size]; omega), (by with_reducible repeat (first | exact IsGr.refl _ | refine IsGr.gr ?_ _ _ | refine IsGr.alloc ?_ _ | refine IsGr.drew ?_ | refine IsGr.drewN ?_ _)), by simp [go_sem]⟩) (fun hHeld => ?_)
  refine wpAnyH_take (i := 0) (oi := { dst := some 3, op := Op.fieldAddr 46 (Operand.tmp 1) 0, type := 0, pos := "law.go:23", after := #[], guard := none }) (v := ?_) rfl (by kernel_rfl) (by kernel_rfl) (by kernel_rfl) (fun _ _ _ h => h) (Or.inl ⟨by rfl, ?_⟩) (by assumption) ?_
  rotate_left
  · (intro w hSw; (try dsimp only at hSw); (try have hcs := hcells w hSw); (try go_split_ands); go_simp <;> with_reducible rfl)
  (try simp only [Act.put, qA, qB, qC])
  refine wpAnyH_take (i := 1) (oi := { dst := some 4, op := Op.load 44 (Operand.tmp 3), type := 44, pos := "law.go:23", after := #[{ on := 0, ground := Ground.data }], guard := none }) (v := ?_) rfl (by kernel_rfl) (by kernel_rfl) (by kernel_rfl) (fun _ _ _ h => h) (Or.inl ⟨by rfl, ?_⟩) (by assumption) ?_
  rotate_left
  · (intro w hSw; (try dsimp only at hSw); (try have hcs := hcells w hSw); (try go_split_ands); go_simp <;> with_reducible rfl)
  (try simp only [Act.put, qA, qB, qC])
  refine wpAnyH_take (i := 3) (oi := { dst := some 6, op := Op.fieldAddr 46 (Operand.tmp 1) 1, type := 0, pos := "law.go:23", after := #[], guard := none }) (v := ?_) rfl (by kernel_rfl) (by kernel_rfl) (by kernel_rfl) (fun _ _ _ h => h) (Or.inl ⟨by rfl, ?_⟩) (by assumption) ?_
  rotate_left
  · (intro w hSw; (try dsimp only at hSw); (try have hcs := hcells w hSw); (try go_split_ands); go_simp <;> with_reducible rfl)
  (try simp only [Act.put, qA, qB, qC])
  refine wpAnyH_take (i := 4) (oi := { dst := some 7, op := Op.load 44 (Operand.tmp 6), type := 44, pos := "law.go:23", after := #[{ on := 3, ground := Ground.data }], guard := none }) (v := ?_) rfl (by kernel_rfl) (by kernel_rfl) (by kernel_rfl) (fun _ _ _ h => h) (Or.inl ⟨by rfl, ?_⟩) (by assumption) ?_
  rotate_left
  · (intro w hSw; (try dsimp only at hSw); (try have hcs := hcells w hSw); (try go_split_ands); go_simp <;> with_reducible rfl)
  (try simp only [Act.put, qA, qB, qC])
  refine wpAnyH_take (i := 6) (oi := { dst := some 9, op := Op.fieldAddr 46 (Operand.tmp 1) 2, type := 0, pos := "law.go:23", after := #[], guard := none }) (v := ?_) rfl (by kernel_rfl) (by kernel_rfl) (by kernel_rfl) (fun _ _ _ h => h) (Or.inl ⟨by rfl, ?_⟩) (by assumption) ?_
  rotate_left
  · (intro w hSw; (try dsimp only at hSw); (try have hcs := hcells w hSw); (try go_split_ands); go_simp <;> with_reducible rfl)
  (try simp only [Act.put, qA, qB, qC])
  refine wpAnyH_take (i := 7) (oi := { dst := some 10, op := Op.load 44 (Operand.tmp 9), type := 44, pos := "law.go:23", after := #[{ on := 6, ground := Ground.data }], guard := none }) (v := ?_) rfl (by kernel_rfl) (by kernel_rfl) (by kernel_rfl) (fun _ _ _ h => h) (Or.inl ⟨by rfl, ?_⟩) (by assumption) ?_
  rotate_left
  · (intro w hSw; (try dsimp only at hSw); (try have hcs := hcells w hSw); (try go_split_ands); go_simp <;> with_reducible rfl)
  (try simp only [Act.put, qA, qB, qC])
  refine wpAnyH_ready (rs := [2]) (by kernel_rfl) (by simp) ?_
  refine AllReadyH.cons (o := { dst := some 5, op := Op.call { callee := Callee.value (Operand.func 65), args := #[Operand.tmp 4], argTypes := #[43] }, type := 53, pos := "law.go:23", after := #[{ on := 1, ground := Ground.data }], guard := none }) rfl (fun K hK => ?_) ?_
  · go_simp
    refine (O1 _).mono ?_
    rintro e w2 ⟨x, rfl, hx, hg2⟩
    obtain ⟨xs, xa, xn, xc, rfl⟩ := hx.shape
    (try go_wp2_with fail)
    refine hK.out _ _ (by (try dsimp only); exact hcl _ _ hHeld (by first | with_reducible assumption | with_reducible exact IsGr.refl _ | with_reducible exact (IsGr.refl _).alloc _ | with_reducible exact ((IsGr.refl _).alloc _).alloc _ | assumption)) (fun hHeld2 => ?_)
    clear hK K hHeld
    have hHeld := hHeld2
    clear hHeld2
    (try simp only [Act.put, qA, qB, qC])
    refine wpAnyH_ready (rs := [5]) (by kernel_rfl) (by simp) ?_
    refine AllReadyH.cons (o := { dst := some 8, op := Op.call { callee := Callee.value (Operand.func 65), args := #[Operand.tmp 7], argTypes := #[43] }, type := 53, pos := "law.go:23", after := #[{ on := 4, ground := Ground.data }, { on := 2, ground := Ground.chain }], guard := none }) rfl (fun K hK => ?_) ?_
    · go_simp
      refine (O2 _).mono ?_
      rintro e w3 ⟨y, rfl, hy, hg3⟩
      replace hx := hx.gr hg3
      obtain ⟨ys, ya, yn, yc, rfl⟩ := hy.shape
      (try go_wp2_with fail)
      refine hK.out _ _ (by (try dsimp only); exact hcl _ _ hHeld (by first | with_reducible assumption | with_reducible exact IsGr.refl _ | with_reducible exact (IsGr.refl _).alloc _ | with_reducible exact ((IsGr.refl _).alloc _).alloc _ | assumption)) (fun hHeld2 => ?_)
      clear hK K hHeld
      have hHeld := hHeld2
      clear hHeld2
      (try simp only [Act.put, qA, qB, qC])
      refine wpAnyH_ready (rs := [8]) (by kernel_rfl) (by simp) ?_
      refine AllReadyH.cons (o := { dst := some 11, op := Op.call { callee := Callee.value (Operand.func 65), args := #[Operand.tmp 10], argTypes := #[43] }, type := 53, pos := "law.go:23", after := #[{ on := 7, ground := Ground.data }, { on := 5, ground := Ground.chain }], guard := none }) rfl (fun K hK => ?_) ?_
      · go_simp
        refine (O3 _).mono ?_
        rintro e w4 ⟨z, rfl, hz, hg4⟩
        replace hx := hx.gr hg4
        replace hy := hy.gr hg4
        obtain ⟨zs, za, zn, zc, rfl⟩ := hz.shape
        (try go_wp2_with fail)
        refine hK.out _ _ (by (try dsimp only); exact hcl _ _ hHeld (by first | with_reducible assumption | with_reducible exact IsGr.refl _ | with_reducible exact (IsGr.refl _).alloc _ | with_reducible exact ((IsGr.refl _).alloc _).alloc _ | assumption)) (fun hHeld2 => ?_)
        clear hK K hHeld
        have hHeld := hHeld2
        clear hHeld2
        (try simp only [Act.put, qA, qB, qC])
        refine wpAnyH_take (i := 9) (oi := { dst := some 12, op := Op.build 55 #[(0, Operand.tmp 5), (1, Operand.tmp 8), (2, Operand.tmp 11)], type := 55, pos := "law.go:23", after := #[{ on := 2, ground := Ground.data }, { on := 5, ground := Ground.data }, { on := 8, ground := Ground.data }], guard := none }) (v := ?_) rfl (by kernel_rfl) (by kernel_rfl) (by kernel_rfl) (fun _ _ _ h => h) (Or.inl ⟨by rfl, ?_⟩) (by assumption) ?_
        rotate_left
        · (intro w hSw; (try dsimp only at hSw); (try have hcs := hcells w hSw); (try go_split_ands); go_simp <;> with_reducible rfl)
        (try simp only [Act.put, qA, qB, qC])
        refine wpAnyH_done (by kernel_rfl) ?_ _
        obtain ⟨_, _, _, _, _, _, _, _, _, _, _, _, z0, z1, z2, z3, z4, z5, f0, f1, f2, f3, f4, f5⟩ := hcells _ hHeld
        obtain ⟨hg, hs⟩ := hgr _ hHeld
        have kr : w.heap.size + 1 < w4.heap.size := by omega
        refine butLast_step (o := { dst := none, op := Op.store 55 (Operand.tmp 2) (Operand.tmp 12), type := 0, pos := "law.go:23", after := #[{ on := 9, ground := Ground.data }, { on := 8, ground := Ground.chain }, { on := 0, ground := Ground.phase }, { on := 1, ground := Ground.phase }, { on := 2, ground := Ground.phase }, { on := 3, ground := Ground.phase }, { on := 4, ground := Ground.phase }, { on := 5, ground := Ground.phase }, { on := 6, ground := Ground.phase }, { on := 7, ground := Ground.phase }, { on := 8, ground := Ground.phase }, { on := 9, ground := Ground.phase }], guard := none }) rfl (fun K hK => ?_)
        go_simp
        refine hK.out _ _ ?_
        clear hK K
        (try simp only [Act.put, qA, qB, qC])
        go_wp2
        have hbe := hg.below
        have kq : w.heap.size ≤ w.heap.size + 1 := by omega
        refine bodyPost_ret (v := .agg #[.bool xs, .slice xa xn xc, .bool ys, .slice ya yn yc, .bool zs, .slice za zn zc]) (by simp [results, Try.results25, go_sem, z0, z1, z2, z3, z4, z5]) rfl ⟨_, rfl, ⟨xs, xa, xn, xc, ys, ya, yn, yc, zs, za, zn, zc, rfl, hx.kb (Kb.set (Kb.set (Kb.set (Kb.set (Kb.set (Kb.set (Kb.refl _) _ _ z0 (fun n h => by cases h)) _ _ z1 (fun n h => by cases h)) _ _ z2 (fun n h => by cases h)) _ _ z3 (fun n h => by cases h)) _ _ z4 (fun n h => by cases h)) _ _ z5 (fun n h => by cases h)), hy.kb (Kb.set (Kb.set (Kb.set (Kb.set (Kb.set (Kb.set (Kb.refl _) _ _ z0 (fun n h => by cases h)) _ _ z1 (fun n h => by cases h)) _ _ z2 (fun n h => by cases h)) _ _ z3 (fun n h => by cases h)) _ _ z4 (fun n h => by cases h)) _ _ z5 (fun n h => by cases h)), hz.kb (Kb.set (Kb.set (Kb.set (Kb.set (Kb.set (Kb.set (Kb.refl _) _ _ z0 (fun n h => by cases h)) _ _ z1 (fun n h => by cases h)) _ _ z2 (fun n h => by cases h)) _ _ z3 (fun n h => by cases h)) _ _ z4 (fun n h => by cases h)) _ _ z5 (fun n h => by cases h))⟩, IsGr.of_below (Below.setCell (Below.setCell (Below.setCell (Below.setCell (Below.setCell (Below.setCell hbe kq _) kq _) kq _) kq _) kq _) kq _)⟩
      exact AllReadyH.nil
    exact AllReadyH.nil
  exact AllReadyH.nil

set_option maxRecDepth 20000 in set_option maxHeartbeats 2000000 in
theorem awake4_any (w : World) : Calls Try.prog 24 #[] w fun e w' => e = .returned (.bool true) ∧ IsGr w w' := by
  have CM := fun w => Meet_any 0 0 3 3 0 2 2 0 0 0 3 3 0 2 2 0 0 2 2 0 12 4 1 (.agg #[.int .u64 (wd0 12), .int .u64 (wd1 12), .int .u64 (wd2 12), .int .u64 (wd3 12), .int .u64 (wd0 12), .int .u64 (wd1 12), .int .u64 (wd2 12), .int .u64 (wd3 12), .int .u64 (wd0 12), .int .u64 (wd1 12), .int .u64 (wd2 12), .int .u64 (wd3 12)]) (Or.inr ⟨by decide, rfl, rfl, rfl, rfl⟩) (Or.inr ⟨by decide, rfl, rfl, rfl, rfl⟩) (Or.inl ⟨by decide, rfl, rfl⟩) (Or.inl ⟨by decide, rfl, rfl⟩) (Or.inl ⟨by decide, by decide, by decide⟩) (by decide) (by decide)
    (Or.inr (Or.inr (Or.inr (Or.inl ⟨by decide, by decide, by decide, by decide, rfl, rfl⟩)))) w
  have CW := fun w => Whole_yes 12 12 12 (by decide) w
  rw [show (12 : Int).fdiv 12 = 1 by decide] at CW
  have f1 : Fit 1 := by unfold Fit; omega
  have f2 : Fit 2 := by unfold Fit; omega
  have f12 : Fit 12 := by unfold Fit; omega
  have CC := fun w => SpCmp_any 12 12 12 1 1 1 f12 f12 f12 f1 f1 f1 w
  rw [show spotC 12 12 12 1 1 1 = 0 by decide] at CC
  have CA1 := fun w => At_yes 1 1 (by decide) w
  have CA2 := fun w => At_yes 2 2 (by decide) w
  have CH1 := fun w => Holds_yes 0 0 1 1 0 0 1 1 1 1 1 (Or.inr ⟨by decide, rfl, rfl, rfl, rfl⟩) (by decide) (by decide) w
  rw [show holdsS 0 0 1 1 1 1 1 = true by decide] at CH1
  have CH2 := fun w => Holds_yes 0 0 1 1 0 0 1 1 2 2 1 (Or.inr ⟨by decide, rfl, rfl, rfl, rfl⟩) (by decide) (by decide) w
  rw [show holdsS 0 0 1 1 2 2 1 = false by decide] at CH2
  clear f1 f2 f12
  go_enter Try.func24, Try.ntmps24
  go_upto_region 1 with fail
  go_cut [1, 2] (fun t1 t2 wr => ∃ g2 : Nat, t1 = .int .i64 1 ∧ t2 = .pointer (some ⟨g2, 0, none⟩) ∧ g2 < wr.heap.size ∧ (wr.cell? ⟨g2, 0, none⟩ = some (.int .u64 (wd0 (12))) ∧ wr.cell? ⟨g2, 1, none⟩ = some (.int .u64 (wd1 (12))) ∧ wr.cell? ⟨g2, 2, none⟩ = some (.int .u64 (wd2 (12))) ∧ wr.cell? ⟨g2, 3, none⟩ = some (.int .u64 (wd3 (12))) ∧ wr.cell? ⟨g2, 4, none⟩ = some (.int .u64 (wd0 (12))) ∧ wr.cell? ⟨g2, 5, none⟩ = some (.int .u64 (wd1 (12))) ∧ wr.cell? ⟨g2, 6, none⟩ = some (.int .u64 (wd2 (12))) ∧ wr.cell? ⟨g2, 7, none⟩ = some (.int .u64 (wd3 (12))) ∧ wr.cell? ⟨g2, 8, none⟩ = some (.int .u64 (wd0 (12))) ∧ wr.cell? ⟨g2, 9, none⟩ = some (.int .u64 (wd1 (12))) ∧ wr.cell? ⟨g2, 10, none⟩ = some (.int .u64 (wd2 (12))) ∧ wr.cell? ⟨g2, 11, none⟩ = some (.int .u64 (wd3 (12)))) ∧ IsGr w wr)
  case first =>
    go_wp2_with fail
    refine (CM _).mono ?_
    rintro e w1 ⟨rfl, os1, dr1, rfl⟩
    go_wp2
    go_meet
    case rel =>
      refine ⟨_, rfl, rfl, ?_, ?_, (by with_reducible repeat (first | exact IsGr.refl _ | refine IsGr.gr ?_ _ _ | refine IsGr.alloc ?_ _ | refine IsGr.drew ?_ | refine IsGr.drewN ?_ _))⟩
      · first | omega | (simp; done) | (simp; omega) | (simp [Gr.size]; done) | (simp [Gr.size]; omega)
      · simp [go_sem]
  case rest =>
    obtain ⟨g2, rfl, rfl, k2, q2, hgw⟩ := hcut
    obtain ⟨W1, hW9⟩ : ∃ W1, W1 = wc := ⟨_, rfl⟩
    subst hW9
    have HG : Hid (IsGr w W1) := hgw
    obtain ⟨o0, o1, o2, o3, o4, o5, o6, o7, o8, o9, o10, o11⟩ := q2
    clear hgw CM
    go_upto_region 2 with fail
    go_cut [3, 4] (fun t3 t4 wr => ∃ g3 : Nat, t3 = .pointer (some ⟨g3, 0, none⟩) ∧ t4 = .bool true ∧ g3 < wr.heap.size ∧ (wr.cell? ⟨g3, 0, none⟩ = some (.int .i64 1) ∧ wr.cell? ⟨g3, 1, none⟩ = some (.int .i64 1)) ∧ IsGr W1 wr)
    case first =>
      go_wp2_with fail
      refine (CW _).mono ?_
      rintro e w1 ⟨rfl, os1, dr1, rfl⟩
      go_wp2
      go_meet
      case rel =>
        refine ⟨_, rfl, rfl, ?_, ?_, (by with_reducible repeat (first | exact IsGr.refl _ | refine IsGr.gr ?_ _ _ | refine IsGr.alloc ?_ _ | refine IsGr.drew ?_ | refine IsGr.drewN ?_ _))⟩
        · first | omega | (simp; done) | (simp; omega) | (simp [Gr.size]; done) | (simp [Gr.size]; omega)
        · simp [go_sem]
    case rest =>
      obtain ⟨g3, rfl, rfl, k3, q3, hgr⟩ := hcut
      obtain ⟨W2, hW9⟩ : ∃ W2, W2 = wc := ⟨_, rfl⟩
      subst hW9
      have q2 : (W2.cell? ⟨g2, 0, none⟩ = some (.int .u64 (wd0 (12))) ∧ W2.cell? ⟨g2, 1, none⟩ = some (.int .u64 (wd1 (12))) ∧ W2.cell? ⟨g2, 2, none⟩ = some (.int .u64 (wd2 (12))) ∧ W2.cell? ⟨g2, 3, none⟩ = some (.int .u64 (wd3 (12))) ∧ W2.cell? ⟨g2, 4, none⟩ = some (.int .u64 (wd0 (12))) ∧ W2.cell? ⟨g2, 5, none⟩ = some (.int .u64 (wd1 (12))) ∧ W2.cell? ⟨g2, 6, none⟩ = some (.int .u64 (wd2 (12))) ∧ W2.cell? ⟨g2, 7, none⟩ = some (.int .u64 (wd3 (12))) ∧ W2.cell? ⟨g2, 8, none⟩ = some (.int .u64 (wd0 (12))) ∧ W2.cell? ⟨g2, 9, none⟩ = some (.int .u64 (wd1 (12))) ∧ W2.cell? ⟨g2, 10, none⟩ = some (.int .u64 (wd2 (12))) ∧ W2.cell? ⟨g2, 11, none⟩ = some (.int .u64 (wd3 (12)))) := ⟨hgr.cell_at k2 o0, hgr.cell_at k2 o1, hgr.cell_at k2 o2, hgr.cell_at k2 o3, hgr.cell_at k2 o4, hgr.cell_at k2 o5, hgr.cell_at k2 o6, hgr.cell_at k2 o7, hgr.cell_at k2 o8, hgr.cell_at k2 o9, hgr.cell_at k2 o10, hgr.cell_at k2 o11⟩
      replace k2 : g2 < W2.heap.size := Nat.lt_of_lt_of_le k2 hgr.size
      replace HG : Hid (IsGr w W2) := HG.out.trans hgr
      clear hgr CW o0 o1 o2 o3 o4 o5 o6 o7 o8 o9 o10 o11
      go_upto_region 3 with fail
      obtain ⟨C, hin, hcl, hcells, hgr⟩ : ∃ C : World → Prop, (∀ w', W2.heap.size ≤ w'.heap.size ∧ IsGr W2 w' ∧ (w'.cell? ⟨g2, 0, none⟩ = some (.int .u64 (wd0 (12))) ∧ w'.cell? ⟨g2, 1, none⟩ = some (.int .u64 (wd1 (12))) ∧ w'.cell? ⟨g2, 2, none⟩ = some (.int .u64 (wd2 (12))) ∧ w'.cell? ⟨g2, 3, none⟩ = some (.int .u64 (wd3 (12))) ∧ w'.cell? ⟨g2, 4, none⟩ = some (.int .u64 (wd0 (12))) ∧ w'.cell? ⟨g2, 5, none⟩ = some (.int .u64 (wd1 (12))) ∧ w'.cell? ⟨g2, 6, none⟩ = some (.int .u64 (wd2 (12))) ∧ w'.cell? ⟨g2, 7, none⟩ = some (.int .u64 (wd3 (12))) ∧ w'.cell? ⟨g2, 8, none⟩ = some (.int .u64 (wd0 (12))) ∧ w'.cell? ⟨g2, 9, none⟩ = some (.int .u64 (wd1 (12))) ∧ w'.cell? ⟨g2, 10, none⟩ = some (.int .u64 (wd2 (12))) ∧ w'.cell? ⟨g2, 11, none⟩ = some (.int .u64 (wd3 (12)))) ∧ (w'.cell? ⟨g3, 0, none⟩ = some (.int .i64 1) ∧ w'.cell? ⟨g3, 1, none⟩ = some (.int .i64 1)) → C w') ∧ (∀ u u', C u → IsGr u u' → C u') ∧ (∀ w', C w' → (w'.cell? ⟨g2, 0, none⟩ = some (.int .u64 (wd0 (12))) ∧ w'.cell? ⟨g2, 1, none⟩ = some (.int .u64 (wd1 (12))) ∧ w'.cell? ⟨g2, 2, none⟩ = some (.int .u64 (wd2 (12))) ∧ w'.cell? ⟨g2, 3, none⟩ = some (.int .u64 (wd3 (12))) ∧ w'.cell? ⟨g2, 4, none⟩ = some (.int .u64 (wd0 (12))) ∧ w'.cell? ⟨g2, 5, none⟩ = some (.int .u64 (wd1 (12))) ∧ w'.cell? ⟨g2, 6, none⟩ = some (.int .u64 (wd2 (12))) ∧ w'.cell? ⟨g2, 7, none⟩ = some (.int .u64 (wd3 (12))) ∧ w'.cell? ⟨g2, 8, none⟩ = some (.int .u64 (wd0 (12))) ∧ w'.cell? ⟨g2, 9, none⟩ = some (.int .u64 (wd1 (12))) ∧ w'.cell? ⟨g2, 10, none⟩ = some (.int .u64 (wd2 (12))) ∧ w'.cell? ⟨g2, 11, none⟩ = some (.int .u64 (wd3 (12)))) ∧ (w'.cell? ⟨g3, 0, none⟩ = some (.int .i64 1) ∧ w'.cell? ⟨g3, 1, none⟩ = some (.int .i64 1))) ∧ (∀ w', C w' → IsGr W2 w' ∧ W2.heap.size ≤ w'.heap.size) := by
        refine ⟨fun w' => W2.heap.size ≤ w'.heap.size ∧ IsGr W2 w' ∧ (w'.cell? ⟨g2, 0, none⟩ = some (.int .u64 (wd0 (12))) ∧ w'.cell? ⟨g2, 1, none⟩ = some (.int .u64 (wd1 (12))) ∧ w'.cell? ⟨g2, 2, none⟩ = some (.int .u64 (wd2 (12))) ∧ w'.cell? ⟨g2, 3, none⟩ = some (.int .u64 (wd3 (12))) ∧ w'.cell? ⟨g2, 4, none⟩ = some (.int .u64 (wd0 (12))) ∧ w'.cell? ⟨g2, 5, none⟩ = some (.int .u64 (wd1 (12))) ∧ w'.cell? ⟨g2, 6, none⟩ = some (.int .u64 (wd2 (12))) ∧ w'.cell? ⟨g2, 7, none⟩ = some (.int .u64 (wd3 (12))) ∧ w'.cell? ⟨g2, 8, none⟩ = some (.int .u64 (wd0 (12))) ∧ w'.cell? ⟨g2, 9, none⟩ = some (.int .u64 (wd1 (12))) ∧ w'.cell? ⟨g2, 10, none⟩ = some (.int .u64 (wd2 (12))) ∧ w'.cell? ⟨g2, 11, none⟩ = some (.int .u64 (wd3 (12)))) ∧ (w'.cell? ⟨g3, 0, none⟩ = some (.int .i64 1) ∧ w'.cell? ⟨g3, 1, none⟩ = some (.int .i64 1)), fun w' h => h, ?_, fun w' h => h.2.2, fun w' h => ⟨h.2.1, h.1⟩⟩
        rintro u u' ⟨h0, h1, h2⟩ hg
        refine ⟨Nat.le_trans h0 hg.size, h1.trans hg, ?_⟩
        exact ⟨⟨hg.cell_at (by omega) h2.1.1, hg.cell_at (by omega) h2.1.2.1, hg.cell_at (by omega) h2.1.2.2.1, hg.cell_at (by omega) h2.1.2.2.2.1, hg.cell_at (by omega) h2.1.2.2.2.2.1, hg.cell_at (by omega) h2.1.2.2.2.2.2.1, hg.cell_at (by omega) h2.1.2.2.2.2.2.2.1, hg.cell_at (by omega) h2.1.2.2.2.2.2.2.2.1, hg.cell_at (by omega) h2.1.2.2.2.2.2.2.2.2.1, hg.cell_at (by omega) h2.1.2.2.2.2.2.2.2.2.2.1, hg.cell_at (by omega) h2.1.2.2.2.2.2.2.2.2.2.2.1, hg.cell_at (by omega) h2.1.2.2.2.2.2.2.2.2.2.2.2⟩, ⟨hg.cell_at (by omega) h2.2.1, hg.cell_at (by omega) h2.2.2⟩⟩
      refine wp_region_quietV C (by kernel_rfl) (by kernel_rfl) (hin _ ⟨by simp, (by with_reducible repeat (first | exact IsGr.refl _ | refine IsGr.gr ?_ _ _ | refine IsGr.alloc ?_ _ | refine IsGr.drew ?_ | refine IsGr.drewN ?_ _)), ⟨q2, q3⟩⟩) (fun K HK => ?_)
      refine QK.take HK ?_ (by rfl) ?_ ?_
      rotate_left
      · (intro w hw; (try have hcs := hcells w hw); (try go_split_ands); go_simp <;> with_reducible rfl)
      (try simp only [Act.put, qA, qB, qC])
      refine QK.take HK ?_ (by rfl) ?_ ?_
      rotate_left
      · (intro w hw; (try have hcs := hcells w hw); (try go_split_ands); go_simp <;> with_reducible rfl)
      (try simp only [Act.put, qA, qB, qC])
      refine QK.take HK ?_ (by rfl) ?_ ?_
      rotate_left
      · (intro w hw; (try have hcs := hcells w hw); (try go_split_ands); go_simp <;> with_reducible rfl)
      (try simp only [Act.put, qA, qB, qC])
      refine QK.take HK ?_ (by rfl) ?_ ?_
      rotate_left
      · (intro w hw; (try have hcs := hcells w hw); (try go_split_ands); go_simp <;> with_reducible rfl)
      (try simp only [Act.put, qA, qB, qC])
      refine QK.take HK ?_ (by rfl) ?_ ?_
      rotate_left
      · (intro w hw; (try have hcs := hcells w hw); (try go_split_ands); go_simp <;> with_reducible rfl)
      (try simp only [Act.put, qA, qB, qC])
      refine QK.take HK ?_ (by rfl) ?_ ?_
      rotate_left
      · (intro w hw; (try have hcs := hcells w hw); (try go_split_ands); go_simp <;> with_reducible rfl)
      (try simp only [Act.put, qA, qB, qC])
      refine QK.take HK ?_ (by rfl) ?_ ?_
      rotate_left
      · (intro w hw; (try have hcs := hcells w hw); (try go_split_ands); go_simp <;> with_reducible rfl)
      (try simp only [Act.put, qA, qB, qC])
      refine QK.take HK ?_ (by rfl) ?_ ?_
      rotate_left
      · (intro w hw; (try have hcs := hcells w hw); (try go_split_ands); go_simp <;> with_reducible rfl)
      (try simp only [Act.put, qA, qB, qC])
      refine QK.take HK ?_ (by rfl) ?_ ?_
      rotate_left
      · (intro w hw; (try have hcs := hcells w hw); (try go_split_ands); go_simp <;> with_reducible rfl)
      (try simp only [Act.put, qA, qB, qC])
      refine QK.take HK ?_ (by rfl) ?_ ?_
      rotate_left
      · (intro w hw; (try have hcs := hcells w hw); (try go_split_ands); go_simp <;> with_reducible rfl)
      (try simp only [Act.put, qA, qB, qC])
      refine QK.take HK ?_ (by rfl) ?_ ?_
      rotate_left
      · (intro w hw; (try have hcs := hcells w hw); (try go_split_ands); go_simp <;> with_reducible rfl)
      (try simp only [Act.put, qA, qB, qC])
      refine QK.take HK ?_ (by rfl) ?_ ?_
      rotate_left
      · (intro w hw; (try have hcs := hcells w hw); (try go_split_ands); go_simp <;> with_reducible rfl)
      (try simp only [Act.put, qA, qB, qC])
      refine QK.take HK ?_ (by rfl) ?_ ?_
      rotate_left
      · (intro w hw; (try have hcs := hcells w hw); (try go_split_ands); go_simp <;> with_reducible rfl)
      (try simp only [Act.put, qA, qB, qC])
      refine QK.call HK 37 #[.agg #[.int .i64 1, .int .i64 1]] (.agg #[.int .u64 (wd0 (1)), .int .u64 (wd1 (1)), .int .u64 (wd2 (1)), .int .u64 (wd3 (1)), .int .u64 (wd0 (1)), .int .u64 (wd1 (1)), .int .u64 (wd2 (1)), .int .u64 (wd3 (1)), .int .u64 (wd0 (1)), .int .u64 (wd1 (1)), .int .u64 (wd2 (1)), .int .u64 (wd3 (1))]) hcl (by rfl) (fun w => by go_simp) CA1 ?_
      (try simp only [Act.put, qA, qB, qC])
      refine QK.call HK 34 #[.agg #[.int .u64 (wd0 (12)), .int .u64 (wd1 (12)), .int .u64 (wd2 (12)), .int .u64 (wd3 (12)), .int .u64 (wd0 (12)), .int .u64 (wd1 (12)), .int .u64 (wd2 (12)), .int .u64 (wd3 (12)), .int .u64 (wd0 (12)), .int .u64 (wd1 (12)), .int .u64 (wd2 (12)), .int .u64 (wd3 (12))], .agg #[.int .u64 (wd0 (1)), .int .u64 (wd1 (1)), .int .u64 (wd2 (1)), .int .u64 (wd3 (1)), .int .u64 (wd0 (1)), .int .u64 (wd1 (1)), .int .u64 (wd2 (1)), .int .u64 (wd3 (1)), .int .u64 (wd0 (1)), .int .u64 (wd1 (1)), .int .u64 (wd2 (1)), .int .u64 (wd3 (1))]] (.int .i64 0) hcl (by rfl) (fun w => by go_simp) CC ?_
      (try simp only [Act.put, qA, qB, qC])
      refine QK.take HK ?_ (by rfl) ?_ ?_
      rotate_left
      · (intro w hw; (try have hcs := hcells w hw); (try go_split_ands); go_simp <;> with_reducible rfl)
      (try simp only [Act.put, qA, qB, qC])
      refine QK.take HK ?_ (by rfl) ?_ ?_
      rotate_left
      · (intro w hw; (try have hcs := hcells w hw); (try go_split_ands); go_simp <;> with_reducible rfl)
      (try simp only [Act.put, qA, qB, qC])
      refine QK.take HK ?_ (by rfl) ?_ ?_
      rotate_left
      · (intro w hw; (try have hcs := hcells w hw); (try go_split_ands); go_simp <;> with_reducible rfl)
      (try simp only [Act.put, qA, qB, qC])
      refine QK.take HK ?_ (by rfl) ?_ ?_
      rotate_left
      · (intro w hw; (try have hcs := hcells w hw); (try go_split_ands); go_simp <;> with_reducible rfl)
      (try simp only [Act.put, qA, qB, qC])
      refine QK.take HK ?_ (by rfl) ?_ ?_
      rotate_left
      · (intro w hw; (try have hcs := hcells w hw); (try go_split_ands); go_simp <;> with_reducible rfl)
      (try simp only [Act.put, qA, qB, qC])
      refine QK.take HK ?_ (by rfl) ?_ ?_
      rotate_left
      · (intro w hw; (try have hcs := hcells w hw); (try go_split_ands); go_simp <;> with_reducible rfl)
      (try simp only [Act.put, qA, qB, qC])
      refine QK.call HK 37 #[.agg #[.int .i64 1, .int .i64 1]] (.agg #[.int .u64 (wd0 (1)), .int .u64 (wd1 (1)), .int .u64 (wd2 (1)), .int .u64 (wd3 (1)), .int .u64 (wd0 (1)), .int .u64 (wd1 (1)), .int .u64 (wd2 (1)), .int .u64 (wd3 (1)), .int .u64 (wd0 (1)), .int .u64 (wd1 (1)), .int .u64 (wd2 (1)), .int .u64 (wd3 (1))]) hcl (by rfl) (fun w => by go_simp) CA1 ?_
      (try simp only [Act.put, qA, qB, qC])
      refine QK.call HK 30 #[.agg #[.int .i64 0, .int .i64 0, .int .i64 1, .int .i64 1], .agg #[.int .u64 (wd0 (1)), .int .u64 (wd1 (1)), .int .u64 (wd2 (1)), .int .u64 (wd3 (1)), .int .u64 (wd0 (1)), .int .u64 (wd1 (1)), .int .u64 (wd2 (1)), .int .u64 (wd3 (1)), .int .u64 (wd0 (1)), .int .u64 (wd1 (1)), .int .u64 (wd2 (1)), .int .u64 (wd3 (1))]] (.bool true) hcl (by rfl) (fun w => by go_simp) CH1 ?_
      (try simp only [Act.put, qA, qB, qC])
      refine QK.take HK ?_ (by rfl) ?_ ?_
      rotate_left
      · (intro w hw; (try have hcs := hcells w hw); (try go_split_ands); go_simp <;> with_reducible rfl)
      (try simp only [Act.put, qA, qB, qC])
      refine QK.take HK ?_ (by rfl) ?_ ?_
      rotate_left
      · (intro w hw; (try have hcs := hcells w hw); (try go_split_ands); go_simp <;> with_reducible rfl)
      (try simp only [Act.put, qA, qB, qC])
      refine QK.take HK ?_ (by rfl) ?_ ?_
      rotate_left
      · (intro w hw; (try have hcs := hcells w hw); (try go_split_ands); go_simp <;> with_reducible rfl)
      (try simp only [Act.put, qA, qB, qC])
      refine QK.take HK ?_ (by rfl) ?_ ?_
      rotate_left
      · (intro w hw; (try have hcs := hcells w hw); (try go_split_ands); go_simp <;> with_reducible rfl)
      (try simp only [Act.put, qA, qB, qC])
      refine QK.take HK ?_ (by rfl) ?_ ?_
      rotate_left
      · (intro w hw; (try have hcs := hcells w hw); (try go_split_ands); go_simp <;> with_reducible rfl)
      (try simp only [Act.put, qA, qB, qC])
      refine QK.call HK 37 #[.agg #[.int .i64 2, .int .i64 2]] (.agg #[.int .u64 (wd0 (2)), .int .u64 (wd1 (2)), .int .u64 (wd2 (2)), .int .u64 (wd3 (2)), .int .u64 (wd0 (2)), .int .u64 (wd1 (2)), .int .u64 (wd2 (2)), .int .u64 (wd3 (2)), .int .u64 (wd0 (1)), .int .u64 (wd1 (1)), .int .u64 (wd2 (1)), .int .u64 (wd3 (1))]) hcl (by rfl) (fun w => by go_simp) CA2 ?_
      (try simp only [Act.put, qA, qB, qC])
      refine QK.call HK 30 #[.agg #[.int .i64 0, .int .i64 0, .int .i64 1, .int .i64 1], .agg #[.int .u64 (wd0 (2)), .int .u64 (wd1 (2)), .int .u64 (wd2 (2)), .int .u64 (wd3 (2)), .int .u64 (wd0 (2)), .int .u64 (wd1 (2)), .int .u64 (wd2 (2)), .int .u64 (wd3 (2)), .int .u64 (wd0 (1)), .int .u64 (wd1 (1)), .int .u64 (wd2 (1)), .int .u64 (wd3 (1))]] (.bool false) hcl (by rfl) (fun w => by go_simp) CH2 ?_
      (try simp only [Act.put, qA, qB, qC])
      refine QK.take HK ?_ (by rfl) ?_ ?_
      rotate_left
      · (intro w hw; (try have hcs := hcells w hw); (try go_split_ands); go_simp <;> with_reducible rfl)
      (try simp only [Act.put, qA, qB, qC])
      refine QK.take HK ?_ (by rfl) ?_ ?_
      rotate_left
      · (intro w hw; (try have hcs := hcells w hw); (try go_split_ands); go_simp <;> with_reducible rfl)
      (try simp only [Act.put, qA, qB, qC])
      refine QK.take HK ?_ (by rfl) ?_ ?_
      rotate_left
      · (intro w hw; (try have hcs := hcells w hw); (try go_split_ands); go_simp <;> with_reducible rfl)
      (try simp only [Act.put, qA, qB])
      refine QK.nil HK ?_
      clear HK K
      intro wq hq
      have hg := (hgr wq hq).1
      clear hcells hin hcl hgr hq
      go_wp2
      go_ret
      exact ⟨rfl, HG.out.trans hg⟩

end Go.Proofs.Ytohhlhoijanjfaa
