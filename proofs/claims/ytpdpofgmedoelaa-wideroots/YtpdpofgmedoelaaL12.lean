/- gromalaw01.WideRoots, for 0: the law answers true. -/
import Derived.Test.YtpdpofgmedoelaaA1
import Derived.Test.YtpdpofgmedoelaaL3
import Derived.Test.YtpdpofgmedoelaaW19
import Derived.Test.YtpdpofgmedoelaaG2
import Derived.Test.YtpdpofgmedoelaaR12a
import Derived.Test.YtpdpofgmedoelaaL5
import Derived.Test.YtpdpofgmedoelaaG3
import Derived.Test.YtpdpofgmedoelaaH1
namespace Go.Proofs.Ytpdpofgmedoelaa
open Go.RowKit Go.Shelf
attribute [local go_sem] Gr.size Gr.cell? Gr.frozen? Gr.setCell Gr.drew Gr.drewN Gr.of_drew Gr.of_drewN Gr.gr Gr.lt_of1 Gr.le_of1 Gr.lt_of2 Gr.le_of2 Gr.lt_of3 Gr.le_of3 Gr.lt_of4 Gr.le_of4 Gr.lt_of5 Gr.le_of5 Gr.lt_of6 Gr.le_of6 Gr.lt_of7 Gr.le_of7 Gr.lt_of8 Gr.le_of8 Gr.lt_of9 Gr.le_of9 Gr.lt_of10 Gr.le_of10 Gr.lt_of11 Gr.le_of11 Gr.lt_of12 Gr.le_of12 Gr.lt_of13 Gr.le_of13 Gr.lt_of14 Gr.le_of14 Gr.lt_of15 Gr.le_of15 Gr.lt_of16 Gr.le_of16 Gr.lt_of17 Gr.le_of17 Gr.lt_of18 Gr.le_of18 Gr.lt_of19 Gr.le_of19 Gr.lt_of20 Gr.le_of20 Gr.lt_of21 Gr.le_of21 Gr.lt_of22 Gr.le_of22 Gr.lt_of23 Gr.le_of23 Gr.lt_of24 Gr.le_of24


set_option maxRecDepth 20000 in set_option maxHeartbeats 60000000 in
theorem roots_zero (x0 x1 x2 x3 x n : Int) (hx : IsI x0 x1 x2 x3 x) (hpos : x = 0) (w : World) :
    Calls Try.prog 3 #[.agg #[.int .u64 x0, .int .u64 x1, .int .u64 x2, .int .u64 x3], .int .i64 n] w fun e w' => e = .returned (.bool true) ∧ IsGr w w' := by
  have RX := fun w => Read_any hx.1 hx.2.1 hx.2.2 w
  have CB := fun w => Bits_any x0 x1 x2 x3 x hx w
  have sx : Sm x := by have := hx.2; unfold Sm; omega
  have sx2 : Sm (abs x) := by have := hx.2; unfold Sm abs; split <;> omega
  have CA := fun w => awake_any w
  go_enter Try.func3, Try.ntmps3
  go_wp2_with fail
  refine (RX _).mono ?_
  rintro e w1 ⟨u, rfl, hu, os1, d1, rfl⟩
  obtain ⟨us, ua, un, uc, rfl⟩ := hu.shape
  obtain ⟨K, hK, hK2⟩ : ∃ K, cmpI x 0 = K ∧ decide (K < 0) = false := by
    refine ⟨_, rfl, ?_⟩
    unfold cmpI
    rw [if_neg (by omega)]
    split <;> rfl
  have BS := fun w1 v (h : IsBig w1 v x) => BigSign_any v x w1 h sx
  rw [hK] at BS
  have CR := fun w => Root_pos x0 x1 x2 x3 x hx (by omega) w
  have ea : abs x = x := by unfold abs; rw [if_neg (by omega)]
  have HPS : Hid (x = 0) := hpos
  clear hK hpos
  go_wp2_with fail
  refine (BS _ _ (hu.gr ?_)).mono ?_
  exact (by repeat (first | with_reducible exact IsGr.refl _ | (refine ⟨#[], d1, ?_⟩; (try simp only [Gr.of_drew]); (try simp only [Gr.gr]); (try simp only [Array.append_assoc]); (try simp only [Array.append_empty]); (try with_reducible rfl); done) | with_reducible refine IsGr.alloc ?_ _ | with_reducible refine IsGr.gr ?_ _ _ | with_reducible refine IsGr.drew ?_ | with_reducible refine IsGr.drewN ?_ _))
  rintro e w1 ⟨rfl, os2, d2, rfl⟩
  go_upto_region 5 with fail
  go_cut [7] (fun t7 wr => ∃ (L : Nat) (zs : Bool) (za : Option Addr) (zn zc : Nat), t7 = .int .i64 0 ∧ L = 0 ∧ True ∧ w.heap.size + 1 + os1.size + 1 < wr.heap.size ∧ (wr.cell? ⟨w.heap.size, 0, none⟩ = some (.int .u64 x0) ∧ wr.cell? ⟨w.heap.size, 1, none⟩ = some (.int .u64 x1) ∧ wr.cell? ⟨w.heap.size, 2, none⟩ = some (.int .u64 x2) ∧ wr.cell? ⟨w.heap.size, 3, none⟩ = some (.int .u64 x3)) ∧ (wr.cell? ⟨w.heap.size + 1 + os1.size, 0, none⟩ = some (.bool us) ∧ wr.cell? ⟨w.heap.size + 1 + os1.size, 1, none⟩ = some (.slice ua un uc) ∧ wr.cell? ⟨w.heap.size + 1 + os1.size + 1, 0, none⟩ = some (.bool zs) ∧ wr.cell? ⟨w.heap.size + 1 + os1.size + 1, 1, none⟩ = some (.slice za zn zc)) ∧ IsBig wr (.agg #[.bool us, .slice ua un uc]) x ∧ IsBig wr (.agg #[.bool zs, .slice za zn zc]) (abs x) ∧ IsGr w wr)
  case first =>
    go_wp2_with fail
    refine (CB _).mono ?_
    rintro e w1 ⟨L, rfl, hL, hBL, os8, d8, rfl⟩
    obtain rfl : L = 0 := by
      rcases Nat.eq_zero_or_pos L with h | h
      · exact h
      · have h1 := hBL.2 (by omega)
        have h2 := pow2_pos (L - 1)
        rw [ea, HPS.out] at h1
        omega
    go_wp2
    go_meet
    case rel =>
      refine ⟨0, us, ua, un, uc, rfl, rfl, trivial, ?_, ?_, ?_, ?_, ?_, (by with_reducible repeat (first | exact IsGr.refl _ | refine IsGr.gr ?_ _ _ | refine IsGr.alloc ?_ _ | refine IsGr.drew ?_ | refine IsGr.drewN ?_ _))⟩
      · simp [Gr.size]
        try omega
      · simp [go_sem]
      · simp [go_sem]
      · exact hu.gr (by repeat (first | with_reducible exact IsGr.refl _ | (refine ⟨#[], d1, ?_⟩; (try simp only [Gr.of_drew]); (try simp only [Gr.gr]); (try simp only [Array.append_assoc]); (try simp only [Array.append_empty]); (try with_reducible rfl); done) | with_reducible refine IsGr.alloc ?_ _ | with_reducible refine IsGr.gr ?_ _ _ | with_reducible refine IsGr.drew ?_ | with_reducible refine IsGr.drewN ?_ _))
      · rw [ea]; exact hu.gr (by repeat (first | with_reducible exact IsGr.refl _ | (refine ⟨#[], d1, ?_⟩; (try simp only [Gr.of_drew]); (try simp only [Gr.gr]); (try simp only [Array.append_assoc]); (try simp only [Array.append_empty]); (try with_reducible rfl); done) | with_reducible refine IsGr.alloc ?_ _ | with_reducible refine IsGr.gr ?_ _ _ | with_reducible refine IsGr.drew ?_ | with_reducible refine IsGr.drewN ?_ _))
  case rest =>
    obtain ⟨L, zs, za, zn, zc, rfl, -, -, hsz, ⟨i1, i2, i3, i4⟩, ⟨b1, b2, b3, b4⟩, hu1, hz1, hgr⟩ := hcut
    obtain ⟨W1, hW1⟩ : ∃ W1, W1 = wc := ⟨_, rfl⟩
    subst hW1
    have z1 : w.heap.size < W1.heap.size := by omega
    have z5 : w.heap.size + 1 + os1.size < W1.heap.size := by omega
    have z6 : w.heap.size + 1 + os1.size + 1 < W1.heap.size := by omega
    have HU := fun w1 (hg : IsGr W1 w1) => hu1.gr hg
    have HS := fun w1 (hg : IsGr W1 w1) => hz1.gr hg
    have HG0 : Hid (IsGr w W1) := hgr
    clear hu1 hz1 hgr hsz hu CB RX
    have CP0 := fun w1 => Power_any 0 w1 (by omega) (by omega)
    rw [show (2 : Int) ^ (0 : Int).toNat = 1 by decide] at CP0
    have e0 : cmpI (abs x) 1 = -1 := cmpI_lt (by rw [ea, HPS.out]; decide)
    have s1 : Sm 1 := by unfold Sm; omega
    have BQ0 := fun w1 v u (h1 : IsBig w1 v (abs x)) (h2 : IsBig w1 u 1) => BigCmp_any v u (abs x) 1 w1 h1 h2 sx2 s1
    rw [e0] at BQ0
    clear e0
    go_upto_region 6 with fail
    go_cut [49] (fun t49 wr => t49 = .bool false ∧ IsGr W1 wr)
    case first =>
      refine wp_region_held_drew (S := (fun w' => w'.cell? ⟨w.heap.size + 1 + os1.size + 1, 0, none⟩ = some (.bool zs) ∧ w'.cell? ⟨w.heap.size + 1 + os1.size + 1, 1, none⟩ = some (.slice za zn zc))) (by kernel_rfl) (by (try dsimp only); simp [go_sem, b3, b4]) (fun hHeld => ?_)
      refine wpAnyH_take (i := 0) (oi := { dst := some 25, op := Op.move (Operand.tmp 7), type := 3, pos := "law.go:136", after := #[], guard := none }) (v := ?_) rfl (by kernel_rfl) (by kernel_rfl) (by kernel_rfl) (fun _ _ _ h => h) (Or.inl ⟨by rfl, ?_⟩) (by assumption) ?_
      rotate_left
      · (intro w hSw; (try dsimp only at hSw); go_simp <;> with_reducible rfl)
      (try simp only [Act.put, List.setIfInBounds_toArray, List.set_cons_zero, List.set_cons_succ])
      refine wpAnyH_take (i := 1) (oi := { dst := some 26, op := Op.binOp BinOp.lss 3 (Operand.tmp 25) (Operand.const (Value.int IntKind.i64 0)) 3, type := 4, pos := "law.go:136", after := #[{ on := 0, ground := Ground.data }], guard := none }) (v := ?_) rfl (by kernel_rfl) (by kernel_rfl) (by kernel_rfl) (fun _ _ _ h => h) (Or.inl ⟨by rfl, ?_⟩) (by assumption) ?_
      rotate_left
      · (intro w hSw; (try dsimp only at hSw); go_simp <;> with_reducible rfl)
      (try simp only [Act.put, List.setIfInBounds_toArray, List.set_cons_zero, List.set_cons_succ])
      refine wpAnyH_take (i := 2) (oi := { dst := some 27, op := Op.move (Operand.tmp 26), type := 4, pos := "law.go:136", after := #[{ on := 1, ground := Ground.data }], guard := none }) (v := ?_) rfl (by kernel_rfl) (by kernel_rfl) (by kernel_rfl) (fun _ _ _ h => h) (Or.inl ⟨by rfl, ?_⟩) (by assumption) ?_
      rotate_left
      · (intro w hSw; (try dsimp only at hSw); go_simp <;> with_reducible rfl)
      (try simp only [Act.put, List.setIfInBounds_toArray, List.set_cons_zero, List.set_cons_succ])
      refine wpAnyH_take (i := 3) (oi := { dst := some 28, op := Op.move (Operand.tmp 7), type := 3, pos := "law.go:136", after := #[{ on := 2, ground := Ground.guard }], guard := some (2, false) }) (v := ?_) rfl (by kernel_rfl) (by kernel_rfl) (by kernel_rfl) (fun _ _ _ h => h) (Or.inl ⟨by rfl, ?_⟩) (by assumption) ?_
      rotate_left
      · (intro w hSw; (try dsimp only at hSw); go_simp <;> with_reducible rfl)
      (try simp only [Act.put, List.setIfInBounds_toArray, List.set_cons_zero, List.set_cons_succ])
      refine wpAnyH_take (i := 4) (oi := { dst := some 29, op := Op.binOp BinOp.gtr 3 (Operand.tmp 28) (Operand.const (Value.int IntKind.i64 256)) 3, type := 4, pos := "law.go:136", after := #[{ on := 3, ground := Ground.data }, { on := 2, ground := Ground.guard }], guard := some (2, false) }) (v := ?_) rfl (by kernel_rfl) (by kernel_rfl) (by kernel_rfl) (fun _ _ _ h => h) (Or.inl ⟨by rfl, ?_⟩) (by assumption) ?_
      rotate_left
      · (intro w hSw; (try dsimp only at hSw); go_simp <;> with_reducible rfl)
      (try simp only [Act.put, List.setIfInBounds_toArray, List.set_cons_zero, List.set_cons_succ])
      refine wpAnyH_take (i := 5) (oi := { dst := some 30, op := Op.pick (Operand.tmp 27) (Operand.const (Value.bool true)) (Operand.tmp 29), type := 4, pos := "law.go:136", after := #[{ on := 2, ground := Ground.data }, { on := 4, ground := Ground.data }], guard := none }) (v := ?_) rfl (by kernel_rfl) (by kernel_rfl) (by kernel_rfl) (fun _ _ _ h => h) (Or.inl ⟨by rfl, ?_⟩) (by assumption) ?_
      rotate_left
      · (intro w hSw; (try dsimp only at hSw); go_simp <;> with_reducible rfl)
      (try simp only [Act.put, List.setIfInBounds_toArray, List.set_cons_zero, List.set_cons_succ])
      refine wpAnyH_take (i := 6) (oi := { dst := some 31, op := Op.move (Operand.tmp 30), type := 4, pos := "law.go:136", after := #[{ on := 5, ground := Ground.data }, { on := 2, ground := Ground.chain }], guard := none }) (v := ?_) rfl (by kernel_rfl) (by kernel_rfl) (by kernel_rfl) (fun _ _ _ h => h) (Or.inl ⟨by rfl, ?_⟩) (by assumption) ?_
      rotate_left
      · (intro w hSw; (try dsimp only at hSw); go_simp <;> with_reducible rfl)
      (try simp only [Act.put, List.setIfInBounds_toArray, List.set_cons_zero, List.set_cons_succ])
      refine wpAnyH_take (i := 7) (oi := { dst := some 32, op := Op.load 27 (Operand.tmp 6), type := 27, pos := "law.go:136", after := #[{ on := 6, ground := Ground.guard }], guard := some (6, false) }) (v := ?_) rfl (by kernel_rfl) (by kernel_rfl) (by kernel_rfl) (fun _ _ _ h => h) (Or.inl ⟨by rfl, ?_⟩) (by assumption) ?_
      rotate_left
      · (intro w hSw; (try dsimp only at hSw); go_simp <;> with_reducible rfl)
      (try simp only [Act.put, List.setIfInBounds_toArray, List.set_cons_zero, List.set_cons_succ])
      refine wpAnyH_take (i := 8) (oi := { dst := some 33, op := Op.move (Operand.tmp 7), type := 3, pos := "law.go:136", after := #[{ on := 6, ground := Ground.guard }], guard := some (6, false) }) (v := ?_) rfl (by kernel_rfl) (by kernel_rfl) (by kernel_rfl) (fun _ _ _ h => h) (Or.inl ⟨by rfl, ?_⟩) (by assumption) ?_
      rotate_left
      · (intro w hSw; (try dsimp only at hSw); go_simp <;> with_reducible rfl)
      (try simp only [Act.put, List.setIfInBounds_toArray, List.set_cons_zero, List.set_cons_succ])
      refine wpAnyH_ready (rs := [9]) (by kernel_rfl) (by simp) ?_
      refine AllReadyH.cons (o := { dst := some 34, op := Op.call { callee := Callee.value (Operand.func 20), args := #[Operand.tmp 33], argTypes := #[3] }, type := 27, pos := "law.go:136", after := #[{ on := 8, ground := Ground.data }, { on := 6, ground := Ground.chain }, { on := 6, ground := Ground.guard }], guard := some (6, false) }) rfl (fun K hK => ?_) ?_
      · go_simp
        refine (CP0 _).mono ?_
        rintro e w1 ⟨p, rfl, hp, os3, n3, rfl⟩
        (try simp only [Gr.of_drew] at hp); (try simp only [Gr.gr] at hp); (try simp only [Array.append_assoc] at hp)
        obtain ⟨ps, pa, pn, pc, rfl⟩ := hp.shape
        (try go_wp2_with fail)
        refine hK.out _ _ (by (try dsimp only); simp [go_sem, b3, b4, z6]) (fun hHeld2 => ?_)
        clear hK K hHeld
        have hHeld := hHeld2
        clear hHeld2
        (try simp only [Act.put, List.setIfInBounds_toArray, List.set_cons_zero, List.set_cons_succ])
        refine wpAnyH_ready (rs := [10]) (by kernel_rfl) (by simp) ?_
        refine AllReadyH.cons (o := { dst := some 35, op := Op.call { callee := Callee.value (Operand.func 19), args := #[Operand.tmp 32, Operand.tmp 34], argTypes := #[27, 27] }, type := 3, pos := "law.go:136", after := #[{ on := 7, ground := Ground.data }, { on := 9, ground := Ground.data }, { on := 9, ground := Ground.chain }, { on := 6, ground := Ground.guard }], guard := some (6, false) }) rfl (fun K hK => ?_) ?_
        · go_simp
          refine (BQ0 _ _ _ (HS _ ?_) (hp.gr ?_)).mono ?_
          · exact (by with_reducible repeat (first | exact IsGr.refl _ | refine IsGr.gr ?_ _ _ | refine IsGr.alloc ?_ _ | refine IsGr.drew ?_ | refine IsGr.drewN ?_ _))
          · exact (by with_reducible repeat (first | exact IsGr.refl _ | exact IsGr.gapp0 _ _ _ _ | exact IsGr.gapp1 _ _ _ _ _ | exact IsGr.gapp2 _ _ _ _ _ _ | exact IsGr.gapp3 _ _ _ _ _ _ _ | exact IsGr.gapp4 _ _ _ _ _ _ _ _ | refine IsGr.gr ?_ _ _ | refine IsGr.alloc ?_ _ | refine IsGr.drew ?_))
          rintro e w1 ⟨rfl, os4, n4, rfl⟩
          (try go_wp2_with fail)
          refine hK.out _ _ (by (try dsimp only); simp [go_sem, b3, b4, z6]) (fun hHeld2 => ?_)
          clear hK K hHeld
          have hHeld := hHeld2
          clear hHeld2
          (try simp only [Act.put, List.setIfInBounds_toArray, List.set_cons_zero, List.set_cons_succ])
          refine wpAnyH_take (i := 11) (oi := { dst := some 36, op := Op.binOp BinOp.geq 3 (Operand.tmp 35) (Operand.const (Value.int IntKind.i64 0)) 3, type := 4, pos := "law.go:136", after := #[{ on := 10, ground := Ground.data }, { on := 6, ground := Ground.guard }], guard := some (6, false) }) (v := ?_) rfl (by kernel_rfl) (by kernel_rfl) (by kernel_rfl) (fun _ _ _ h => h) (Or.inl ⟨by rfl, ?_⟩) (by assumption) ?_
          rotate_left
          · (intro w hSw; (try dsimp only at hSw); go_simp <;> with_reducible rfl)
          (try simp only [Act.put, List.setIfInBounds_toArray, List.set_cons_zero, List.set_cons_succ])
          refine wpAnyH_take (i := 12) (oi := { dst := some 37, op := Op.pick (Operand.tmp 31) (Operand.const (Value.bool true)) (Operand.tmp 36), type := 4, pos := "law.go:136", after := #[{ on := 6, ground := Ground.data }, { on := 11, ground := Ground.data }], guard := none }) (v := ?_) rfl (by kernel_rfl) (by kernel_rfl) (by kernel_rfl) (fun _ _ _ h => h) (Or.inl ⟨by rfl, ?_⟩) (by assumption) ?_
          rotate_left
          · (intro w hSw; (try dsimp only at hSw); go_simp <;> with_reducible rfl)
          (try simp only [Act.put, List.setIfInBounds_toArray, List.set_cons_zero, List.set_cons_succ])
          refine wpAnyH_take (i := 13) (oi := { dst := some 38, op := Op.move (Operand.tmp 37), type := 4, pos := "law.go:136", after := #[{ on := 12, ground := Ground.data }, { on := 10, ground := Ground.chain }], guard := none }) (v := ?_) rfl (by kernel_rfl) (by kernel_rfl) (by kernel_rfl) (fun _ _ _ h => h) (Or.inl ⟨by rfl, ?_⟩) (by assumption) ?_
          rotate_left
          · (intro w hSw; (try dsimp only at hSw); go_simp <;> with_reducible rfl)
          (try simp only [Act.put, List.setIfInBounds_toArray, List.set_cons_zero, List.set_cons_succ])
          refine wpAnyH_take (i := 14) (oi := { dst := some 39, op := Op.move (Operand.tmp 7), type := 3, pos := "law.go:136", after := #[{ on := 13, ground := Ground.guard }], guard := some (13, false) }) (v := ?_) rfl (by kernel_rfl) (by kernel_rfl) (by kernel_rfl) (fun _ _ _ h => h) (Or.inl ⟨by rfl, ?_⟩) (by assumption) ?_
          rotate_left
          · (intro w hSw; (try dsimp only at hSw); go_simp <;> with_reducible rfl)
          (try simp only [Act.put, List.setIfInBounds_toArray, List.set_cons_zero, List.set_cons_succ])
          refine wpAnyH_take (i := 15) (oi := { dst := some 40, op := Op.binOp BinOp.gtr 3 (Operand.tmp 39) (Operand.const (Value.int IntKind.i64 0)) 3, type := 4, pos := "law.go:136", after := #[{ on := 14, ground := Ground.data }, { on := 13, ground := Ground.guard }], guard := some (13, false) }) (v := ?_) rfl (by kernel_rfl) (by kernel_rfl) (by kernel_rfl) (fun _ _ _ h => h) (Or.inl ⟨by rfl, ?_⟩) (by assumption) ?_
          rotate_left
          · (intro w hSw; (try dsimp only at hSw); go_simp <;> with_reducible rfl)
          (try simp only [Act.put, List.setIfInBounds_toArray, List.set_cons_zero, List.set_cons_succ])
          refine wpAnyH_take (i := 16) (oi := { dst := some 41, op := Op.move (Operand.tmp 40), type := 4, pos := "law.go:136", after := #[{ on := 15, ground := Ground.data }, { on := 13, ground := Ground.chain }, { on := 13, ground := Ground.guard }], guard := some (13, false) }) (v := ?_) rfl (by kernel_rfl) (by kernel_rfl) (by kernel_rfl) (fun _ _ _ h => h) (Or.inl ⟨by rfl, ?_⟩) (by assumption) ?_
          rotate_left
          · (intro w hSw; (try dsimp only at hSw); go_simp <;> with_reducible rfl)
          (try simp only [Act.put, List.setIfInBounds_toArray, List.set_cons_zero, List.set_cons_succ])
          refine wpAnyH_take (i := 17) (oi := { dst := some 42, op := Op.load 27 (Operand.tmp 6), type := 27, pos := "law.go:136", after := #[{ on := 16, ground := Ground.guard }], guard := some (16, true) }) (v := undef) rfl (by kernel_rfl) (by kernel_rfl) (by kernel_rfl) (fun _ _ _ h => h) (Or.inr ⟨by rfl, rfl⟩) (by assumption) ?_
          (try simp only [Act.put, List.setIfInBounds_toArray, List.set_cons_zero, List.set_cons_succ])
          refine wpAnyH_take (i := 18) (oi := { dst := some 43, op := Op.move (Operand.tmp 7), type := 3, pos := "law.go:136", after := #[{ on := 16, ground := Ground.guard }], guard := some (16, true) }) (v := undef) rfl (by kernel_rfl) (by kernel_rfl) (by kernel_rfl) (fun _ _ _ h => h) (Or.inr ⟨by rfl, rfl⟩) (by assumption) ?_
          (try simp only [Act.put, List.setIfInBounds_toArray, List.set_cons_zero, List.set_cons_succ])
          refine wpAnyH_take (i := 19) (oi := { dst := some 44, op := Op.binOp BinOp.sub 3 (Operand.tmp 43) (Operand.const (Value.int IntKind.i64 1)) 3, type := 3, pos := "law.go:136", after := #[{ on := 18, ground := Ground.data }, { on := 16, ground := Ground.guard }], guard := some (16, true) }) (v := undef) rfl (by kernel_rfl) (by kernel_rfl) (by kernel_rfl) (fun _ _ _ h => h) (Or.inr ⟨by rfl, rfl⟩) (by assumption) ?_
          (try simp only [Act.put, List.setIfInBounds_toArray, List.set_cons_zero, List.set_cons_succ])
          refine wpAnyH_take (i := 20) (oi := { dst := some 45, op := Op.call { callee := Callee.value (Operand.func 20), args := #[Operand.tmp 44], argTypes := #[3] }, type := 27, pos := "law.go:136", after := #[{ on := 19, ground := Ground.data }, { on := 16, ground := Ground.chain }, { on := 16, ground := Ground.guard }], guard := some (16, true) }) (v := undef) rfl (by kernel_rfl) (by kernel_rfl) (by kernel_rfl) (fun _ _ _ h => h) (Or.inr ⟨by rfl, rfl⟩) (by assumption) ?_
          (try simp only [Act.put, List.setIfInBounds_toArray, List.set_cons_zero, List.set_cons_succ])
          refine wpAnyH_take (i := 21) (oi := { dst := some 46, op := Op.call { callee := Callee.value (Operand.func 19), args := #[Operand.tmp 42, Operand.tmp 45], argTypes := #[27, 27] }, type := 3, pos := "law.go:136", after := #[{ on := 17, ground := Ground.data }, { on := 20, ground := Ground.data }, { on := 20, ground := Ground.chain }, { on := 16, ground := Ground.guard }], guard := some (16, true) }) (v := undef) rfl (by kernel_rfl) (by kernel_rfl) (by kernel_rfl) (fun _ _ _ h => h) (Or.inr ⟨by rfl, rfl⟩) (by assumption) ?_
          (try simp only [Act.put, List.setIfInBounds_toArray, List.set_cons_zero, List.set_cons_succ])
          refine wpAnyH_take (i := 22) (oi := { dst := some 47, op := Op.binOp BinOp.lss 3 (Operand.tmp 46) (Operand.const (Value.int IntKind.i64 0)) 3, type := 4, pos := "law.go:136", after := #[{ on := 21, ground := Ground.data }, { on := 16, ground := Ground.guard }], guard := some (16, true) }) (v := undef) rfl (by kernel_rfl) (by kernel_rfl) (by kernel_rfl) (fun _ _ _ h => h) (Or.inr ⟨by rfl, rfl⟩) (by assumption) ?_
          (try simp only [Act.put, List.setIfInBounds_toArray, List.set_cons_zero, List.set_cons_succ])
          refine wpAnyH_take (i := 23) (oi := { dst := some 48, op := Op.pick (Operand.tmp 41) (Operand.tmp 47) (Operand.const (Value.bool false)), type := 4, pos := "law.go:136", after := #[{ on := 16, ground := Ground.data }, { on := 22, ground := Ground.data }, { on := 13, ground := Ground.guard }], guard := some (13, false) }) (v := ?_) rfl (by kernel_rfl) (by kernel_rfl) (by kernel_rfl) (fun _ _ _ h => h) (Or.inl ⟨by rfl, ?_⟩) (by assumption) ?_
          rotate_left
          · (intro w hSw; (try dsimp only at hSw); go_simp <;> with_reducible rfl)
          (try simp only [Act.put, List.setIfInBounds_toArray, List.set_cons_zero, List.set_cons_succ])
          refine wpAnyH_take (i := 24) (oi := { dst := some 49, op := Op.pick (Operand.tmp 38) (Operand.const (Value.bool true)) (Operand.tmp 48), type := 4, pos := "law.go:136", after := #[{ on := 13, ground := Ground.data }, { on := 23, ground := Ground.data }], guard := none }) (v := ?_) rfl (by kernel_rfl) (by kernel_rfl) (by kernel_rfl) (fun _ _ _ h => h) (Or.inl ⟨by rfl, ?_⟩) (by assumption) ?_
          rotate_left
          · (intro w hSw; (try dsimp only at hSw); go_simp <;> with_reducible rfl)
          (try simp only [Act.put, List.setIfInBounds_toArray, List.set_cons_zero, List.set_cons_succ])
          refine wpAnyH_done (by kernel_rfl) ?_ _
          go_wp2
          go_meet
          case rel => exact ⟨rfl, (by with_reducible repeat (first | exact IsGr.refl _ | refine IsGr.gr ?_ _ _ | refine IsGr.alloc ?_ _ | refine IsGr.drew ?_ | refine IsGr.drewN ?_ _))⟩
        exact AllReadyH.nil
      exact AllReadyH.nil
    case rest =>
      obtain ⟨rfl, hg6⟩ := hcut
      obtain ⟨W2, hW2⟩ : ∃ W2, W2 = wc := ⟨_, rfl⟩
      subst hW2
      replace i1 := hg6.cell_eq z1 i1
      replace i2 := hg6.cell_eq z1 i2
      replace i3 := hg6.cell_eq z1 i3
      replace i4 := hg6.cell_eq z1 i4
      replace b1 := hg6.cell_eq z5 b1
      replace b2 := hg6.cell_eq z5 b2
      replace z1 : w.heap.size < W2.heap.size := Nat.lt_of_lt_of_le z1 hg6.size
      replace z5 : w.heap.size + 1 + os1.size < W2.heap.size := Nat.lt_of_lt_of_le z5 hg6.size
      replace HU := fun w1 (hg : IsGr W2 w1) => HU w1 (hg6.trans hg)
      replace HG0 : Hid (IsGr w W2) := HG0.out.trans hg6
      clear hg6
      clear b3 b4 z6 HS
      go_wp2_with fail
      refine (CR _).mono ?_
      rintro e w1 ⟨r0, r1, r2, r3, rfl, hRT, os9, d9, rfl⟩
      obtain ⟨R, hr, R0, R1, R2⟩ := hRT
      have HRF : Hid (0 ≤ R ∧ R * R ≤ x ∧ x < (R + 1) * (R + 1)) := ⟨R0, R1, R2⟩
      have RR := fun w => Read_any hr.1 hr.2.1 hr.2.2 w
      have sR : Sm R := by have := hr.2; unfold Sm; omega
      have sN : Sm (R + 1) := by have := hr.2; unfold Sm; omega
      have sQ : Sm (R * R) := prod_sm hr.2 hr.2
      have sM : Sm ((R + 1) * (R + 1)) := by
        have h2 := hr.2
        have h3 : 0 ≤ (R + 1) * (R + 1) := Int.mul_nonneg (by omega) (by omega)
        have h4 : (R + 1) * (R + 1) ≤ 57896044618658097711785492504343953926634992332820282019728792003956564819968 * (R + 1) := Int.mul_le_mul_of_nonneg_right (by omega) (by omega)
        unfold Sm
        omega
      clear R0 R1 R2 hr CR
      go_wp2_with fail
      refine (BS _ _ (HU _ ?_)).mono ?_
      exact (by with_reducible repeat (first | exact IsGr.refl _ | refine IsGr.gr ?_ _ _ | refine IsGr.alloc ?_ _ | refine IsGr.drew ?_ | refine IsGr.drewN ?_ _))
      rintro e w1 ⟨rfl, os10, d10, rfl⟩
      go_upto_region 12 with fail
      go_cut [10] (fun t10 wr => ∃ (g : Nat) (ys : Bool) (ya : Option Addr) (yn yc : Nat), t10 = .pointer (some ⟨g, 0, none⟩) ∧ g < wr.heap.size ∧ (wr.cell? ⟨g, 0, none⟩ = some (.bool ys) ∧ wr.cell? ⟨g, 1, none⟩ = some (.slice ya yn yc)) ∧ IsBig wr (.agg #[.bool ys, .slice ya yn yc]) R ∧ IsGr W2 wr)
      case first =>
        go_wp2_with fail
        refine (RR _).mono ?_
        rintro e w1 ⟨v, rfl, hv, os11, d11, rfl⟩
        obtain ⟨ys, ya, yn, yc, rfl⟩ := hv.shape
        go_wp2
        go_meet
        case rel =>
          refine ⟨_, ys, ya, yn, yc, rfl, ?_, ?_, hv.gr (by repeat (first | with_reducible exact IsGr.refl _ | (refine ⟨#[], d11, ?_⟩; (try simp only [Gr.of_drew]); (try simp only [Gr.gr]); (try simp only [Array.append_assoc]); (try simp only [Array.append_empty]); (try with_reducible rfl); done) | with_reducible refine IsGr.alloc ?_ _ | with_reducible refine IsGr.gr ?_ _ _ | with_reducible refine IsGr.drew ?_ | with_reducible refine IsGr.drewN ?_ _)), (by with_reducible repeat (first | exact IsGr.refl _ | refine IsGr.gr ?_ _ _ | refine IsGr.alloc ?_ _ | refine IsGr.drew ?_ | refine IsGr.drewN ?_ _))⟩
          · simp [Gr.size]
          · simp [go_sem]
      case rest =>
        obtain ⟨g10, ys, ya, yn, yc, rfl, k10, ⟨f1, f2⟩, hy1, hg7⟩ := hcut
        obtain ⟨W3, hW3⟩ : ∃ W3, W3 = wc := ⟨_, rfl⟩
        subst hW3
        replace i1 := hg7.cell_eq z1 i1
        replace i2 := hg7.cell_eq z1 i2
        replace i3 := hg7.cell_eq z1 i3
        replace i4 := hg7.cell_eq z1 i4
        replace b1 := hg7.cell_eq z5 b1
        replace b2 := hg7.cell_eq z5 b2
        replace z1 : w.heap.size < W3.heap.size := Nat.lt_of_lt_of_le z1 hg7.size
        replace z5 : w.heap.size + 1 + os1.size < W3.heap.size := Nat.lt_of_lt_of_le z5 hg7.size
        replace HU := fun w1 (hg : IsGr W3 w1) => HU w1 (hg7.trans hg)
        replace HG0 : Hid (IsGr w W3) := HG0.out.trans hg7
        clear hg7
        have HY := fun w1 (hg : IsGr W3 w1) => hy1.gr hg
        have C1 := fun w => BigOf_any 1 (by omega) (by omega) w
        have s1 : Sm 1 := by unfold Sm; omega
        clear hy1 RR
        go_upto_region 13 with fail
        go_cut [11] (fun t11 wr => ∃ (g : Nat) (ns : Bool) (na : Option Addr) (nn nc : Nat), t11 = .pointer (some ⟨g, 0, none⟩) ∧ g < wr.heap.size ∧ (wr.cell? ⟨g, 0, none⟩ = some (.bool ns) ∧ wr.cell? ⟨g, 1, none⟩ = some (.slice na nn nc)) ∧ IsBig wr (.agg #[.bool ns, .slice na nn nc]) (R + 1) ∧ IsGr W3 wr)
        case first =>
          go_region_held3 (fun w' => w'.cell? ⟨g10, 0, none⟩ = some (.bool ys) ∧ w'.cell? ⟨g10, 1, none⟩ = some (.slice ya yn yc)) (simp [go_sem, f1, f2, k10])
            ((first | (go_at_call 23; refine (C1 _).mono ?_; rintro e w1 ⟨o, rfl, ho, os12, n12, rfl⟩; obtain ⟨oos, oa, on, oc, rfl⟩ := ho.shape) | (go_at_call 22; refine (BigAdd_any _ _ R 1 _ (HY _ ?_) (ho.gr ?_) sR s1).mono ?_; exact (by with_reducible repeat (first | exact IsGr.refl _ | refine IsGr.gr ?_ _ _ | refine IsGr.alloc ?_ _ | refine IsGr.drew ?_ | refine IsGr.drewN ?_ _)); exact (by repeat (first | with_reducible exact IsGr.refl _ | (refine ⟨#[], n12, ?_⟩; (try simp only [Gr.of_drew]); (try simp only [Gr.gr]); (try simp only [Array.append_assoc]); (try simp only [Array.append_empty]); (try with_reducible rfl); done) | with_reducible refine IsGr.alloc ?_ _ | with_reducible refine IsGr.gr ?_ _ _ | with_reducible refine IsGr.drew ?_ | with_reducible refine IsGr.drewN ?_ _)); rintro e w1 ⟨t, rfl, ht, os13, n13, rfl⟩; obtain ⟨ts, ta, tn, tc, rfl⟩ := ht.shape)))
          all_goals
            go_wp2
            go_meet
            case rel =>
              (try simp only [Gr.of_drew] at ht)
              (try simp only [Gr.gr] at ht)
              refine ⟨_, ts, ta, tn, tc, rfl, ?_, ?_, ht.kb ?_, (by with_reducible repeat (first | exact IsGr.refl _ | refine IsGr.gr ?_ _ _ | refine IsGr.alloc ?_ _ | refine IsGr.drew ?_ | refine IsGr.drewN ?_ _))⟩
              · simp [Gr.size]
                try omega
              · simp [go_sem]
              · with_reducible repeat (first | exact Kb.refl _ | refine Kb.gr ?_ (by first | (simp; done) | simp [Gr.size]) _ _ _ | refine Kb.gr_app ?_ (by first | (simp; done) | simp [Gr.size]) _ _ _ _ | refine Kb.box ?_ (by first | (simp; done) | simp [Gr.size]) _ _ _ _ _ _ _ _ _ | refine Kb.alloc ?_ (by first | (simp; done) | simp [Gr.size]) _ | refine Kb.drew_l ?_ | refine Kb.drew_r ?_ | refine Kb.lay ?_ _ | refine Kb.grow ?_ _ _)
        case rest =>
          obtain ⟨g11, ns, na, nn, nc, rfl, k11, ⟨f3, f4⟩, hn1, hg8⟩ := hcut
          obtain ⟨W4, hW4⟩ : ∃ W4, W4 = wc := ⟨_, rfl⟩
          subst hW4
          replace f1 := hg8.cell_eq k10 f1
          replace f2 := hg8.cell_eq k10 f2
          replace k10 : g10 < W4.heap.size := Nat.lt_of_lt_of_le k10 hg8.size
          replace HY := fun w1 (hg : IsGr W4 w1) => HY w1 (hg8.trans hg)
          replace i1 := hg8.cell_eq z1 i1
          replace i2 := hg8.cell_eq z1 i2
          replace i3 := hg8.cell_eq z1 i3
          replace i4 := hg8.cell_eq z1 i4
          replace b1 := hg8.cell_eq z5 b1
          replace b2 := hg8.cell_eq z5 b2
          replace z1 : w.heap.size < W4.heap.size := Nat.lt_of_lt_of_le z1 hg8.size
          replace z5 : w.heap.size + 1 + os1.size < W4.heap.size := Nat.lt_of_lt_of_le z5 hg8.size
          replace HU := fun w1 (hg : IsGr W4 w1) => HU w1 (hg8.trans hg)
          replace HG0 : Hid (IsGr w W4) := HG0.out.trans hg8
          clear hg8
          have HN := fun w1 (hg : IsGr W4 w1) => hn1.gr hg
          have BY := fun w1 (hg : IsGr W4 w1) => BigSign_any _ R w1 (HY w1 hg) sR
          obtain ⟨K1, hK1, hK1b⟩ : ∃ K, cmpI R 0 = K ∧ decide (K < 0) = false := by
            refine ⟨_, rfl, ?_⟩
            have := HRF.out.1
            unfold cmpI
            rw [if_neg (by omega)]
            split <;> rfl
          rw [hK1] at BY
          have BQ := fun w1 v (h : IsBig w1 v (R * R)) (hg : IsGr W4 w1) => BigCmp_any v _ (R * R) x w1 h (HU w1 hg) sQ sx
          have BM := fun w1 v (h : IsBig w1 v ((R + 1) * (R + 1))) (hg : IsGr W4 w1) => BigCmp_any v _ ((R + 1) * (R + 1)) x w1 h (HU w1 hg) sM sx
          obtain ⟨K3, hK3, hK3b⟩ : ∃ K, cmpI (R * R) x = K ∧ decide (0 < K) = false := by
            refine ⟨_, rfl, ?_⟩
            have := HRF.out.2.1
            unfold cmpI
            repeat' split
            all_goals simp
            all_goals omega
          rw [hK3] at BQ
          rw [cmpI_gt HRF.out.2.2] at BM
          have tokm : True := trivial
          have tokc : True := trivial
          clear hn1 hK1 hK3 HRF C1
          go_upto_region 14 with fail
          go_cut [91] (fun t91 wr => t91 = .bool false ∧ IsGr W4 wr)
          case first =>
            go_region_held3 (fun w' => (w'.cell? ⟨g10, 0, none⟩ = some (.bool ys) ∧ w'.cell? ⟨g10, 1, none⟩ = some (.slice ya yn yc)) ∧ (w'.cell? ⟨g11, 0, none⟩ = some (.bool ns) ∧ w'.cell? ⟨g11, 1, none⟩ = some (.slice na nn nc)) ∧ (w'.cell? ⟨w.heap.size + 1 + os1.size, 0, none⟩ = some (.bool us) ∧ w'.cell? ⟨w.heap.size + 1 + os1.size, 1, none⟩ = some (.slice ua un uc))) (simp [go_sem, f1, f2, f3, f4, b1, b2, k10, k11, z5])
              ((first | (go_at_call 16; refine (BY _ ?_).mono ?_; exact (by with_reducible repeat (first | exact IsGr.refl _ | refine IsGr.gr ?_ _ _ | refine IsGr.alloc ?_ _ | refine IsGr.drew ?_ | refine IsGr.drewN ?_ _)); rintro e w1 ⟨rfl, os14, n14, rfl⟩) | (go_at_call 24; have _t := tokm; refine (BigMul_any _ _ R R _ (HY _ ?_) (HY _ ?_) sR sR).mono ?_; exact (by with_reducible repeat (first | exact IsGr.refl _ | refine IsGr.gr ?_ _ _ | refine IsGr.alloc ?_ _ | refine IsGr.drew ?_ | refine IsGr.drewN ?_ _)); exact (by with_reducible repeat (first | exact IsGr.refl _ | refine IsGr.gr ?_ _ _ | refine IsGr.alloc ?_ _ | refine IsGr.drew ?_ | refine IsGr.drewN ?_ _)); rintro e w1 ⟨p, rfl, hp, os15, n15, rfl⟩; obtain ⟨ps, pa, pn, pc, rfl⟩ := hp.shape; clear tokm) | (go_at_call 19; have _t := tokc; refine (BQ _ _ (hp.gr ?_) ?_).mono ?_; exact (by repeat (first | with_reducible exact IsGr.refl _ | (refine ⟨#[], n15, ?_⟩; (try simp only [Gr.of_drew]); (try simp only [Gr.gr]); (try simp only [Array.append_assoc]); (try simp only [Array.append_empty]); (try with_reducible rfl); done) | with_reducible refine IsGr.alloc ?_ _ | with_reducible refine IsGr.gr ?_ _ _ | with_reducible refine IsGr.drew ?_ | with_reducible refine IsGr.drewN ?_ _)); exact (by with_reducible repeat (first | exact IsGr.refl _ | refine IsGr.gr ?_ _ _ | refine IsGr.alloc ?_ _ | refine IsGr.drew ?_ | refine IsGr.drewN ?_ _)); rintro e w1 ⟨rfl, os16, n16, rfl⟩; clear tokc) | (go_at_call 24; refine (BigMul_any _ _ (R + 1) (R + 1) _ (HN _ ?_) (HN _ ?_) sN sN).mono ?_; exact (by with_reducible repeat (first | exact IsGr.refl _ | refine IsGr.gr ?_ _ _ | refine IsGr.alloc ?_ _ | refine IsGr.drew ?_ | refine IsGr.drewN ?_ _)); exact (by with_reducible repeat (first | exact IsGr.refl _ | refine IsGr.gr ?_ _ _ | refine IsGr.alloc ?_ _ | refine IsGr.drew ?_ | refine IsGr.drewN ?_ _)); rintro e w1 ⟨q, rfl, hq, os17, n17, rfl⟩; obtain ⟨qs, qa, qn, qc, rfl⟩ := hq.shape) | (go_at_call 19; refine (BM _ _ (hq.gr ?_) ?_).mono ?_; exact (by repeat (first | with_reducible exact IsGr.refl _ | (refine ⟨#[], n17, ?_⟩; (try simp only [Gr.of_drew]); (try simp only [Gr.gr]); (try simp only [Array.append_assoc]); (try simp only [Array.append_empty]); (try with_reducible rfl); done) | with_reducible refine IsGr.alloc ?_ _ | with_reducible refine IsGr.gr ?_ _ _ | with_reducible refine IsGr.drew ?_ | with_reducible refine IsGr.drewN ?_ _)); exact (by with_reducible repeat (first | exact IsGr.refl _ | refine IsGr.gr ?_ _ _ | refine IsGr.alloc ?_ _ | refine IsGr.drew ?_ | refine IsGr.drewN ?_ _)); rintro e w1 ⟨rfl, os18, n18, rfl⟩)))
            all_goals
              go_wp2
              go_meet
              case rel => exact ⟨rfl, (by with_reducible repeat (first | exact IsGr.refl _ | refine IsGr.gr ?_ _ _ | refine IsGr.alloc ?_ _ | refine IsGr.drew ?_ | refine IsGr.drewN ?_ _))⟩
          case rest =>
            obtain ⟨rfl, hg9⟩ := hcut
            obtain ⟨W5, hW5⟩ : ∃ W5, W5 = wc := ⟨_, rfl⟩
            subst hW5
            replace i1 := hg9.cell_eq z1 i1
            replace i2 := hg9.cell_eq z1 i2
            replace i3 := hg9.cell_eq z1 i3
            replace i4 := hg9.cell_eq z1 i4
            replace b1 := hg9.cell_eq z5 b1
            replace b2 := hg9.cell_eq z5 b2
            replace z1 : w.heap.size < W5.heap.size := Nat.lt_of_lt_of_le z1 hg9.size
            replace z5 : w.heap.size + 1 + os1.size < W5.heap.size := Nat.lt_of_lt_of_le z5 hg9.size
            replace HU := fun w1 (hg : IsGr W5 w1) => HU w1 (hg9.trans hg)
            replace HG0 : Hid (IsGr w W5) := HG0.out.trans hg9
            clear hg9
            clear HY HN BY BQ BM f1 f2 f3 f4 k10 k11
            go_upto_region 16 with fail
            by_cases hn : n < 0 ∨ 256 < n
            · have CW := fun w => Power_none x0 x1 x2 x3 n hn w
              have heI := fun w => eqI_t Is.zero Is.zero rfl w
              by_cases hn0 : n < 0
              · go_wp2_with fail
                refine (CW _).mono ?_
                rintro e w1 ⟨rfl, os20, n20, rfl⟩
                go_wp2_with fail
                refine (CA _).mono ?_
                rintro e w1 ⟨rfl, osa, na, rfl⟩
                go_wp2
                go_ret
                exact ⟨rfl, HG0.out.trans (by with_reducible repeat (first | exact IsGr.refl _ | refine IsGr.gr ?_ _ _ | refine IsGr.alloc ?_ _ | refine IsGr.drew ?_ | refine IsGr.drewN ?_ _))⟩
              · have hn1 : 256 < n := by omega
                have hn2 : decide (n < 0) = false := by simp; omega
                go_wp2_with fail
                refine (CW _).mono ?_
                rintro e w1 ⟨rfl, os20, n20, rfl⟩
                go_wp2_with fail
                refine (CA _).mono ?_
                rintro e w1 ⟨rfl, osa, na, rfl⟩
                go_wp2
                go_ret
                exact ⟨rfl, HG0.out.trans (by with_reducible repeat (first | exact IsGr.refl _ | refine IsGr.gr ?_ _ _ | refine IsGr.alloc ?_ _ | refine IsGr.drew ?_ | refine IsGr.drewN ?_ _))⟩
            · obtain ⟨N, rfl⟩ := Int.eq_ofNat_of_zero_le (show 0 ≤ n by omega)
              have CW := fun w => WPower_any x0 x1 x2 x3 x hx N (by omega) w
              have C1 := fun w => BigOf_any 1 (by omega) (by omega) w
              have hn0 : decide ((N : Int) < 0) = false := by simp
              have hn1 : decide (256 < (N : Int)) = false := by simp; omega
              have hN256 : N ≤ 256 := by omega
              clear hn
              go_wp2_with fail
              refine (CW _).mono ?_
              rintro e w1 ⟨p0, p1, p2, p3, ok, rfl, hP, os20, n20, rfl⟩
              have HP : Hid (PowT x N p0 p1 p2 p3 ok) := hP
              clear hP
              go_wp2_with fail
              refine (C1 _).mono ?_
              rintro e w1 ⟨o, rfl, ho, os21, n21, rfl⟩
              obtain ⟨bs, ba, bn, bc, rfl⟩ := ho.shape
              try simp only [Gr.gr] at ho
              go_wp2
              go_loopw [116] (fun t116 wr => ∃ (i : Nat) (bs : Bool) (ba : Option Addr) (bn bc : Nat), i ≤ N ∧ t116 = .int .i64 i ∧ Hid (∀ k, k ≤ i → -57896044618658097711785492504343953926634992332820282019728792003956564819968 ≤ x ^ k ∧ x ^ k < 57896044618658097711785492504343953926634992332820282019728792003956564819968) ∧ IsBig wr (.agg #[.bool bs, .slice ba bn bc]) (x ^ i) ∧
                  IsGr ((Gr ((Gr W5 os20 n20).alloc (.cells #[.int .u64 p0, .int .u64 p1, .int .u64 p2, .int .u64 p3] 24)) os21 n21).alloc (.cells #[.bool bs, .slice ba bn bc] 27)) wr) (fun t116 _ => (N - intOf t116).toNat)
              case atStart =>
                refine ⟨0, bs, ba, bn, bc, by omega, rfl, ?_, ?_, IsGr.refl _⟩
                · intro k hk
                  obtain rfl : k = 0 := by omega
                  simp
                · rw [Int.pow_zero]; exact ho.gr (IsGr.alloc (IsGr.refl _) _)
              case round =>
                obtain ⟨i, bs, ba, bn, bc, hi, rfl, HF, hb, os, d, rfl⟩ := hrel
                have si : Sm (x ^ i) := by have := HF.out i (Nat.le_refl _); unfold Sm; omega
                by_cases hlt : i < N
                · have sp : Sm (x ^ (i + 1)) := by rw [Int.pow_succ]; exact prod_sm (HF.out i (Nat.le_refl _)) hx.2
                  have CM := fun w1 v u (h1 : IsBig w1 v (x ^ i)) (h2 : IsBig w1 u x) => BigMul_any v u (x ^ i) x w1 h1 h2 si sx
                  rw [← Int.pow_succ] at CM
                  go_wp2_with fail
                  refine (CM _ _ _ hb (HU _ ?_)).mono ?_
                  exact (by with_reducible repeat (first | exact IsGr.refl _ | refine IsGr.gr ?_ _ _ | refine IsGr.alloc ?_ _ | refine IsGr.drew ?_ | refine IsGr.drewN ?_ _))
                  rintro e w1 ⟨r, rfl, hr, os22, n22, rfl⟩
                  obtain ⟨rs, ra, rn, rc, rfl⟩ := hr.shape
                  simp only [Gr.gr] at hr
                  have hr2 := IsBig.ret (s' := rs) (a' := ra) (k' := rn) (c' := rc) hr
                  by_cases hf : -57896044618658097711785492504343953926634992332820282019728792003956564819968 ≤ x ^ (i + 1) ∧ x ^ (i + 1) < 57896044618658097711785492504343953926634992332820282019728792003956564819968
                  · have CF := fun w1 v (h1 : IsBig w1 v (x ^ (i + 1))) => Fits_any v (x ^ (i + 1)) w1 h1 sp
                    rw [fits_t hf] at CF
                    have HF2 : Hid (∀ k, k ≤ i + 1 → -57896044618658097711785492504343953926634992332820282019728792003956564819968 ≤ x ^ k ∧ x ^ k < 57896044618658097711785492504343953926634992332820282019728792003956564819968) := by
                      intro k hk
                      by_cases hki : k ≤ i
                      · exact HF.out k hki
                      · obtain rfl : k = i + 1 := by omega
                        exact hf
                    clear hf HF
                    go_wp2_with fail
                    refine (CF _ _ hr2).mono ?_
                    rintro e w1 ⟨rfl, os23, n23, rfl⟩
                    go_wp2
                    go_roundw
                    case rel => exact ⟨i + 1, rs, ra, rn, rc, by omega, by go_num, HF2.out, hr2.gr (by repeat (first | with_reducible exact IsGr.refl _ | (refine ⟨os23, n23, ?_⟩; (try simp only [Gr.of_drew]); (try simp only [Gr.gr]); (try simp only [Array.append_assoc]); (try simp only [Array.append_empty]); (try with_reducible rfl); done) | with_reducible refine IsGr.alloc ?_ _ | with_reducible refine IsGr.gr ?_ _ _ | with_reducible refine IsGr.drew ?_ | with_reducible refine IsGr.drewN ?_ _)), (by with_reducible repeat (first | exact IsGr.refl _ | refine IsGr.gr ?_ _ _ | refine IsGr.alloc ?_ _ | refine IsGr.drew ?_ | refine IsGr.drewN ?_ _))⟩
                    case measure => simp [intOf]; omega
                  · have CF := fun w1 v (h1 : IsBig w1 v (x ^ (i + 1))) => Fits_any v (x ^ (i + 1)) w1 h1 sp
                    rw [fits_f hf] at CF
                    have heI := fun w => eqI_t Is.zero Is.zero rfl w
                    obtain ⟨rfl, rfl, rfl, rfl, rfl⟩ : ok = false ∧ p0 = 0 ∧ p1 = 0 ∧ p2 = 0 ∧ p3 = 0 := by
                      rcases HP.out with ⟨_, h, _⟩ | ⟨h1, h2, _⟩
                      · exact absurd (h (i + 1) (by omega)) hf
                      · exact ⟨h1, h2⟩
                    clear hf HF
                    go_wp2_with fail
                    refine (CF _ _ hr2).mono ?_
                    rintro e w1 ⟨rfl, os23, n23, rfl⟩
                    go_wp2_with fail
                    refine (CA _).mono ?_
                    rintro e w1 ⟨rfl, osa, na, rfl⟩
                    go_wp2
                    go_ret
                    exact ⟨rfl, HG0.out.trans (by with_reducible repeat (first | exact IsGr.refl _ | refine IsGr.gr ?_ _ _ | refine IsGr.alloc ?_ _ | refine IsGr.drew ?_ | refine IsGr.drewN ?_ _))⟩
                · obtain rfl : i = N := by omega
                  have hT : Told (x ^ i) p0 p1 p2 p3 ok := by
                    rcases HP.out with ⟨h1, _, h2⟩ | ⟨_, _, k, hk, h⟩
                    · exact Or.inl ⟨h1, h2⟩
                    · exact absurd (HF.out k hk) h
                  clear HF HP
                  go_wp2_with fail
                  refine (told_any hT _ _ hb si).mono ?_
                  rintro e w1 ⟨rfl, os24, n24, rfl⟩
                  go_wp2_with fail
                  refine (CA _).mono ?_
                  rintro e w1 ⟨rfl, osa, na, rfl⟩
                  go_wp2
                  go_ret
                  exact ⟨rfl, HG0.out.trans (by with_reducible repeat (first | exact IsGr.refl _ | refine IsGr.gr ?_ _ _ | refine IsGr.alloc ?_ _ | refine IsGr.drew ?_ | refine IsGr.drewN ?_ _))⟩
end Go.Proofs.Ytpdpofgmedoelaa
