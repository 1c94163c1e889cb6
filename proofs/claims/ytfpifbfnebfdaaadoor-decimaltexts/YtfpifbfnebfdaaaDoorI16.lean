/- gromalaw10.DecimalTexts, given what package decimal answers: walked. -/
import Derived.Test.YtfpifbfnebfdaaaDoorI15
namespace Go.Proofs.YtfpifbfnebfdaaaDoor
open Go.RowKit Go.Shelf
attribute [local go_sem] Gr.size Gr.cell? Gr.frozen? Gr.setCell Gr.drew Gr.drewN Gr.of_drew Gr.of_drewN Gr.gr Gr.lt_of1 Gr.le_of1 Gr.lt_of2 Gr.le_of2 Gr.lt_of3 Gr.le_of3 Gr.lt_of4 Gr.le_of4 Gr.lt_of5 Gr.le_of5 Gr.lt_of6 Gr.le_of6 Gr.lt_of7 Gr.le_of7 Gr.lt_of8 Gr.le_of8 Gr.lt_of9 Gr.le_of9 Gr.lt_of10 Gr.le_of10 Gr.lt_of11 Gr.le_of11 Gr.lt_of12 Gr.le_of12 Gr.lt_of13 Gr.le_of13 Gr.lt_of14 Gr.le_of14 Gr.lt_of15 Gr.le_of15 Gr.lt_of16 Gr.le_of16 Gr.lt_of17 Gr.le_of17 Gr.lt_of18 Gr.le_of18 Gr.lt_of19 Gr.le_of19 Gr.lt_of20 Gr.le_of20 Gr.lt_of21 Gr.le_of21 Gr.lt_of22 Gr.le_of22 Gr.lt_of23 Gr.le_of23 Gr.lt_of24 Gr.le_of24
theorem strOf_nil : strOfNums [] = { data := #[] } := by decide +kernel

set_option maxRecDepth 20000 in set_option maxHeartbeats 2000000 in
theorem texts_less (C : DecC) (n fine : Int) (hi : I64 n) (hj : I64 fine) (hf : fine < 0) (w : World) (HTB : TabW w) : Calls Tryd.prog 4 #[.int .i64 n, .int .i64 fine] w fun e w' => e = .returned (.bool true) ∧ IsGr w w' := by
  have CA := fun w' (hg : IsGr w w') => dawake_any C w' (HTB.gr hg)
  have CT := C.text n fine w HTB hi hj
  rw [show textU n fine = [] by unfold textU; rw [if_pos (by omega)], strOf_nil] at CT
  clear hi hj C HTB
  go_enter Tryd.func4, Tryd.ntmps4
  go_wp2_with fail
  refine CT.mono ?_
  clear CT
  rintro e w1 ⟨rfl, hg1⟩
  have HG : Hid (IsGr w w1) := hg1
  clear hg1
  go_wp2_with fail
  refine (CA _ HG.out).mono ?_
  clear CA
  rintro e wF ⟨rfl, hgF⟩
  have HGF : Hid (IsGr w wF) := HG.out.trans hgF
  clear hgF
  go_wp2_with fail
  go_ret
  exact ⟨rfl, HGF.out⟩

set_option maxRecDepth 20000 in set_option maxHeartbeats 2000000 in
theorem texts_more (C : DecC) (n fine : Int) (hi : I64 n) (hj : I64 fine) (hf : 9 < fine) (w : World) (HTB : TabW w) : Calls Tryd.prog 4 #[.int .i64 n, .int .i64 fine] w fun e w' => e = .returned (.bool true) ∧ IsGr w w' := by
  have CA := fun w' (hg : IsGr w w') => dawake_any C w' (HTB.gr hg)
  have CT := C.text n fine w HTB hi hj
  rw [show textU n fine = [] by unfold textU; rw [if_pos (by omega)], strOf_nil] at CT
  have hf0 : ¬ fine < 0 := by omega
  clear hi hj C HTB
  go_enter Tryd.func4, Tryd.ntmps4
  go_wp2_with fail
  refine CT.mono ?_
  clear CT
  rintro e w1 ⟨rfl, hg1⟩
  have HG : Hid (IsGr w w1) := hg1
  clear hg1
  go_wp2_with fail
  refine (CA _ HG.out).mono ?_
  clear CA
  rintro e wF ⟨rfl, hgF⟩
  have HGF : Hid (IsGr w wF) := HG.out.trans hgF
  clear hgF
  go_wp2_with fail
  go_ret
  exact ⟨rfl, HGF.out⟩

theorem textU_zero (fine : Int) (hf : 0 ≤ fine ∧ fine ≤ 9) : strOfNums (textU 0 fine) = { data := #[48] } := by
  have h : fine = 0 ∨ fine = 1 ∨ fine = 2 ∨ fine = 3 ∨ fine = 4 ∨ fine = 5 ∨ fine = 6 ∨ fine = 7 ∨ fine = 8 ∨ fine = 9 := by omega
  rcases h with rfl | rfl | rfl | rfl | rfl | rfl | rfl | rfl | rfl | rfl <;> decide +kernel
set_option maxRecDepth 20000 in set_option maxHeartbeats 2000000 in
theorem texts_zero (C : DecC) (fine : Int) (hj : I64 fine) (hf : 0 ≤ fine ∧ fine ≤ 9) (w : World) (HTB : TabW w) : Calls Tryd.prog 4 #[.int .i64 0, .int .i64 fine] w fun e w' => e = .returned (.bool true) ∧ IsGr w w' := by
  have CA := fun w' (hg : IsGr w w') => dawake_any C w' (HTB.gr hg)
  have CT := C.text 0 fine w HTB (by unfold I64; omega) hj
  rw [textU_zero fine hf] at CT
  have hspl : Spl (bts { data := #[48] }) false [] [48] [] [] [] 0 := ⟨by decide, by decide, by unfold Dgs; decide, by decide, by unfold Dgs; decide, by decide, Or.inl ⟨rfl, rfl⟩⟩
  have CS := fun w => C.scale { data := #[48] } fine w 0 0 (by decide) hj ⟨_, _, _, _, _, _, _, hspl, by decide, by decide⟩
  have CR := fun w => RRight_any { data := #[48] } w (by decide)
  rw [hspl.right] at CR
  have CN := fun w => Number_any { data := #[48] } w false [] [48] [] [] [] 0 hspl (by decide) (by simp)
  rw [show sgI false (dvl ([48] ++ [])) = 0 by decide, show (0 : Int) - (([] : List Int).length : Nat) = 0 from rfl] at CN
  have CTT := fun w => Ten_any (0 + fine) w (by omega)
  have CO := fun w => BigOf_any 0 (by omega) (by omega) w
  have s0 := Sm.zero
  have s2 := ten_sm (0 + fine).toNat (by omega)
  have HF : Hid (0 ≤ fine ∧ fine ≤ 9) := hf
  have HU : Hid (UnitIs 0 (0 + fine) 0) := Or.inl ⟨by omega, by rw [Int.zero_mul]⟩
  have hz : (cmpI 0 0 != 0) = false := by decide
  have hpf : decide (fine < 0) = false := decide_eq_false (by omega)
  have efn : IntKind.i64.wrap (-fine) = -fine := by rw [IntKind.wrap_i64]; omega
  have epf : IntKind.i64.wrap fine = fine := by rw [IntKind.wrap_i64]; omega
  have hf0 : ¬ fine < 0 := by omega
  have hf9 : ¬ 9 < fine := by omega
  rw [Int.zero_add] at CTT s2
  clear hspl hf hj C HTB
  go_enter Tryd.func4, Tryd.ntmps4
  go_wp2_with fail
  refine CT.mono ?_
  clear CT
  rintro e w1 ⟨rfl, hg1⟩
  go_wp2_with fail
  refine (CR _).mono ?_
  clear CR
  rintro e w2 ⟨rfl, hg2⟩
  obtain rfl := hg2.symm
  go_wp2_with fail
  refine (CN _).mono ?_
  clear CN
  rintro e w3 ⟨v, rfl, hv, hg3⟩
  obtain ⟨vs, va, vn, vc, rfl⟩ := hv.shape
  have hX := BgB.new hv
  obtain ⟨v1s, v1a, v1n, v1c, hxb, hxB⟩ := hX
  obtain ⟨c0, c1, f0, f1⟩ := block_two hxb
  have HG1 : Hid (IsGr w (w3.alloc (.cells #[.bool vs, .slice va vn vc] 29))) := (hg1.trans hg3).trans ((IsGr.refl w3).alloc _)
  have HX : Hid (IsBig (w3.alloc (.cells #[.bool vs, .slice va vn vc] 29)) (.agg #[.bool v1s, .slice v1a v1n v1c]) 0) := hxB
  clear hv hg1 hg3 hxb hxB
  go_upto_region 7 with fail
  obtain ⟨PX, hPX⟩ : ∃ P, w3.heap.size = P := ⟨_, rfl⟩
  obtain ⟨w4, hw4⟩ : ∃ W, w3.alloc (.cells #[.bool vs, .slice va vn vc] 29) = W := ⟨_, rfl⟩
  rw [hw4] at HG1 HX c0 c1
  rw [hPX] at c0 c1
  rw [hPX, hw4]
  clear hPX hw4 f0 f1
  obtain ⟨C, hin, hcl, hcells, hgr⟩ : ∃ C : World → Prop, (∀ w', IsGr w4 w' → C w') ∧ (∀ u u', C u → IsGr u u' → C u') ∧ (∀ w', C w' → (w'.cell? ⟨PX, 0, none⟩ = some (.bool v1s)) ∧ (w'.cell? ⟨PX, 1, none⟩ = some (.slice v1a v1n v1c))) ∧ (∀ w', C w' → IsGr w4 w') := ⟨fun w' => IsGr w4 w', fun _ h => h, fun _ _ h k => h.trans k, fun w' hg => ⟨cellk c0 hg, cellk c1 hg⟩, fun _ h => h⟩
  refine wp_region_held_drew (S := C) (by kernel_rfl) (by (try dsimp only); exact hin _ (by with_reducible repeat (first | exact IsGr.refl _ | refine IsGr.gr ?_ _ _ | refine IsGr.alloc ?_ _ | refine IsGr.drew ?_ | refine IsGr.drewN ?_ _))) (fun hHeld => ?_)
  refine wpAnyH_take (i := 0) (oi := { dst := some 43, op := Op.move (Operand.tmp 7), type := 3, pos := "law.go:99", after := #[], guard := none }) (v := ?_) rfl (by kernel_rfl) (by kernel_rfl) (by kernel_rfl) (fun _ _ _ h => h) (Or.inl ⟨by rfl, ?_⟩) (by assumption) ?_
  rotate_left
  · (intro w hSw; (try dsimp only at hSw); (try have hcs := hcells w hSw); (try go_split_ands); go_simp <;> with_reducible rfl)
  (try simp only [Act.put, List.setIfInBounds_toArray, List.set_cons_zero, List.set_cons_succ])
  refine wpAnyH_take (i := 1) (oi := { dst := some 44, op := Op.binOp BinOp.gtr 3 (Operand.tmp 43) (Operand.const (Value.int IntKind.i64 0)) 3, type := 4, pos := "law.go:99", after := #[{ on := 0, ground := Ground.data }], guard := none }) (v := ?_) rfl (by kernel_rfl) (by kernel_rfl) (by kernel_rfl) (fun _ _ _ h => h) (Or.inl ⟨by rfl, ?_⟩) (by assumption) ?_
  rotate_left
  · (intro w hSw; (try dsimp only at hSw); (try have hcs := hcells w hSw); (try go_split_ands); go_simp <;> with_reducible rfl)
  (try simp only [Act.put, List.setIfInBounds_toArray, List.set_cons_zero, List.set_cons_succ])
  refine wpAnyH_take (i := 2) (oi := { dst := some 45, op := Op.move (Operand.tmp 44), type := 4, pos := "law.go:99", after := #[{ on := 1, ground := Ground.data }], guard := none }) (v := ?_) rfl (by kernel_rfl) (by kernel_rfl) (by kernel_rfl) (fun _ _ _ h => h) (Or.inl ⟨by rfl, ?_⟩) (by assumption) ?_
  rotate_left
  · (intro w hSw; (try dsimp only at hSw); (try have hcs := hcells w hSw); (try go_split_ands); go_simp <;> with_reducible rfl)
  (try simp only [Act.put, List.setIfInBounds_toArray, List.set_cons_zero, List.set_cons_succ])
  refine wpAnyH_take (i := 3) (oi := { dst := some 46, op := Op.move (Operand.tmp 7), type := 3, pos := "law.go:99", after := #[{ on := 2, ground := Ground.guard }], guard := some (2, false) }) (v := ?_) rfl (by kernel_rfl) (by kernel_rfl) (by kernel_rfl) (fun _ _ _ h => h) (Or.inl ⟨by rfl, ?_⟩) (by assumption) ?_
  rotate_left
  · (intro w hSw; (try dsimp only at hSw); (try have hcs := hcells w hSw); (try go_split_ands); go_simp <;> with_reducible rfl)
  (try simp only [Act.put, List.setIfInBounds_toArray, List.set_cons_zero, List.set_cons_succ])
  refine wpAnyH_take (i := 4) (oi := { dst := some 47, op := Op.move (Operand.tmp 1), type := 3, pos := "law.go:99", after := #[{ on := 2, ground := Ground.guard }], guard := some (2, false) }) (v := ?_) rfl (by kernel_rfl) (by kernel_rfl) (by kernel_rfl) (fun _ _ _ h => h) (Or.inl ⟨by rfl, ?_⟩) (by assumption) ?_
  rotate_left
  · (intro w hSw; (try dsimp only at hSw); (try have hcs := hcells w hSw); (try go_split_ands); go_simp <;> with_reducible rfl)
  (try simp only [Act.put, List.setIfInBounds_toArray, List.set_cons_zero, List.set_cons_succ])
  refine wpAnyH_take (i := 5) (oi := { dst := some 48, op := Op.unOp UnOp.neg 3 (Operand.tmp 47), type := 3, pos := "law.go:99", after := #[{ on := 4, ground := Ground.data }, { on := 2, ground := Ground.guard }], guard := some (2, false) }) (v := ?_) rfl (by kernel_rfl) (by kernel_rfl) (by kernel_rfl) (fun _ _ _ h => h) (Or.inl ⟨by rfl, ?_⟩) (by assumption) ?_
  rotate_left
  · (intro w hSw; (try dsimp only at hSw); (try have hcs := hcells w hSw); (try go_split_ands); go_simp <;> with_reducible rfl)
  (try simp only [Act.put, List.setIfInBounds_toArray, List.set_cons_zero, List.set_cons_succ])
  refine wpAnyH_take (i := 6) (oi := { dst := some 49, op := Op.binOp BinOp.lss 3 (Operand.tmp 46) (Operand.tmp 48) 3, type := 4, pos := "law.go:99", after := #[{ on := 3, ground := Ground.data }, { on := 5, ground := Ground.data }, { on := 2, ground := Ground.guard }], guard := some (2, false) }) (v := ?_) rfl (by kernel_rfl) (by kernel_rfl) (by kernel_rfl) (fun _ _ _ h => h) (Or.inl ⟨by rfl, ?_⟩) (by assumption) ?_
  rotate_left
  · (intro w hSw; (try dsimp only at hSw); (try have hcs := hcells w hSw); (try go_split_ands); go_simp <;> with_reducible rfl)
  (try simp only [Act.put, List.setIfInBounds_toArray, List.set_cons_zero, List.set_cons_succ])
  refine wpAnyH_take (i := 7) (oi := { dst := some 50, op := Op.pick (Operand.tmp 45) (Operand.const (Value.bool true)) (Operand.tmp 49), type := 4, pos := "law.go:99", after := #[{ on := 2, ground := Ground.data }, { on := 6, ground := Ground.data }], guard := none }) (v := ?_) rfl (by kernel_rfl) (by kernel_rfl) (by kernel_rfl) (fun _ _ _ h => h) (Or.inl ⟨by rfl, ?_⟩) (by assumption) ?_
  rotate_left
  · (intro w hSw; (try dsimp only at hSw); (try have hcs := hcells w hSw); (try go_split_ands); go_simp <;> with_reducible rfl)
  (try simp only [Act.put, List.setIfInBounds_toArray, List.set_cons_zero, List.set_cons_succ])
  refine wpAnyH_take (i := 8) (oi := { dst := some 51, op := Op.move (Operand.tmp 50), type := 4, pos := "law.go:99", after := #[{ on := 7, ground := Ground.data }, { on := 2, ground := Ground.chain }], guard := none }) (v := ?_) rfl (by kernel_rfl) (by kernel_rfl) (by kernel_rfl) (fun _ _ _ h => h) (Or.inl ⟨by rfl, ?_⟩) (by assumption) ?_
  rotate_left
  · (intro w hSw; (try dsimp only at hSw); (try have hcs := hcells w hSw); (try go_split_ands); go_simp <;> with_reducible rfl)
  (try simp only [Act.put, List.setIfInBounds_toArray, List.set_cons_zero, List.set_cons_succ])
  refine wpAnyH_take (i := 9) (oi := { dst := some 52, op := Op.load 29 (Operand.tmp 6), type := 29, pos := "law.go:99", after := #[{ on := 8, ground := Ground.guard }], guard := some (8, false) }) (v := ?_) rfl (by kernel_rfl) (by kernel_rfl) (by kernel_rfl) (fun _ _ _ h => h) (Or.inl ⟨by rfl, ?_⟩) (by assumption) ?_
  rotate_left
  · (intro w hSw; (try dsimp only at hSw); (try have hcs := hcells w hSw); (try go_split_ands); go_simp <;> with_reducible rfl)
  (try simp only [Act.put, List.setIfInBounds_toArray, List.set_cons_zero, List.set_cons_succ])
  refine wpAnyH_take (i := 10) (oi := { dst := some 53, op := Op.move (Operand.tmp 7), type := 3, pos := "law.go:99", after := #[{ on := 8, ground := Ground.guard }], guard := some (8, false) }) (v := ?_) rfl (by kernel_rfl) (by kernel_rfl) (by kernel_rfl) (fun _ _ _ h => h) (Or.inl ⟨by rfl, ?_⟩) (by assumption) ?_
  rotate_left
  · (intro w hSw; (try dsimp only at hSw); (try have hcs := hcells w hSw); (try go_split_ands); go_simp <;> with_reducible rfl)
  (try simp only [Act.put, List.setIfInBounds_toArray, List.set_cons_zero, List.set_cons_succ])
  refine wpAnyH_take (i := 11) (oi := { dst := some 54, op := Op.move (Operand.tmp 1), type := 3, pos := "law.go:99", after := #[{ on := 8, ground := Ground.guard }], guard := some (8, false) }) (v := ?_) rfl (by kernel_rfl) (by kernel_rfl) (by kernel_rfl) (fun _ _ _ h => h) (Or.inl ⟨by rfl, ?_⟩) (by assumption) ?_
  rotate_left
  · (intro w hSw; (try dsimp only at hSw); (try have hcs := hcells w hSw); (try go_split_ands); go_simp <;> with_reducible rfl)
  (try simp only [Act.put, List.setIfInBounds_toArray, List.set_cons_zero, List.set_cons_succ])
  refine wpAnyH_take (i := 12) (oi := { dst := some 55, op := Op.binOp BinOp.add 3 (Operand.tmp 53) (Operand.tmp 54) 3, type := 3, pos := "law.go:99", after := #[{ on := 10, ground := Ground.data }, { on := 11, ground := Ground.data }, { on := 8, ground := Ground.guard }], guard := some (8, false) }) (v := ?_) rfl (by kernel_rfl) (by kernel_rfl) (by kernel_rfl) (fun _ _ _ h => h) (Or.inl ⟨by rfl, ?_⟩) (by assumption) ?_
  rotate_left
  · (intro w hSw; (try dsimp only at hSw); (try have hcs := hcells w hSw); (try go_split_ands); go_simp <;> with_reducible rfl)
  (try simp only [Act.put, List.setIfInBounds_toArray, List.set_cons_zero, List.set_cons_succ])
  refine wpAnyH_take (i := 15) (oi := { dst := some 58, op := Op.move (Operand.tmp 0), type := 3, pos := "law.go:99", after := #[{ on := 8, ground := Ground.guard }], guard := some (8, false) }) (v := ?_) rfl (by kernel_rfl) (by kernel_rfl) (by kernel_rfl) (fun _ _ _ h => h) (Or.inl ⟨by rfl, ?_⟩) (by assumption) ?_
  rotate_left
  · (intro w hSw; (try dsimp only at hSw); (try have hcs := hcells w hSw); (try go_split_ands); go_simp <;> with_reducible rfl)
  (try simp only [Act.put, List.setIfInBounds_toArray, List.set_cons_zero, List.set_cons_succ])
  refine wpAnyH_ready (rs := [13]) (by kernel_rfl) (by simp) ?_
  refine AllReadyH.cons (o := { dst := some 56, op := Op.call { callee := Callee.value (Operand.func 14), args := #[Operand.tmp 55], argTypes := #[3] }, type := 29, pos := "law.go:99", after := #[{ on := 12, ground := Ground.data }, { on := 8, ground := Ground.chain }, { on := 8, ground := Ground.guard }], guard := some (8, false) }) rfl (fun K hK => ?_) ?_
  · go_simp
    refine (CTT _).mono ?_
    rintro e w5 ⟨T, rfl, hT, hg5⟩
    obtain ⟨Ts, Ta, Tn, Tc, rfl⟩ := hT.shape
    (try go_wp2_with fail)
    refine hK.out _ _ (by (try dsimp only); exact hcl _ _ hHeld (by first | with_reducible assumption | with_reducible exact IsGr.refl _ | with_reducible exact (IsGr.refl _).alloc _ | with_reducible exact ((IsGr.refl _).alloc _).alloc _ | assumption)) (fun hHeld2 => ?_)
    clear hK K hHeld
    have hHeld := hHeld2
    clear hHeld2
    (try simp only [Act.put, List.setIfInBounds_toArray, List.set_cons_zero, List.set_cons_succ])
    refine wpAnyH_ready (rs := [14]) (by kernel_rfl) (by simp) ?_
    refine AllReadyH.cons (o := { dst := some 57, op := Op.call { callee := Callee.value (Operand.func 13), args := #[Operand.tmp 52, Operand.tmp 56], argTypes := #[29, 29] }, type := 29, pos := "law.go:99", after := #[{ on := 9, ground := Ground.data }, { on := 13, ground := Ground.data }, { on := 13, ground := Ground.chain }, { on := 8, ground := Ground.guard }], guard := some (8, false) }) rfl (fun K hK => ?_) ?_
    · go_simp
      refine (BigMul_any _ _ 0 (10 ^ fine.toNat) _ (HX.out.gr (hgr _ hHeld)) (hT.gr (by first | with_reducible assumption | with_reducible exact IsGr.refl _ | with_reducible exact (IsGr.refl _).alloc _ | with_reducible exact ((IsGr.refl _).alloc _).alloc _ | assumption)) s0 s2).mono ?_
      rintro e w6 ⟨N, rfl, hN, hg6⟩
      rw [Int.zero_mul] at hN
      obtain ⟨Ns, Na, Nn, Nc, rfl⟩ := hN.shape
      (try go_wp2_with fail)
      refine hK.out _ _ (by (try dsimp only); exact hcl _ _ hHeld (by first | with_reducible assumption | with_reducible exact IsGr.refl _ | with_reducible exact (IsGr.refl _).alloc _ | with_reducible exact ((IsGr.refl _).alloc _).alloc _ | assumption)) (fun hHeld2 => ?_)
      clear hK K hHeld
      have hHeld := hHeld2
      clear hHeld2
      (try simp only [Act.put, List.setIfInBounds_toArray, List.set_cons_zero, List.set_cons_succ])
      refine wpAnyH_ready (rs := [16]) (by kernel_rfl) (by simp) ?_
      refine AllReadyH.cons (o := { dst := some 59, op := Op.call { callee := Callee.value (Operand.func 12), args := #[Operand.tmp 58], argTypes := #[3] }, type := 29, pos := "law.go:99", after := #[{ on := 15, ground := Ground.data }, { on := 14, ground := Ground.chain }, { on := 8, ground := Ground.guard }], guard := some (8, false) }) rfl (fun K hK => ?_) ?_
      · go_simp
        refine (CO _).mono ?_
        rintro e w7 ⟨O, rfl, hO, hg7⟩
        obtain ⟨Os, Oa, On, Oc, rfl⟩ := hO.shape
        (try go_wp2_with fail)
        refine hK.out _ _ (by (try dsimp only); exact hcl _ _ hHeld (by first | with_reducible assumption | with_reducible exact IsGr.refl _ | with_reducible exact (IsGr.refl _).alloc _ | with_reducible exact ((IsGr.refl _).alloc _).alloc _ | assumption)) (fun hHeld2 => ?_)
        clear hK K hHeld
        have hHeld := hHeld2
        clear hHeld2
        (try simp only [Act.put, List.setIfInBounds_toArray, List.set_cons_zero, List.set_cons_succ])
        refine wpAnyH_ready (rs := [17]) (by kernel_rfl) (by simp) ?_
        refine AllReadyH.cons (o := { dst := some 60, op := Op.call { callee := Callee.value (Operand.func 15), args := #[Operand.tmp 57, Operand.tmp 59], argTypes := #[29, 29] }, type := 3, pos := "law.go:99", after := #[{ on := 14, ground := Ground.data }, { on := 16, ground := Ground.data }, { on := 16, ground := Ground.chain }, { on := 8, ground := Ground.guard }], guard := some (8, false) }) rfl (fun K hK => ?_) ?_
        · go_simp
          refine (BigCmp_any _ _ 0 0 _ (hN.gr (by first | with_reducible assumption | with_reducible exact IsGr.refl _ | with_reducible exact (IsGr.refl _).alloc _ | with_reducible exact ((IsGr.refl _).alloc _).alloc _ | assumption)) (hO.gr (by first | with_reducible assumption | with_reducible exact IsGr.refl _ | with_reducible exact (IsGr.refl _).alloc _ | with_reducible exact ((IsGr.refl _).alloc _).alloc _ | assumption)) s0 s0).mono ?_
          rintro e w8 ⟨rfl, hg8⟩
          (try go_wp2_with fail)
          refine hK.out _ _ (by (try dsimp only); exact hcl _ _ hHeld (by first | with_reducible assumption | with_reducible exact IsGr.refl _ | with_reducible exact (IsGr.refl _).alloc _ | with_reducible exact ((IsGr.refl _).alloc _).alloc _ | assumption)) (fun hHeld2 => ?_)
          clear hK K hHeld
          have hHeld := hHeld2
          clear hHeld2
          (try simp only [Act.put, List.setIfInBounds_toArray, List.set_cons_zero, List.set_cons_succ])
          refine wpAnyH_take (i := 18) (oi := { dst := some 61, op := Op.binOp BinOp.neq 3 (Operand.tmp 60) (Operand.const (Value.int IntKind.i64 0)) 3, type := 4, pos := "law.go:99", after := #[{ on := 17, ground := Ground.data }, { on := 8, ground := Ground.guard }], guard := some (8, false) }) (v := ?_) rfl (by kernel_rfl) (by kernel_rfl) (by kernel_rfl) (fun _ _ _ h => h) (Or.inl ⟨by rfl, ?_⟩) (by assumption) ?_
          rotate_left
          · (intro w hSw; (try dsimp only at hSw); (try have hcs := hcells w hSw); (try go_split_ands); go_simp <;> with_reducible rfl)
          (try simp only [Act.put, List.setIfInBounds_toArray, List.set_cons_zero, List.set_cons_succ])
          refine wpAnyH_take (i := 19) (oi := { dst := some 62, op := Op.pick (Operand.tmp 51) (Operand.const (Value.bool true)) (Operand.tmp 61), type := 4, pos := "law.go:99", after := #[{ on := 8, ground := Ground.data }, { on := 18, ground := Ground.data }], guard := none }) (v := ?_) rfl (by kernel_rfl) (by kernel_rfl) (by kernel_rfl) (fun _ _ _ h => h) (Or.inl ⟨by rfl, ?_⟩) (by assumption) ?_
          rotate_left
          · (intro w hSw; (try dsimp only at hSw); (try have hcs := hcells w hSw); (try go_split_ands); go_simp <;> with_reducible rfl)
          (try simp only [Act.put, List.setIfInBounds_toArray, List.set_cons_zero, List.set_cons_succ])
          refine wpAnyH_done (by kernel_rfl) ?_ _
          have hgq := hgr _ hHeld
          have HGW0 : Hid (IsGr w _) := HG1.out.trans hgq
          have HGW := HGW0
          clear hHeld hgr hin hcl hcells hgq c0 c1 HGW0 hz
          go_wp2_with fail
          refine (CS _).mono ?_
          clear CS
          rintro e wS ⟨m, er, rfl, hsc, hgS⟩
          have HG : Hid (IsGr w wS) := HGW.out.trans hgS
          clear hgS
          obtain ⟨rfl, rfl⟩ := hsc.ok HF.out HU.out (by unfold MxU; omega) (by unfold MxU; omega)
          clear hsc
          go_wp2_with fail
          refine (CA _ HG.out).mono ?_
          clear CA
          rintro e wF ⟨rfl, hgF⟩
          have HGF : Hid (IsGr w wF) := HG.out.trans hgF
          clear hgF
          go_wp2_with fail
          go_ret
          exact ⟨rfl, HGF.out⟩
          
        exact AllReadyH.nil
      exact AllReadyH.nil
    exact AllReadyH.nil
  exact AllReadyH.nil

set_option maxRecDepth 20000 in set_option maxHeartbeats 2000000 in
theorem texts_pz (C : DecC) (n fine : Int) (hi : I64 n) (hj : I64 fine) (hf : 0 ≤ fine ∧ fine ≤ 9) (hn0 : n ≠ 0) (M : Int) (k : Nat) (d0 cL : Int) (hx : TxR n fine (strOfNums (textU n fine)) false 0 M k d0 cL) (hd : d0 = 48) (w : World) (HTB : TabW w) : Calls Tryd.prog 4 #[.int .i64 n, .int .i64 fine] w fun e w' => e = .returned (.bool true) ∧ IsGr w w' := by
  have CA := fun w' (hg : IsGr w w') => dawake_any C w' (HTB.gr hg)
  have CT := C.text n fine w HTB hi hj
  obtain ⟨s, hs⟩ : ∃ s, strOfNums (textU n fine) = s := ⟨_, rfl⟩
  rw [hs] at hx CT
  obtain ⟨sg, l1, dt, l2, hspl, hM, hk2⟩ := hx.num
  have CS := fun w => C.scale s fine w M (0 - (k : Nat)) (by have := hx.size; omega) hj ⟨_, _, _, _, _, _, _, hspl, hM, by rw [hk2]⟩
  have CR := fun w => RRight_any s w (by have := hx.size; omega)
  rw [hspl.right] at CR
  have CN := fun w => Number_any s w false sg l1 dt l2 [] 0 hspl hx.size (by simp)
  rw [← hM, hk2] at CN
  have hu := hx.unit
  have hpos : 0 < s.size := by have := hx.at0; omega
  have hA := hx.at0.2.1
  have hat0 := bts_at hpos
  have hatA := bts_at hA
  have hatL := bts_at (show s.size - 1 < s.size by omega)
  rw [hx.at0.1] at hatA
  rw [hx.last.1] at hatL
  have hdr := dg_range hx.at0.2.2
  have HF : Hid (0 ≤ fine ∧ fine ≤ 9) := hf
  have HU : Hid (UnitIs M (0 - (k : Nat) + fine) n) := Or.inl ⟨by omega, by rw [show (0 - ((k : Nat) : Int) + fine).toNat = fine.toNat - k by omega]; exact hu.1⟩
  have CTT := fun w => Ten_any (0 - (k : Nat) + fine) w (by omega)
  have hnr : -9223372036854775808 ≤ n ∧ n < 9223372036854775808 := hi
  have CO := fun w => BigOf_any n hnr.1 hnr.2 w
  have s1 : Sm n := by unfold Sm; omega
  have s2 := ten_sm (0 - ((k : Nat) : Int) + fine).toNat (by omega)
  have s3 : Sm M := by
    rw [hM]
    have hb := dvl_bound (hspl.d1.app hspl.d2)
    have hl : (l1 ++ l2).length ≤ 60 := by
      have h1 := congrArg List.length hspl.eq
      rw [bts_len] at h1
      simp only [List.length_append] at h1 ⊢
      have := hx.size
      omega
    have h3 := sgI_bound (neg := false) hb hl
    have h4 : (10 : Int) ^ 60 ≤ 4149515568880992958512407863691161151012446232242436899995657329690652811412908146399707048947103794288197886611300789182395151075411775307886874834113963687061181803401509523685376 := by decide +kernel
    unfold Sm; omega
  have HMT : Hid (M * 10 ^ (0 - ((k : Nat) : Int) + fine).toNat = n) := by
    show _ = _
    rw [show (0 - ((k : Nat) : Int) + fine).toNat = fine.toNat - k by omega]
    exact hu.1.symm
  have hz : (cmpI n n != 0) = false := by unfold cmpI; simp
  obtain ⟨cA, hcA⟩ : ∃ c : Int, ((s[0]'hA).toNat : Int) = c := ⟨_, rfl⟩
  rw [hcA] at hatA
  obtain rfl := hatA
  have q43 : (d0 == 43) = false := by simp; omega
  have q46 : (d0 == 46) = false := by simp; omega
  have q45 : (d0 == 45) = false := by simp; omega
  have e0 : IntKind.i64.wrap ((s.size : Int) - 1) = ((s.size - 1 : Nat) : Int) := by rw [IntKind.wrap_i64]; have := hx.size; omega
  obtain ⟨L, hL⟩ : ∃ L, s.size - 1 = L := ⟨_, rfl⟩
  have hLs : L < s.size := by omega
  have hLc : ((s[L]'hLs).toNat : Int) = cL := by simp only [hL] at hatL; exact hatL.symm
  rw [hL] at e0
  have hLs' : (L : Int) < s.size := by omega
  have hL0 : (0 : Int) ≤ L := by omega
  have qL46 : (cL == 46) = false := by simpa using hx.last.2.1
  have hpos' : (0 : Int) < s.size := by omega
  have hA' : (0 : Int) < s.size := by omega
  have qn : (n == 0) = false := by simpa using hn0
  obtain rfl := hd
  have hz1 := hx.at1 rfl
  have hB := hz1.1
  have hatB := bts_at hB
  have hB46 : ((s[0 + 1]'hB).toNat : Int) = 46 := by rw [← hatB]; exact hz1.2.1
  have hB' : ((0 : Int) + 1) < s.size := by omega
  have hB'' : (1 : Int) < s.size := by omega
  have hk : 0 < k := hz1.2.2
  have qL48 : (cL == 48) = false := by simpa using hx.last.2.2 hk
  have hp1 : (0 : Int) - (k : Nat) < 0 := by omega
  obtain ⟨pE, hpE⟩ : ∃ pE : Int, (0 : Int) - ((k : Nat) : Int) = pE := ⟨_, rfl⟩
  have hpf : decide (pE < -fine) = false := decide_eq_false (by omega)
  have hpd : decide (0 < pE) = false := decide_eq_false (by omega)
  have efn : IntKind.i64.wrap (-fine) = -fine := by rw [IntKind.wrap_i64]; omega
  have epf : IntKind.i64.wrap (pE + fine) = pE + fine := by rw [IntKind.wrap_i64]; omega
  have hf0 : ¬ fine < 0 := by omega
  have hf9 : ¬ 9 < fine := by omega
  rw [hpE] at CS HU CTT s2 HMT hp1 CN
  clear hs hx hspl hM hk2 hu hat0 hatL hdr hf hj hi hn0 C HTB hL hpE hnr hatB hz1
  go_enter Tryd.func4, Tryd.ntmps4
  go_wp2_with fail
  refine CT.mono ?_
  clear CT
  rintro e w1 ⟨rfl, hg1⟩
  go_wp2_with fail
  refine (CR _).mono ?_
  clear CR
  rintro e w2 ⟨rfl, hg2⟩
  obtain rfl := hg2.symm
  go_wp2_with fail
  refine (CN _).mono ?_
  clear CN
  rintro e w3 ⟨v, rfl, hv, hg3⟩
  obtain ⟨vs, va, vn, vc, rfl⟩ := hv.shape
  have hX := BgB.new hv
  obtain ⟨v1s, v1a, v1n, v1c, hxb, hxB⟩ := hX
  obtain ⟨c0, c1, f0, f1⟩ := block_two hxb
  have HG1 : Hid (IsGr w (w3.alloc (.cells #[.bool vs, .slice va vn vc] 29))) := (hg1.trans hg3).trans ((IsGr.refl w3).alloc _)
  have HX : Hid (IsBig (w3.alloc (.cells #[.bool vs, .slice va vn vc] 29)) (.agg #[.bool v1s, .slice v1a v1n v1c]) M) := hxB
  clear hv hg1 hg3 hxb hxB
  go_upto_region 7 with fail
  obtain ⟨PX, hPX⟩ : ∃ P, w3.heap.size = P := ⟨_, rfl⟩
  obtain ⟨w4, hw4⟩ : ∃ W, w3.alloc (.cells #[.bool vs, .slice va vn vc] 29) = W := ⟨_, rfl⟩
  rw [hw4] at HG1 HX c0 c1
  rw [hPX] at c0 c1
  rw [hPX, hw4]
  clear hPX hw4 f0 f1
  obtain ⟨C, hin, hcl, hcells, hgr⟩ : ∃ C : World → Prop, (∀ w', IsGr w4 w' → C w') ∧ (∀ u u', C u → IsGr u u' → C u') ∧ (∀ w', C w' → (w'.cell? ⟨PX, 0, none⟩ = some (.bool v1s)) ∧ (w'.cell? ⟨PX, 1, none⟩ = some (.slice v1a v1n v1c))) ∧ (∀ w', C w' → IsGr w4 w') := ⟨fun w' => IsGr w4 w', fun _ h => h, fun _ _ h k => h.trans k, fun w' hg => ⟨cellk c0 hg, cellk c1 hg⟩, fun _ h => h⟩
  refine wp_region_held_drew (S := C) (by kernel_rfl) (by (try dsimp only); exact hin _ (by with_reducible repeat (first | exact IsGr.refl _ | refine IsGr.gr ?_ _ _ | refine IsGr.alloc ?_ _ | refine IsGr.drew ?_ | refine IsGr.drewN ?_ _))) (fun hHeld => ?_)
  refine wpAnyH_take (i := 0) (oi := { dst := some 43, op := Op.move (Operand.tmp 7), type := 3, pos := "law.go:99", after := #[], guard := none }) (v := ?_) rfl (by kernel_rfl) (by kernel_rfl) (by kernel_rfl) (fun _ _ _ h => h) (Or.inl ⟨by rfl, ?_⟩) (by assumption) ?_
  rotate_left
  · (intro w hSw; (try dsimp only at hSw); (try have hcs := hcells w hSw); (try go_split_ands); go_simp <;> with_reducible rfl)
  (try simp only [Act.put, List.setIfInBounds_toArray, List.set_cons_zero, List.set_cons_succ])
  refine wpAnyH_take (i := 1) (oi := { dst := some 44, op := Op.binOp BinOp.gtr 3 (Operand.tmp 43) (Operand.const (Value.int IntKind.i64 0)) 3, type := 4, pos := "law.go:99", after := #[{ on := 0, ground := Ground.data }], guard := none }) (v := ?_) rfl (by kernel_rfl) (by kernel_rfl) (by kernel_rfl) (fun _ _ _ h => h) (Or.inl ⟨by rfl, ?_⟩) (by assumption) ?_
  rotate_left
  · (intro w hSw; (try dsimp only at hSw); (try have hcs := hcells w hSw); (try go_split_ands); go_simp <;> with_reducible rfl)
  (try simp only [Act.put, List.setIfInBounds_toArray, List.set_cons_zero, List.set_cons_succ])
  refine wpAnyH_take (i := 2) (oi := { dst := some 45, op := Op.move (Operand.tmp 44), type := 4, pos := "law.go:99", after := #[{ on := 1, ground := Ground.data }], guard := none }) (v := ?_) rfl (by kernel_rfl) (by kernel_rfl) (by kernel_rfl) (fun _ _ _ h => h) (Or.inl ⟨by rfl, ?_⟩) (by assumption) ?_
  rotate_left
  · (intro w hSw; (try dsimp only at hSw); (try have hcs := hcells w hSw); (try go_split_ands); go_simp <;> with_reducible rfl)
  (try simp only [Act.put, List.setIfInBounds_toArray, List.set_cons_zero, List.set_cons_succ])
  refine wpAnyH_take (i := 3) (oi := { dst := some 46, op := Op.move (Operand.tmp 7), type := 3, pos := "law.go:99", after := #[{ on := 2, ground := Ground.guard }], guard := some (2, false) }) (v := ?_) rfl (by kernel_rfl) (by kernel_rfl) (by kernel_rfl) (fun _ _ _ h => h) (Or.inl ⟨by rfl, ?_⟩) (by assumption) ?_
  rotate_left
  · (intro w hSw; (try dsimp only at hSw); (try have hcs := hcells w hSw); (try go_split_ands); go_simp <;> with_reducible rfl)
  (try simp only [Act.put, List.setIfInBounds_toArray, List.set_cons_zero, List.set_cons_succ])
  refine wpAnyH_take (i := 4) (oi := { dst := some 47, op := Op.move (Operand.tmp 1), type := 3, pos := "law.go:99", after := #[{ on := 2, ground := Ground.guard }], guard := some (2, false) }) (v := ?_) rfl (by kernel_rfl) (by kernel_rfl) (by kernel_rfl) (fun _ _ _ h => h) (Or.inl ⟨by rfl, ?_⟩) (by assumption) ?_
  rotate_left
  · (intro w hSw; (try dsimp only at hSw); (try have hcs := hcells w hSw); (try go_split_ands); go_simp <;> with_reducible rfl)
  (try simp only [Act.put, List.setIfInBounds_toArray, List.set_cons_zero, List.set_cons_succ])
  refine wpAnyH_take (i := 5) (oi := { dst := some 48, op := Op.unOp UnOp.neg 3 (Operand.tmp 47), type := 3, pos := "law.go:99", after := #[{ on := 4, ground := Ground.data }, { on := 2, ground := Ground.guard }], guard := some (2, false) }) (v := ?_) rfl (by kernel_rfl) (by kernel_rfl) (by kernel_rfl) (fun _ _ _ h => h) (Or.inl ⟨by rfl, ?_⟩) (by assumption) ?_
  rotate_left
  · (intro w hSw; (try dsimp only at hSw); (try have hcs := hcells w hSw); (try go_split_ands); go_simp <;> with_reducible rfl)
  (try simp only [Act.put, List.setIfInBounds_toArray, List.set_cons_zero, List.set_cons_succ])
  refine wpAnyH_take (i := 6) (oi := { dst := some 49, op := Op.binOp BinOp.lss 3 (Operand.tmp 46) (Operand.tmp 48) 3, type := 4, pos := "law.go:99", after := #[{ on := 3, ground := Ground.data }, { on := 5, ground := Ground.data }, { on := 2, ground := Ground.guard }], guard := some (2, false) }) (v := ?_) rfl (by kernel_rfl) (by kernel_rfl) (by kernel_rfl) (fun _ _ _ h => h) (Or.inl ⟨by rfl, ?_⟩) (by assumption) ?_
  rotate_left
  · (intro w hSw; (try dsimp only at hSw); (try have hcs := hcells w hSw); (try go_split_ands); go_simp <;> with_reducible rfl)
  (try simp only [Act.put, List.setIfInBounds_toArray, List.set_cons_zero, List.set_cons_succ])
  refine wpAnyH_take (i := 7) (oi := { dst := some 50, op := Op.pick (Operand.tmp 45) (Operand.const (Value.bool true)) (Operand.tmp 49), type := 4, pos := "law.go:99", after := #[{ on := 2, ground := Ground.data }, { on := 6, ground := Ground.data }], guard := none }) (v := ?_) rfl (by kernel_rfl) (by kernel_rfl) (by kernel_rfl) (fun _ _ _ h => h) (Or.inl ⟨by rfl, ?_⟩) (by assumption) ?_
  rotate_left
  · (intro w hSw; (try dsimp only at hSw); (try have hcs := hcells w hSw); (try go_split_ands); go_simp <;> with_reducible rfl)
  (try simp only [Act.put, List.setIfInBounds_toArray, List.set_cons_zero, List.set_cons_succ])
  refine wpAnyH_take (i := 8) (oi := { dst := some 51, op := Op.move (Operand.tmp 50), type := 4, pos := "law.go:99", after := #[{ on := 7, ground := Ground.data }, { on := 2, ground := Ground.chain }], guard := none }) (v := ?_) rfl (by kernel_rfl) (by kernel_rfl) (by kernel_rfl) (fun _ _ _ h => h) (Or.inl ⟨by rfl, ?_⟩) (by assumption) ?_
  rotate_left
  · (intro w hSw; (try dsimp only at hSw); (try have hcs := hcells w hSw); (try go_split_ands); go_simp <;> with_reducible rfl)
  (try simp only [Act.put, List.setIfInBounds_toArray, List.set_cons_zero, List.set_cons_succ])
  refine wpAnyH_take (i := 9) (oi := { dst := some 52, op := Op.load 29 (Operand.tmp 6), type := 29, pos := "law.go:99", after := #[{ on := 8, ground := Ground.guard }], guard := some (8, false) }) (v := ?_) rfl (by kernel_rfl) (by kernel_rfl) (by kernel_rfl) (fun _ _ _ h => h) (Or.inl ⟨by rfl, ?_⟩) (by assumption) ?_
  rotate_left
  · (intro w hSw; (try dsimp only at hSw); (try have hcs := hcells w hSw); (try go_split_ands); go_simp <;> with_reducible rfl)
  (try simp only [Act.put, List.setIfInBounds_toArray, List.set_cons_zero, List.set_cons_succ])
  refine wpAnyH_take (i := 10) (oi := { dst := some 53, op := Op.move (Operand.tmp 7), type := 3, pos := "law.go:99", after := #[{ on := 8, ground := Ground.guard }], guard := some (8, false) }) (v := ?_) rfl (by kernel_rfl) (by kernel_rfl) (by kernel_rfl) (fun _ _ _ h => h) (Or.inl ⟨by rfl, ?_⟩) (by assumption) ?_
  rotate_left
  · (intro w hSw; (try dsimp only at hSw); (try have hcs := hcells w hSw); (try go_split_ands); go_simp <;> with_reducible rfl)
  (try simp only [Act.put, List.setIfInBounds_toArray, List.set_cons_zero, List.set_cons_succ])
  refine wpAnyH_take (i := 11) (oi := { dst := some 54, op := Op.move (Operand.tmp 1), type := 3, pos := "law.go:99", after := #[{ on := 8, ground := Ground.guard }], guard := some (8, false) }) (v := ?_) rfl (by kernel_rfl) (by kernel_rfl) (by kernel_rfl) (fun _ _ _ h => h) (Or.inl ⟨by rfl, ?_⟩) (by assumption) ?_
  rotate_left
  · (intro w hSw; (try dsimp only at hSw); (try have hcs := hcells w hSw); (try go_split_ands); go_simp <;> with_reducible rfl)
  (try simp only [Act.put, List.setIfInBounds_toArray, List.set_cons_zero, List.set_cons_succ])
  refine wpAnyH_take (i := 12) (oi := { dst := some 55, op := Op.binOp BinOp.add 3 (Operand.tmp 53) (Operand.tmp 54) 3, type := 3, pos := "law.go:99", after := #[{ on := 10, ground := Ground.data }, { on := 11, ground := Ground.data }, { on := 8, ground := Ground.guard }], guard := some (8, false) }) (v := ?_) rfl (by kernel_rfl) (by kernel_rfl) (by kernel_rfl) (fun _ _ _ h => h) (Or.inl ⟨by rfl, ?_⟩) (by assumption) ?_
  rotate_left
  · (intro w hSw; (try dsimp only at hSw); (try have hcs := hcells w hSw); (try go_split_ands); go_simp <;> with_reducible rfl)
  (try simp only [Act.put, List.setIfInBounds_toArray, List.set_cons_zero, List.set_cons_succ])
  refine wpAnyH_take (i := 15) (oi := { dst := some 58, op := Op.move (Operand.tmp 0), type := 3, pos := "law.go:99", after := #[{ on := 8, ground := Ground.guard }], guard := some (8, false) }) (v := ?_) rfl (by kernel_rfl) (by kernel_rfl) (by kernel_rfl) (fun _ _ _ h => h) (Or.inl ⟨by rfl, ?_⟩) (by assumption) ?_
  rotate_left
  · (intro w hSw; (try dsimp only at hSw); (try have hcs := hcells w hSw); (try go_split_ands); go_simp <;> with_reducible rfl)
  (try simp only [Act.put, List.setIfInBounds_toArray, List.set_cons_zero, List.set_cons_succ])
  refine wpAnyH_ready (rs := [13]) (by kernel_rfl) (by simp) ?_
  refine AllReadyH.cons (o := { dst := some 56, op := Op.call { callee := Callee.value (Operand.func 14), args := #[Operand.tmp 55], argTypes := #[3] }, type := 29, pos := "law.go:99", after := #[{ on := 12, ground := Ground.data }, { on := 8, ground := Ground.chain }, { on := 8, ground := Ground.guard }], guard := some (8, false) }) rfl (fun K hK => ?_) ?_
  · go_simp
    refine (CTT _).mono ?_
    rintro e w5 ⟨T, rfl, hT, hg5⟩
    obtain ⟨Ts, Ta, Tn, Tc, rfl⟩ := hT.shape
    (try go_wp2_with fail)
    refine hK.out _ _ (by (try dsimp only); exact hcl _ _ hHeld (by first | with_reducible assumption | with_reducible exact IsGr.refl _ | with_reducible exact (IsGr.refl _).alloc _ | with_reducible exact ((IsGr.refl _).alloc _).alloc _ | assumption)) (fun hHeld2 => ?_)
    clear hK K hHeld
    have hHeld := hHeld2
    clear hHeld2
    (try simp only [Act.put, List.setIfInBounds_toArray, List.set_cons_zero, List.set_cons_succ])
    refine wpAnyH_ready (rs := [14]) (by kernel_rfl) (by simp) ?_
    refine AllReadyH.cons (o := { dst := some 57, op := Op.call { callee := Callee.value (Operand.func 13), args := #[Operand.tmp 52, Operand.tmp 56], argTypes := #[29, 29] }, type := 29, pos := "law.go:99", after := #[{ on := 9, ground := Ground.data }, { on := 13, ground := Ground.data }, { on := 13, ground := Ground.chain }, { on := 8, ground := Ground.guard }], guard := some (8, false) }) rfl (fun K hK => ?_) ?_
    · go_simp
      refine (BigMul_any _ _ M (10 ^ (pE + fine).toNat) _ (HX.out.gr (hgr _ hHeld)) (hT.gr (by first | with_reducible assumption | with_reducible exact IsGr.refl _ | with_reducible exact (IsGr.refl _).alloc _ | with_reducible exact ((IsGr.refl _).alloc _).alloc _ | assumption)) s3 s2).mono ?_
      rintro e w6 ⟨N, rfl, hN, hg6⟩
      rw [HMT.out] at hN
      obtain ⟨Ns, Na, Nn, Nc, rfl⟩ := hN.shape
      (try go_wp2_with fail)
      refine hK.out _ _ (by (try dsimp only); exact hcl _ _ hHeld (by first | with_reducible assumption | with_reducible exact IsGr.refl _ | with_reducible exact (IsGr.refl _).alloc _ | with_reducible exact ((IsGr.refl _).alloc _).alloc _ | assumption)) (fun hHeld2 => ?_)
      clear hK K hHeld
      have hHeld := hHeld2
      clear hHeld2
      (try simp only [Act.put, List.setIfInBounds_toArray, List.set_cons_zero, List.set_cons_succ])
      refine wpAnyH_ready (rs := [16]) (by kernel_rfl) (by simp) ?_
      refine AllReadyH.cons (o := { dst := some 59, op := Op.call { callee := Callee.value (Operand.func 12), args := #[Operand.tmp 58], argTypes := #[3] }, type := 29, pos := "law.go:99", after := #[{ on := 15, ground := Ground.data }, { on := 14, ground := Ground.chain }, { on := 8, ground := Ground.guard }], guard := some (8, false) }) rfl (fun K hK => ?_) ?_
      · go_simp
        refine (CO _).mono ?_
        rintro e w7 ⟨O, rfl, hO, hg7⟩
        obtain ⟨Os, Oa, On, Oc, rfl⟩ := hO.shape
        (try go_wp2_with fail)
        refine hK.out _ _ (by (try dsimp only); exact hcl _ _ hHeld (by first | with_reducible assumption | with_reducible exact IsGr.refl _ | with_reducible exact (IsGr.refl _).alloc _ | with_reducible exact ((IsGr.refl _).alloc _).alloc _ | assumption)) (fun hHeld2 => ?_)
        clear hK K hHeld
        have hHeld := hHeld2
        clear hHeld2
        (try simp only [Act.put, List.setIfInBounds_toArray, List.set_cons_zero, List.set_cons_succ])
        refine wpAnyH_ready (rs := [17]) (by kernel_rfl) (by simp) ?_
        refine AllReadyH.cons (o := { dst := some 60, op := Op.call { callee := Callee.value (Operand.func 15), args := #[Operand.tmp 57, Operand.tmp 59], argTypes := #[29, 29] }, type := 3, pos := "law.go:99", after := #[{ on := 14, ground := Ground.data }, { on := 16, ground := Ground.data }, { on := 16, ground := Ground.chain }, { on := 8, ground := Ground.guard }], guard := some (8, false) }) rfl (fun K hK => ?_) ?_
        · go_simp
          refine (BigCmp_any _ _ n n _ (hN.gr (by first | with_reducible assumption | with_reducible exact IsGr.refl _ | with_reducible exact (IsGr.refl _).alloc _ | with_reducible exact ((IsGr.refl _).alloc _).alloc _ | assumption)) (hO.gr (by first | with_reducible assumption | with_reducible exact IsGr.refl _ | with_reducible exact (IsGr.refl _).alloc _ | with_reducible exact ((IsGr.refl _).alloc _).alloc _ | assumption)) s1 s1).mono ?_
          rintro e w8 ⟨rfl, hg8⟩
          (try go_wp2_with fail)
          refine hK.out _ _ (by (try dsimp only); exact hcl _ _ hHeld (by first | with_reducible assumption | with_reducible exact IsGr.refl _ | with_reducible exact (IsGr.refl _).alloc _ | with_reducible exact ((IsGr.refl _).alloc _).alloc _ | assumption)) (fun hHeld2 => ?_)
          clear hK K hHeld
          have hHeld := hHeld2
          clear hHeld2
          (try simp only [Act.put, List.setIfInBounds_toArray, List.set_cons_zero, List.set_cons_succ])
          refine wpAnyH_take (i := 18) (oi := { dst := some 61, op := Op.binOp BinOp.neq 3 (Operand.tmp 60) (Operand.const (Value.int IntKind.i64 0)) 3, type := 4, pos := "law.go:99", after := #[{ on := 17, ground := Ground.data }, { on := 8, ground := Ground.guard }], guard := some (8, false) }) (v := ?_) rfl (by kernel_rfl) (by kernel_rfl) (by kernel_rfl) (fun _ _ _ h => h) (Or.inl ⟨by rfl, ?_⟩) (by assumption) ?_
          rotate_left
          · (intro w hSw; (try dsimp only at hSw); (try have hcs := hcells w hSw); (try go_split_ands); go_simp <;> with_reducible rfl)
          (try simp only [Act.put, List.setIfInBounds_toArray, List.set_cons_zero, List.set_cons_succ])
          refine wpAnyH_take (i := 19) (oi := { dst := some 62, op := Op.pick (Operand.tmp 51) (Operand.const (Value.bool true)) (Operand.tmp 61), type := 4, pos := "law.go:99", after := #[{ on := 8, ground := Ground.data }, { on := 18, ground := Ground.data }], guard := none }) (v := ?_) rfl (by kernel_rfl) (by kernel_rfl) (by kernel_rfl) (fun _ _ _ h => h) (Or.inl ⟨by rfl, ?_⟩) (by assumption) ?_
          rotate_left
          · (intro w hSw; (try dsimp only at hSw); (try have hcs := hcells w hSw); (try go_split_ands); go_simp <;> with_reducible rfl)
          (try simp only [Act.put, List.setIfInBounds_toArray, List.set_cons_zero, List.set_cons_succ])
          refine wpAnyH_done (by kernel_rfl) ?_ _
          have hgq := hgr _ hHeld
          obtain ⟨wq, hwq⟩ : ∃ W, W = W := ⟨w, rfl⟩
          have HGW0 : Hid (IsGr w _) := HG1.out.trans hgq
          have HGW := HGW0
          clear hHeld hgr hin hcl hcells hgq c0 c1 HGW0 hwq wq hz
          go_wp2_with fail
          
          refine (CS _).mono ?_
          clear CS
          rintro e wS ⟨m, er, rfl, hsc, hgS⟩
          have HG : Hid (IsGr w wS) := HGW.out.trans hgS
          clear hgS
          by_cases hin : -1099511627775 ≤ n ∧ n ≤ 1099511627775
          · obtain ⟨rfl, rfl⟩ := hsc.ok HF.out HU.out (by unfold MxU; omega) (by unfold MxU; omega)
            have h1 : ¬ m < -1099511627775 := by omega
            have h2 : ¬ 1099511627775 < m := by omega
            clear hsc hin
            go_wp2_with fail
            refine (CA _ HG.out).mono ?_
            clear CA
            rintro e wF ⟨rfl, hgF⟩
            have HGF : Hid (IsGr w wF) := HG.out.trans hgF
            clear hgF
            go_wp2_with fail
            go_ret
            exact ⟨rfl, HGF.out⟩
          
          · obtain ⟨rfl, rfl⟩ := hsc.far HF.out HU.out (by unfold MxU; omega)
            by_cases h1 : n < -1099511627775
            · clear hsc hin
              go_wp2_with fail
              refine (CA _ HG.out).mono ?_
              clear CA
              rintro e wF ⟨rfl, hgF⟩
              have HGF : Hid (IsGr w wF) := HG.out.trans hgF
              clear hgF
              go_wp2_with fail
              go_ret
              exact ⟨rfl, HGF.out⟩
          
            · have h2 : 1099511627775 < n := by omega
              clear hsc hin
              go_wp2_with fail
              refine (CA _ HG.out).mono ?_
              clear CA
              rintro e wF ⟨rfl, hgF⟩
              have HGF : Hid (IsGr w wF) := HG.out.trans hgF
              clear hgF
              go_wp2_with fail
              go_ret
              exact ⟨rfl, HGF.out⟩
          
        exact AllReadyH.nil
      exact AllReadyH.nil
    exact AllReadyH.nil
  exact AllReadyH.nil

set_option maxRecDepth 20000 in set_option maxHeartbeats 2000000 in
theorem texts_pi (C : DecC) (n fine : Int) (hi : I64 n) (hj : I64 fine) (hf : 0 ≤ fine ∧ fine ≤ 9) (hn0 : n ≠ 0) (M : Int) (k : Nat) (d0 cL : Int) (hx : TxR n fine (strOfNums (textU n fine)) false 0 M k d0 cL) (hd : d0 ≠ 48) (hk : k = 0) (w : World) (HTB : TabW w) : Calls Tryd.prog 4 #[.int .i64 n, .int .i64 fine] w fun e w' => e = .returned (.bool true) ∧ IsGr w w' := by
  have CA := fun w' (hg : IsGr w w') => dawake_any C w' (HTB.gr hg)
  have CT := C.text n fine w HTB hi hj
  obtain ⟨s, hs⟩ : ∃ s, strOfNums (textU n fine) = s := ⟨_, rfl⟩
  rw [hs] at hx CT
  obtain ⟨sg, l1, dt, l2, hspl, hM, hk2⟩ := hx.num
  have CS := fun w => C.scale s fine w M (0 - (k : Nat)) (by have := hx.size; omega) hj ⟨_, _, _, _, _, _, _, hspl, hM, by rw [hk2]⟩
  have CR := fun w => RRight_any s w (by have := hx.size; omega)
  rw [hspl.right] at CR
  have CN := fun w => Number_any s w false sg l1 dt l2 [] 0 hspl hx.size (by simp)
  rw [← hM, hk2] at CN
  have hu := hx.unit
  have hpos : 0 < s.size := by have := hx.at0; omega
  have hA := hx.at0.2.1
  have hat0 := bts_at hpos
  have hatA := bts_at hA
  have hatL := bts_at (show s.size - 1 < s.size by omega)
  rw [hx.at0.1] at hatA
  rw [hx.last.1] at hatL
  have hdr := dg_range hx.at0.2.2
  have HF : Hid (0 ≤ fine ∧ fine ≤ 9) := hf
  have HU : Hid (UnitIs M (0 - (k : Nat) + fine) n) := Or.inl ⟨by omega, by rw [show (0 - ((k : Nat) : Int) + fine).toNat = fine.toNat - k by omega]; exact hu.1⟩
  have CTT := fun w => Ten_any (0 - (k : Nat) + fine) w (by omega)
  have hnr : -9223372036854775808 ≤ n ∧ n < 9223372036854775808 := hi
  have CO := fun w => BigOf_any n hnr.1 hnr.2 w
  have s1 : Sm n := by unfold Sm; omega
  have s2 := ten_sm (0 - ((k : Nat) : Int) + fine).toNat (by omega)
  have s3 : Sm M := by
    rw [hM]
    have hb := dvl_bound (hspl.d1.app hspl.d2)
    have hl : (l1 ++ l2).length ≤ 60 := by
      have h1 := congrArg List.length hspl.eq
      rw [bts_len] at h1
      simp only [List.length_append] at h1 ⊢
      have := hx.size
      omega
    have h3 := sgI_bound (neg := false) hb hl
    have h4 : (10 : Int) ^ 60 ≤ 4149515568880992958512407863691161151012446232242436899995657329690652811412908146399707048947103794288197886611300789182395151075411775307886874834113963687061181803401509523685376 := by decide +kernel
    unfold Sm; omega
  have HMT : Hid (M * 10 ^ (0 - ((k : Nat) : Int) + fine).toNat = n) := by
    show _ = _
    rw [show (0 - ((k : Nat) : Int) + fine).toNat = fine.toNat - k by omega]
    exact hu.1.symm
  have hz : (cmpI n n != 0) = false := by unfold cmpI; simp
  obtain ⟨cA, hcA⟩ : ∃ c : Int, ((s[0]'hA).toNat : Int) = c := ⟨_, rfl⟩
  rw [hcA] at hatA
  obtain rfl := hatA
  have q43 : (d0 == 43) = false := by simp; omega
  have q46 : (d0 == 46) = false := by simp; omega
  have q45 : (d0 == 45) = false := by simp; omega
  have e0 : IntKind.i64.wrap ((s.size : Int) - 1) = ((s.size - 1 : Nat) : Int) := by rw [IntKind.wrap_i64]; have := hx.size; omega
  obtain ⟨L, hL⟩ : ∃ L, s.size - 1 = L := ⟨_, rfl⟩
  have hLs : L < s.size := by omega
  have hLc : ((s[L]'hLs).toNat : Int) = cL := by simp only [hL] at hatL; exact hatL.symm
  rw [hL] at e0
  have hLs' : (L : Int) < s.size := by omega
  have hL0 : (0 : Int) ≤ L := by omega
  have qL46 : (cL == 46) = false := by simpa using hx.last.2.1
  have hpos' : (0 : Int) < s.size := by omega
  have hA' : (0 : Int) < s.size := by omega
  have qn : (n == 0) = false := by simpa using hn0
  have q48 : (d0 == 48) = false := by simpa using hd
  obtain rfl := hk
  have hp1 : ¬ ((0 : Int) - (0 : Nat) < 0) := by omega
  obtain ⟨pE, hpE⟩ : ∃ pE : Int, (0 : Int) - ((0 : Nat) : Int) = pE := ⟨_, rfl⟩
  have hpf : decide (pE < -fine) = false := decide_eq_false (by omega)
  have hpd : decide (0 < pE) = false := decide_eq_false (by omega)
  have efn : IntKind.i64.wrap (-fine) = -fine := by rw [IntKind.wrap_i64]; omega
  have epf : IntKind.i64.wrap (pE + fine) = pE + fine := by rw [IntKind.wrap_i64]; omega
  have hf0 : ¬ fine < 0 := by omega
  have hf9 : ¬ 9 < fine := by omega
  rw [hpE] at CS HU CTT s2 HMT hp1 CN
  clear hs hx hspl hM hk2 hu hat0 hatL hdr hf hj hi hn0 C HTB hL hpE hnr
  go_enter Tryd.func4, Tryd.ntmps4
  go_wp2_with fail
  refine CT.mono ?_
  clear CT
  rintro e w1 ⟨rfl, hg1⟩
  go_wp2_with fail
  refine (CR _).mono ?_
  clear CR
  rintro e w2 ⟨rfl, hg2⟩
  obtain rfl := hg2.symm
  go_wp2_with fail
  refine (CN _).mono ?_
  clear CN
  rintro e w3 ⟨v, rfl, hv, hg3⟩
  obtain ⟨vs, va, vn, vc, rfl⟩ := hv.shape
  have hX := BgB.new hv
  obtain ⟨v1s, v1a, v1n, v1c, hxb, hxB⟩ := hX
  obtain ⟨c0, c1, f0, f1⟩ := block_two hxb
  have HG1 : Hid (IsGr w (w3.alloc (.cells #[.bool vs, .slice va vn vc] 29))) := (hg1.trans hg3).trans ((IsGr.refl w3).alloc _)
  have HX : Hid (IsBig (w3.alloc (.cells #[.bool vs, .slice va vn vc] 29)) (.agg #[.bool v1s, .slice v1a v1n v1c]) M) := hxB
  clear hv hg1 hg3 hxb hxB
  go_upto_region 7 with fail
  obtain ⟨PX, hPX⟩ : ∃ P, w3.heap.size = P := ⟨_, rfl⟩
  obtain ⟨w4, hw4⟩ : ∃ W, w3.alloc (.cells #[.bool vs, .slice va vn vc] 29) = W := ⟨_, rfl⟩
  rw [hw4] at HG1 HX c0 c1
  rw [hPX] at c0 c1
  rw [hPX, hw4]
  clear hPX hw4 f0 f1
  obtain ⟨C, hin, hcl, hcells, hgr⟩ : ∃ C : World → Prop, (∀ w', IsGr w4 w' → C w') ∧ (∀ u u', C u → IsGr u u' → C u') ∧ (∀ w', C w' → (w'.cell? ⟨PX, 0, none⟩ = some (.bool v1s)) ∧ (w'.cell? ⟨PX, 1, none⟩ = some (.slice v1a v1n v1c))) ∧ (∀ w', C w' → IsGr w4 w') := ⟨fun w' => IsGr w4 w', fun _ h => h, fun _ _ h k => h.trans k, fun w' hg => ⟨cellk c0 hg, cellk c1 hg⟩, fun _ h => h⟩
  refine wp_region_held_drew (S := C) (by kernel_rfl) (by (try dsimp only); exact hin _ (by with_reducible repeat (first | exact IsGr.refl _ | refine IsGr.gr ?_ _ _ | refine IsGr.alloc ?_ _ | refine IsGr.drew ?_ | refine IsGr.drewN ?_ _))) (fun hHeld => ?_)
  refine wpAnyH_take (i := 0) (oi := { dst := some 43, op := Op.move (Operand.tmp 7), type := 3, pos := "law.go:99", after := #[], guard := none }) (v := ?_) rfl (by kernel_rfl) (by kernel_rfl) (by kernel_rfl) (fun _ _ _ h => h) (Or.inl ⟨by rfl, ?_⟩) (by assumption) ?_
  rotate_left
  · (intro w hSw; (try dsimp only at hSw); (try have hcs := hcells w hSw); (try go_split_ands); go_simp <;> with_reducible rfl)
  (try simp only [Act.put, List.setIfInBounds_toArray, List.set_cons_zero, List.set_cons_succ])
  refine wpAnyH_take (i := 1) (oi := { dst := some 44, op := Op.binOp BinOp.gtr 3 (Operand.tmp 43) (Operand.const (Value.int IntKind.i64 0)) 3, type := 4, pos := "law.go:99", after := #[{ on := 0, ground := Ground.data }], guard := none }) (v := ?_) rfl (by kernel_rfl) (by kernel_rfl) (by kernel_rfl) (fun _ _ _ h => h) (Or.inl ⟨by rfl, ?_⟩) (by assumption) ?_
  rotate_left
  · (intro w hSw; (try dsimp only at hSw); (try have hcs := hcells w hSw); (try go_split_ands); go_simp <;> with_reducible rfl)
  (try simp only [Act.put, List.setIfInBounds_toArray, List.set_cons_zero, List.set_cons_succ])
  refine wpAnyH_take (i := 2) (oi := { dst := some 45, op := Op.move (Operand.tmp 44), type := 4, pos := "law.go:99", after := #[{ on := 1, ground := Ground.data }], guard := none }) (v := ?_) rfl (by kernel_rfl) (by kernel_rfl) (by kernel_rfl) (fun _ _ _ h => h) (Or.inl ⟨by rfl, ?_⟩) (by assumption) ?_
  rotate_left
  · (intro w hSw; (try dsimp only at hSw); (try have hcs := hcells w hSw); (try go_split_ands); go_simp <;> with_reducible rfl)
  (try simp only [Act.put, List.setIfInBounds_toArray, List.set_cons_zero, List.set_cons_succ])
  refine wpAnyH_take (i := 3) (oi := { dst := some 46, op := Op.move (Operand.tmp 7), type := 3, pos := "law.go:99", after := #[{ on := 2, ground := Ground.guard }], guard := some (2, false) }) (v := ?_) rfl (by kernel_rfl) (by kernel_rfl) (by kernel_rfl) (fun _ _ _ h => h) (Or.inl ⟨by rfl, ?_⟩) (by assumption) ?_
  rotate_left
  · (intro w hSw; (try dsimp only at hSw); (try have hcs := hcells w hSw); (try go_split_ands); go_simp <;> with_reducible rfl)
  (try simp only [Act.put, List.setIfInBounds_toArray, List.set_cons_zero, List.set_cons_succ])
  refine wpAnyH_take (i := 4) (oi := { dst := some 47, op := Op.move (Operand.tmp 1), type := 3, pos := "law.go:99", after := #[{ on := 2, ground := Ground.guard }], guard := some (2, false) }) (v := ?_) rfl (by kernel_rfl) (by kernel_rfl) (by kernel_rfl) (fun _ _ _ h => h) (Or.inl ⟨by rfl, ?_⟩) (by assumption) ?_
  rotate_left
  · (intro w hSw; (try dsimp only at hSw); (try have hcs := hcells w hSw); (try go_split_ands); go_simp <;> with_reducible rfl)
  (try simp only [Act.put, List.setIfInBounds_toArray, List.set_cons_zero, List.set_cons_succ])
  refine wpAnyH_take (i := 5) (oi := { dst := some 48, op := Op.unOp UnOp.neg 3 (Operand.tmp 47), type := 3, pos := "law.go:99", after := #[{ on := 4, ground := Ground.data }, { on := 2, ground := Ground.guard }], guard := some (2, false) }) (v := ?_) rfl (by kernel_rfl) (by kernel_rfl) (by kernel_rfl) (fun _ _ _ h => h) (Or.inl ⟨by rfl, ?_⟩) (by assumption) ?_
  rotate_left
  · (intro w hSw; (try dsimp only at hSw); (try have hcs := hcells w hSw); (try go_split_ands); go_simp <;> with_reducible rfl)
  (try simp only [Act.put, List.setIfInBounds_toArray, List.set_cons_zero, List.set_cons_succ])
  refine wpAnyH_take (i := 6) (oi := { dst := some 49, op := Op.binOp BinOp.lss 3 (Operand.tmp 46) (Operand.tmp 48) 3, type := 4, pos := "law.go:99", after := #[{ on := 3, ground := Ground.data }, { on := 5, ground := Ground.data }, { on := 2, ground := Ground.guard }], guard := some (2, false) }) (v := ?_) rfl (by kernel_rfl) (by kernel_rfl) (by kernel_rfl) (fun _ _ _ h => h) (Or.inl ⟨by rfl, ?_⟩) (by assumption) ?_
  rotate_left
  · (intro w hSw; (try dsimp only at hSw); (try have hcs := hcells w hSw); (try go_split_ands); go_simp <;> with_reducible rfl)
  (try simp only [Act.put, List.setIfInBounds_toArray, List.set_cons_zero, List.set_cons_succ])
  refine wpAnyH_take (i := 7) (oi := { dst := some 50, op := Op.pick (Operand.tmp 45) (Operand.const (Value.bool true)) (Operand.tmp 49), type := 4, pos := "law.go:99", after := #[{ on := 2, ground := Ground.data }, { on := 6, ground := Ground.data }], guard := none }) (v := ?_) rfl (by kernel_rfl) (by kernel_rfl) (by kernel_rfl) (fun _ _ _ h => h) (Or.inl ⟨by rfl, ?_⟩) (by assumption) ?_
  rotate_left
  · (intro w hSw; (try dsimp only at hSw); (try have hcs := hcells w hSw); (try go_split_ands); go_simp <;> with_reducible rfl)
  (try simp only [Act.put, List.setIfInBounds_toArray, List.set_cons_zero, List.set_cons_succ])
  refine wpAnyH_take (i := 8) (oi := { dst := some 51, op := Op.move (Operand.tmp 50), type := 4, pos := "law.go:99", after := #[{ on := 7, ground := Ground.data }, { on := 2, ground := Ground.chain }], guard := none }) (v := ?_) rfl (by kernel_rfl) (by kernel_rfl) (by kernel_rfl) (fun _ _ _ h => h) (Or.inl ⟨by rfl, ?_⟩) (by assumption) ?_
  rotate_left
  · (intro w hSw; (try dsimp only at hSw); (try have hcs := hcells w hSw); (try go_split_ands); go_simp <;> with_reducible rfl)
  (try simp only [Act.put, List.setIfInBounds_toArray, List.set_cons_zero, List.set_cons_succ])
  refine wpAnyH_take (i := 9) (oi := { dst := some 52, op := Op.load 29 (Operand.tmp 6), type := 29, pos := "law.go:99", after := #[{ on := 8, ground := Ground.guard }], guard := some (8, false) }) (v := ?_) rfl (by kernel_rfl) (by kernel_rfl) (by kernel_rfl) (fun _ _ _ h => h) (Or.inl ⟨by rfl, ?_⟩) (by assumption) ?_
  rotate_left
  · (intro w hSw; (try dsimp only at hSw); (try have hcs := hcells w hSw); (try go_split_ands); go_simp <;> with_reducible rfl)
  (try simp only [Act.put, List.setIfInBounds_toArray, List.set_cons_zero, List.set_cons_succ])
  refine wpAnyH_take (i := 10) (oi := { dst := some 53, op := Op.move (Operand.tmp 7), type := 3, pos := "law.go:99", after := #[{ on := 8, ground := Ground.guard }], guard := some (8, false) }) (v := ?_) rfl (by kernel_rfl) (by kernel_rfl) (by kernel_rfl) (fun _ _ _ h => h) (Or.inl ⟨by rfl, ?_⟩) (by assumption) ?_
  rotate_left
  · (intro w hSw; (try dsimp only at hSw); (try have hcs := hcells w hSw); (try go_split_ands); go_simp <;> with_reducible rfl)
  (try simp only [Act.put, List.setIfInBounds_toArray, List.set_cons_zero, List.set_cons_succ])
  refine wpAnyH_take (i := 11) (oi := { dst := some 54, op := Op.move (Operand.tmp 1), type := 3, pos := "law.go:99", after := #[{ on := 8, ground := Ground.guard }], guard := some (8, false) }) (v := ?_) rfl (by kernel_rfl) (by kernel_rfl) (by kernel_rfl) (fun _ _ _ h => h) (Or.inl ⟨by rfl, ?_⟩) (by assumption) ?_
  rotate_left
  · (intro w hSw; (try dsimp only at hSw); (try have hcs := hcells w hSw); (try go_split_ands); go_simp <;> with_reducible rfl)
  (try simp only [Act.put, List.setIfInBounds_toArray, List.set_cons_zero, List.set_cons_succ])
  refine wpAnyH_take (i := 12) (oi := { dst := some 55, op := Op.binOp BinOp.add 3 (Operand.tmp 53) (Operand.tmp 54) 3, type := 3, pos := "law.go:99", after := #[{ on := 10, ground := Ground.data }, { on := 11, ground := Ground.data }, { on := 8, ground := Ground.guard }], guard := some (8, false) }) (v := ?_) rfl (by kernel_rfl) (by kernel_rfl) (by kernel_rfl) (fun _ _ _ h => h) (Or.inl ⟨by rfl, ?_⟩) (by assumption) ?_
  rotate_left
  · (intro w hSw; (try dsimp only at hSw); (try have hcs := hcells w hSw); (try go_split_ands); go_simp <;> with_reducible rfl)
  (try simp only [Act.put, List.setIfInBounds_toArray, List.set_cons_zero, List.set_cons_succ])
  refine wpAnyH_take (i := 15) (oi := { dst := some 58, op := Op.move (Operand.tmp 0), type := 3, pos := "law.go:99", after := #[{ on := 8, ground := Ground.guard }], guard := some (8, false) }) (v := ?_) rfl (by kernel_rfl) (by kernel_rfl) (by kernel_rfl) (fun _ _ _ h => h) (Or.inl ⟨by rfl, ?_⟩) (by assumption) ?_
  rotate_left
  · (intro w hSw; (try dsimp only at hSw); (try have hcs := hcells w hSw); (try go_split_ands); go_simp <;> with_reducible rfl)
  (try simp only [Act.put, List.setIfInBounds_toArray, List.set_cons_zero, List.set_cons_succ])
  refine wpAnyH_ready (rs := [13]) (by kernel_rfl) (by simp) ?_
  refine AllReadyH.cons (o := { dst := some 56, op := Op.call { callee := Callee.value (Operand.func 14), args := #[Operand.tmp 55], argTypes := #[3] }, type := 29, pos := "law.go:99", after := #[{ on := 12, ground := Ground.data }, { on := 8, ground := Ground.chain }, { on := 8, ground := Ground.guard }], guard := some (8, false) }) rfl (fun K hK => ?_) ?_
  · go_simp
    refine (CTT _).mono ?_
    rintro e w5 ⟨T, rfl, hT, hg5⟩
    obtain ⟨Ts, Ta, Tn, Tc, rfl⟩ := hT.shape
    (try go_wp2_with fail)
    refine hK.out _ _ (by (try dsimp only); exact hcl _ _ hHeld (by first | with_reducible assumption | with_reducible exact IsGr.refl _ | with_reducible exact (IsGr.refl _).alloc _ | with_reducible exact ((IsGr.refl _).alloc _).alloc _ | assumption)) (fun hHeld2 => ?_)
    clear hK K hHeld
    have hHeld := hHeld2
    clear hHeld2
    (try simp only [Act.put, List.setIfInBounds_toArray, List.set_cons_zero, List.set_cons_succ])
    refine wpAnyH_ready (rs := [14]) (by kernel_rfl) (by simp) ?_
    refine AllReadyH.cons (o := { dst := some 57, op := Op.call { callee := Callee.value (Operand.func 13), args := #[Operand.tmp 52, Operand.tmp 56], argTypes := #[29, 29] }, type := 29, pos := "law.go:99", after := #[{ on := 9, ground := Ground.data }, { on := 13, ground := Ground.data }, { on := 13, ground := Ground.chain }, { on := 8, ground := Ground.guard }], guard := some (8, false) }) rfl (fun K hK => ?_) ?_
    · go_simp
      refine (BigMul_any _ _ M (10 ^ (pE + fine).toNat) _ (HX.out.gr (hgr _ hHeld)) (hT.gr (by first | with_reducible assumption | with_reducible exact IsGr.refl _ | with_reducible exact (IsGr.refl _).alloc _ | with_reducible exact ((IsGr.refl _).alloc _).alloc _ | assumption)) s3 s2).mono ?_
      rintro e w6 ⟨N, rfl, hN, hg6⟩
      rw [HMT.out] at hN
      obtain ⟨Ns, Na, Nn, Nc, rfl⟩ := hN.shape
      (try go_wp2_with fail)
      refine hK.out _ _ (by (try dsimp only); exact hcl _ _ hHeld (by first | with_reducible assumption | with_reducible exact IsGr.refl _ | with_reducible exact (IsGr.refl _).alloc _ | with_reducible exact ((IsGr.refl _).alloc _).alloc _ | assumption)) (fun hHeld2 => ?_)
      clear hK K hHeld
      have hHeld := hHeld2
      clear hHeld2
      (try simp only [Act.put, List.setIfInBounds_toArray, List.set_cons_zero, List.set_cons_succ])
      refine wpAnyH_ready (rs := [16]) (by kernel_rfl) (by simp) ?_
      refine AllReadyH.cons (o := { dst := some 59, op := Op.call { callee := Callee.value (Operand.func 12), args := #[Operand.tmp 58], argTypes := #[3] }, type := 29, pos := "law.go:99", after := #[{ on := 15, ground := Ground.data }, { on := 14, ground := Ground.chain }, { on := 8, ground := Ground.guard }], guard := some (8, false) }) rfl (fun K hK => ?_) ?_
      · go_simp
        refine (CO _).mono ?_
        rintro e w7 ⟨O, rfl, hO, hg7⟩
        obtain ⟨Os, Oa, On, Oc, rfl⟩ := hO.shape
        (try go_wp2_with fail)
        refine hK.out _ _ (by (try dsimp only); exact hcl _ _ hHeld (by first | with_reducible assumption | with_reducible exact IsGr.refl _ | with_reducible exact (IsGr.refl _).alloc _ | with_reducible exact ((IsGr.refl _).alloc _).alloc _ | assumption)) (fun hHeld2 => ?_)
        clear hK K hHeld
        have hHeld := hHeld2
        clear hHeld2
        (try simp only [Act.put, List.setIfInBounds_toArray, List.set_cons_zero, List.set_cons_succ])
        refine wpAnyH_ready (rs := [17]) (by kernel_rfl) (by simp) ?_
        refine AllReadyH.cons (o := { dst := some 60, op := Op.call { callee := Callee.value (Operand.func 15), args := #[Operand.tmp 57, Operand.tmp 59], argTypes := #[29, 29] }, type := 3, pos := "law.go:99", after := #[{ on := 14, ground := Ground.data }, { on := 16, ground := Ground.data }, { on := 16, ground := Ground.chain }, { on := 8, ground := Ground.guard }], guard := some (8, false) }) rfl (fun K hK => ?_) ?_
        · go_simp
          refine (BigCmp_any _ _ n n _ (hN.gr (by first | with_reducible assumption | with_reducible exact IsGr.refl _ | with_reducible exact (IsGr.refl _).alloc _ | with_reducible exact ((IsGr.refl _).alloc _).alloc _ | assumption)) (hO.gr (by first | with_reducible assumption | with_reducible exact IsGr.refl _ | with_reducible exact (IsGr.refl _).alloc _ | with_reducible exact ((IsGr.refl _).alloc _).alloc _ | assumption)) s1 s1).mono ?_
          rintro e w8 ⟨rfl, hg8⟩
          (try go_wp2_with fail)
          refine hK.out _ _ (by (try dsimp only); exact hcl _ _ hHeld (by first | with_reducible assumption | with_reducible exact IsGr.refl _ | with_reducible exact (IsGr.refl _).alloc _ | with_reducible exact ((IsGr.refl _).alloc _).alloc _ | assumption)) (fun hHeld2 => ?_)
          clear hK K hHeld
          have hHeld := hHeld2
          clear hHeld2
          (try simp only [Act.put, List.setIfInBounds_toArray, List.set_cons_zero, List.set_cons_succ])
          refine wpAnyH_take (i := 18) (oi := { dst := some 61, op := Op.binOp BinOp.neq 3 (Operand.tmp 60) (Operand.const (Value.int IntKind.i64 0)) 3, type := 4, pos := "law.go:99", after := #[{ on := 17, ground := Ground.data }, { on := 8, ground := Ground.guard }], guard := some (8, false) }) (v := ?_) rfl (by kernel_rfl) (by kernel_rfl) (by kernel_rfl) (fun _ _ _ h => h) (Or.inl ⟨by rfl, ?_⟩) (by assumption) ?_
          rotate_left
          · (intro w hSw; (try dsimp only at hSw); (try have hcs := hcells w hSw); (try go_split_ands); go_simp <;> with_reducible rfl)
          (try simp only [Act.put, List.setIfInBounds_toArray, List.set_cons_zero, List.set_cons_succ])
          refine wpAnyH_take (i := 19) (oi := { dst := some 62, op := Op.pick (Operand.tmp 51) (Operand.const (Value.bool true)) (Operand.tmp 61), type := 4, pos := "law.go:99", after := #[{ on := 8, ground := Ground.data }, { on := 18, ground := Ground.data }], guard := none }) (v := ?_) rfl (by kernel_rfl) (by kernel_rfl) (by kernel_rfl) (fun _ _ _ h => h) (Or.inl ⟨by rfl, ?_⟩) (by assumption) ?_
          rotate_left
          · (intro w hSw; (try dsimp only at hSw); (try have hcs := hcells w hSw); (try go_split_ands); go_simp <;> with_reducible rfl)
          (try simp only [Act.put, List.setIfInBounds_toArray, List.set_cons_zero, List.set_cons_succ])
          refine wpAnyH_done (by kernel_rfl) ?_ _
          have hgq := hgr _ hHeld
          obtain ⟨wq, hwq⟩ : ∃ W, W = W := ⟨w, rfl⟩
          have HGW0 : Hid (IsGr w _) := HG1.out.trans hgq
          have HGW := HGW0
          clear hHeld hgr hin hcl hcells hgq c0 c1 HGW0 hwq wq hz
          go_wp2_with fail
          
          refine (CS _).mono ?_
          clear CS
          rintro e wS ⟨m, er, rfl, hsc, hgS⟩
          have HG : Hid (IsGr w wS) := HGW.out.trans hgS
          clear hgS
          by_cases hin : -1099511627775 ≤ n ∧ n ≤ 1099511627775
          · obtain ⟨rfl, rfl⟩ := hsc.ok HF.out HU.out (by unfold MxU; omega) (by unfold MxU; omega)
            have h1 : ¬ m < -1099511627775 := by omega
            have h2 : ¬ 1099511627775 < m := by omega
            clear hsc hin
            go_wp2_with fail
            refine (CA _ HG.out).mono ?_
            clear CA
            rintro e wF ⟨rfl, hgF⟩
            have HGF : Hid (IsGr w wF) := HG.out.trans hgF
            clear hgF
            go_wp2_with fail
            go_ret
            exact ⟨rfl, HGF.out⟩
          
          · obtain ⟨rfl, rfl⟩ := hsc.far HF.out HU.out (by unfold MxU; omega)
            by_cases h1 : n < -1099511627775
            · clear hsc hin
              go_wp2_with fail
              refine (CA _ HG.out).mono ?_
              clear CA
              rintro e wF ⟨rfl, hgF⟩
              have HGF : Hid (IsGr w wF) := HG.out.trans hgF
              clear hgF
              go_wp2_with fail
              go_ret
              exact ⟨rfl, HGF.out⟩
          
            · have h2 : 1099511627775 < n := by omega
              clear hsc hin
              go_wp2_with fail
              refine (CA _ HG.out).mono ?_
              clear CA
              rintro e wF ⟨rfl, hgF⟩
              have HGF : Hid (IsGr w wF) := HG.out.trans hgF
              clear hgF
              go_wp2_with fail
              go_ret
              exact ⟨rfl, HGF.out⟩
          
        exact AllReadyH.nil
      exact AllReadyH.nil
    exact AllReadyH.nil
  exact AllReadyH.nil

set_option maxRecDepth 20000 in set_option maxHeartbeats 2000000 in
theorem texts_pf (C : DecC) (n fine : Int) (hi : I64 n) (hj : I64 fine) (hf : 0 ≤ fine ∧ fine ≤ 9) (hn0 : n ≠ 0) (M : Int) (k : Nat) (d0 cL : Int) (hx : TxR n fine (strOfNums (textU n fine)) false 0 M k d0 cL) (hd : d0 ≠ 48) (hk : 0 < k) (w : World) (HTB : TabW w) : Calls Tryd.prog 4 #[.int .i64 n, .int .i64 fine] w fun e w' => e = .returned (.bool true) ∧ IsGr w w' := by
  have CA := fun w' (hg : IsGr w w') => dawake_any C w' (HTB.gr hg)
  have CT := C.text n fine w HTB hi hj
  obtain ⟨s, hs⟩ : ∃ s, strOfNums (textU n fine) = s := ⟨_, rfl⟩
  rw [hs] at hx CT
  obtain ⟨sg, l1, dt, l2, hspl, hM, hk2⟩ := hx.num
  have CS := fun w => C.scale s fine w M (0 - (k : Nat)) (by have := hx.size; omega) hj ⟨_, _, _, _, _, _, _, hspl, hM, by rw [hk2]⟩
  have CR := fun w => RRight_any s w (by have := hx.size; omega)
  rw [hspl.right] at CR
  have CN := fun w => Number_any s w false sg l1 dt l2 [] 0 hspl hx.size (by simp)
  rw [← hM, hk2] at CN
  have hu := hx.unit
  have hpos : 0 < s.size := by have := hx.at0; omega
  have hA := hx.at0.2.1
  have hat0 := bts_at hpos
  have hatA := bts_at hA
  have hatL := bts_at (show s.size - 1 < s.size by omega)
  rw [hx.at0.1] at hatA
  rw [hx.last.1] at hatL
  have hdr := dg_range hx.at0.2.2
  have HF : Hid (0 ≤ fine ∧ fine ≤ 9) := hf
  have HU : Hid (UnitIs M (0 - (k : Nat) + fine) n) := Or.inl ⟨by omega, by rw [show (0 - ((k : Nat) : Int) + fine).toNat = fine.toNat - k by omega]; exact hu.1⟩
  have CTT := fun w => Ten_any (0 - (k : Nat) + fine) w (by omega)
  have hnr : -9223372036854775808 ≤ n ∧ n < 9223372036854775808 := hi
  have CO := fun w => BigOf_any n hnr.1 hnr.2 w
  have s1 : Sm n := by unfold Sm; omega
  have s2 := ten_sm (0 - ((k : Nat) : Int) + fine).toNat (by omega)
  have s3 : Sm M := by
    rw [hM]
    have hb := dvl_bound (hspl.d1.app hspl.d2)
    have hl : (l1 ++ l2).length ≤ 60 := by
      have h1 := congrArg List.length hspl.eq
      rw [bts_len] at h1
      simp only [List.length_append] at h1 ⊢
      have := hx.size
      omega
    have h3 := sgI_bound (neg := false) hb hl
    have h4 : (10 : Int) ^ 60 ≤ 4149515568880992958512407863691161151012446232242436899995657329690652811412908146399707048947103794288197886611300789182395151075411775307886874834113963687061181803401509523685376 := by decide +kernel
    unfold Sm; omega
  have HMT : Hid (M * 10 ^ (0 - ((k : Nat) : Int) + fine).toNat = n) := by
    show _ = _
    rw [show (0 - ((k : Nat) : Int) + fine).toNat = fine.toNat - k by omega]
    exact hu.1.symm
  have hz : (cmpI n n != 0) = false := by unfold cmpI; simp
  obtain ⟨cA, hcA⟩ : ∃ c : Int, ((s[0]'hA).toNat : Int) = c := ⟨_, rfl⟩
  rw [hcA] at hatA
  obtain rfl := hatA
  have q43 : (d0 == 43) = false := by simp; omega
  have q46 : (d0 == 46) = false := by simp; omega
  have q45 : (d0 == 45) = false := by simp; omega
  have e0 : IntKind.i64.wrap ((s.size : Int) - 1) = ((s.size - 1 : Nat) : Int) := by rw [IntKind.wrap_i64]; have := hx.size; omega
  obtain ⟨L, hL⟩ : ∃ L, s.size - 1 = L := ⟨_, rfl⟩
  have hLs : L < s.size := by omega
  have hLc : ((s[L]'hLs).toNat : Int) = cL := by simp only [hL] at hatL; exact hatL.symm
  rw [hL] at e0
  have hLs' : (L : Int) < s.size := by omega
  have hL0 : (0 : Int) ≤ L := by omega
  have qL46 : (cL == 46) = false := by simpa using hx.last.2.1
  have hpos' : (0 : Int) < s.size := by omega
  have hA' : (0 : Int) < s.size := by omega
  have qn : (n == 0) = false := by simpa using hn0
  have q48 : (d0 == 48) = false := by simpa using hd
  have qL48 : (cL == 48) = false := by simpa using hx.last.2.2 hk
  have hp1 : (0 : Int) - (k : Nat) < 0 := by omega
  obtain ⟨pE, hpE⟩ : ∃ pE : Int, (0 : Int) - ((k : Nat) : Int) = pE := ⟨_, rfl⟩
  have hpf : decide (pE < -fine) = false := decide_eq_false (by omega)
  have hpd : decide (0 < pE) = false := decide_eq_false (by omega)
  have efn : IntKind.i64.wrap (-fine) = -fine := by rw [IntKind.wrap_i64]; omega
  have epf : IntKind.i64.wrap (pE + fine) = pE + fine := by rw [IntKind.wrap_i64]; omega
  have hf0 : ¬ fine < 0 := by omega
  have hf9 : ¬ 9 < fine := by omega
  rw [hpE] at CS HU CTT s2 HMT hp1 CN
  clear hs hx hspl hM hk2 hu hat0 hatL hdr hf hj hi hn0 C HTB hL hpE hnr
  go_enter Tryd.func4, Tryd.ntmps4
  go_wp2_with fail
  refine CT.mono ?_
  clear CT
  rintro e w1 ⟨rfl, hg1⟩
  go_wp2_with fail
  refine (CR _).mono ?_
  clear CR
  rintro e w2 ⟨rfl, hg2⟩
  obtain rfl := hg2.symm
  go_wp2_with fail
  refine (CN _).mono ?_
  clear CN
  rintro e w3 ⟨v, rfl, hv, hg3⟩
  obtain ⟨vs, va, vn, vc, rfl⟩ := hv.shape
  have hX := BgB.new hv
  obtain ⟨v1s, v1a, v1n, v1c, hxb, hxB⟩ := hX
  obtain ⟨c0, c1, f0, f1⟩ := block_two hxb
  have HG1 : Hid (IsGr w (w3.alloc (.cells #[.bool vs, .slice va vn vc] 29))) := (hg1.trans hg3).trans ((IsGr.refl w3).alloc _)
  have HX : Hid (IsBig (w3.alloc (.cells #[.bool vs, .slice va vn vc] 29)) (.agg #[.bool v1s, .slice v1a v1n v1c]) M) := hxB
  clear hv hg1 hg3 hxb hxB
  go_upto_region 7 with fail
  obtain ⟨PX, hPX⟩ : ∃ P, w3.heap.size = P := ⟨_, rfl⟩
  obtain ⟨w4, hw4⟩ : ∃ W, w3.alloc (.cells #[.bool vs, .slice va vn vc] 29) = W := ⟨_, rfl⟩
  rw [hw4] at HG1 HX c0 c1
  rw [hPX] at c0 c1
  rw [hPX, hw4]
  clear hPX hw4 f0 f1
  obtain ⟨C, hin, hcl, hcells, hgr⟩ : ∃ C : World → Prop, (∀ w', IsGr w4 w' → C w') ∧ (∀ u u', C u → IsGr u u' → C u') ∧ (∀ w', C w' → (w'.cell? ⟨PX, 0, none⟩ = some (.bool v1s)) ∧ (w'.cell? ⟨PX, 1, none⟩ = some (.slice v1a v1n v1c))) ∧ (∀ w', C w' → IsGr w4 w') := ⟨fun w' => IsGr w4 w', fun _ h => h, fun _ _ h k => h.trans k, fun w' hg => ⟨cellk c0 hg, cellk c1 hg⟩, fun _ h => h⟩
  refine wp_region_held_drew (S := C) (by kernel_rfl) (by (try dsimp only); exact hin _ (by with_reducible repeat (first | exact IsGr.refl _ | refine IsGr.gr ?_ _ _ | refine IsGr.alloc ?_ _ | refine IsGr.drew ?_ | refine IsGr.drewN ?_ _))) (fun hHeld => ?_)
  refine wpAnyH_take (i := 0) (oi := { dst := some 43, op := Op.move (Operand.tmp 7), type := 3, pos := "law.go:99", after := #[], guard := none }) (v := ?_) rfl (by kernel_rfl) (by kernel_rfl) (by kernel_rfl) (fun _ _ _ h => h) (Or.inl ⟨by rfl, ?_⟩) (by assumption) ?_
  rotate_left
  · (intro w hSw; (try dsimp only at hSw); (try have hcs := hcells w hSw); (try go_split_ands); go_simp <;> with_reducible rfl)
  (try simp only [Act.put, List.setIfInBounds_toArray, List.set_cons_zero, List.set_cons_succ])
  refine wpAnyH_take (i := 1) (oi := { dst := some 44, op := Op.binOp BinOp.gtr 3 (Operand.tmp 43) (Operand.const (Value.int IntKind.i64 0)) 3, type := 4, pos := "law.go:99", after := #[{ on := 0, ground := Ground.data }], guard := none }) (v := ?_) rfl (by kernel_rfl) (by kernel_rfl) (by kernel_rfl) (fun _ _ _ h => h) (Or.inl ⟨by rfl, ?_⟩) (by assumption) ?_
  rotate_left
  · (intro w hSw; (try dsimp only at hSw); (try have hcs := hcells w hSw); (try go_split_ands); go_simp <;> with_reducible rfl)
  (try simp only [Act.put, List.setIfInBounds_toArray, List.set_cons_zero, List.set_cons_succ])
  refine wpAnyH_take (i := 2) (oi := { dst := some 45, op := Op.move (Operand.tmp 44), type := 4, pos := "law.go:99", after := #[{ on := 1, ground := Ground.data }], guard := none }) (v := ?_) rfl (by kernel_rfl) (by kernel_rfl) (by kernel_rfl) (fun _ _ _ h => h) (Or.inl ⟨by rfl, ?_⟩) (by assumption) ?_
  rotate_left
  · (intro w hSw; (try dsimp only at hSw); (try have hcs := hcells w hSw); (try go_split_ands); go_simp <;> with_reducible rfl)
  (try simp only [Act.put, List.setIfInBounds_toArray, List.set_cons_zero, List.set_cons_succ])
  refine wpAnyH_take (i := 3) (oi := { dst := some 46, op := Op.move (Operand.tmp 7), type := 3, pos := "law.go:99", after := #[{ on := 2, ground := Ground.guard }], guard := some (2, false) }) (v := ?_) rfl (by kernel_rfl) (by kernel_rfl) (by kernel_rfl) (fun _ _ _ h => h) (Or.inl ⟨by rfl, ?_⟩) (by assumption) ?_
  rotate_left
  · (intro w hSw; (try dsimp only at hSw); (try have hcs := hcells w hSw); (try go_split_ands); go_simp <;> with_reducible rfl)
  (try simp only [Act.put, List.setIfInBounds_toArray, List.set_cons_zero, List.set_cons_succ])
  refine wpAnyH_take (i := 4) (oi := { dst := some 47, op := Op.move (Operand.tmp 1), type := 3, pos := "law.go:99", after := #[{ on := 2, ground := Ground.guard }], guard := some (2, false) }) (v := ?_) rfl (by kernel_rfl) (by kernel_rfl) (by kernel_rfl) (fun _ _ _ h => h) (Or.inl ⟨by rfl, ?_⟩) (by assumption) ?_
  rotate_left
  · (intro w hSw; (try dsimp only at hSw); (try have hcs := hcells w hSw); (try go_split_ands); go_simp <;> with_reducible rfl)
  (try simp only [Act.put, List.setIfInBounds_toArray, List.set_cons_zero, List.set_cons_succ])
  refine wpAnyH_take (i := 5) (oi := { dst := some 48, op := Op.unOp UnOp.neg 3 (Operand.tmp 47), type := 3, pos := "law.go:99", after := #[{ on := 4, ground := Ground.data }, { on := 2, ground := Ground.guard }], guard := some (2, false) }) (v := ?_) rfl (by kernel_rfl) (by kernel_rfl) (by kernel_rfl) (fun _ _ _ h => h) (Or.inl ⟨by rfl, ?_⟩) (by assumption) ?_
  rotate_left
  · (intro w hSw; (try dsimp only at hSw); (try have hcs := hcells w hSw); (try go_split_ands); go_simp <;> with_reducible rfl)
  (try simp only [Act.put, List.setIfInBounds_toArray, List.set_cons_zero, List.set_cons_succ])
  refine wpAnyH_take (i := 6) (oi := { dst := some 49, op := Op.binOp BinOp.lss 3 (Operand.tmp 46) (Operand.tmp 48) 3, type := 4, pos := "law.go:99", after := #[{ on := 3, ground := Ground.data }, { on := 5, ground := Ground.data }, { on := 2, ground := Ground.guard }], guard := some (2, false) }) (v := ?_) rfl (by kernel_rfl) (by kernel_rfl) (by kernel_rfl) (fun _ _ _ h => h) (Or.inl ⟨by rfl, ?_⟩) (by assumption) ?_
  rotate_left
  · (intro w hSw; (try dsimp only at hSw); (try have hcs := hcells w hSw); (try go_split_ands); go_simp <;> with_reducible rfl)
  (try simp only [Act.put, List.setIfInBounds_toArray, List.set_cons_zero, List.set_cons_succ])
  refine wpAnyH_take (i := 7) (oi := { dst := some 50, op := Op.pick (Operand.tmp 45) (Operand.const (Value.bool true)) (Operand.tmp 49), type := 4, pos := "law.go:99", after := #[{ on := 2, ground := Ground.data }, { on := 6, ground := Ground.data }], guard := none }) (v := ?_) rfl (by kernel_rfl) (by kernel_rfl) (by kernel_rfl) (fun _ _ _ h => h) (Or.inl ⟨by rfl, ?_⟩) (by assumption) ?_
  rotate_left
  · (intro w hSw; (try dsimp only at hSw); (try have hcs := hcells w hSw); (try go_split_ands); go_simp <;> with_reducible rfl)
  (try simp only [Act.put, List.setIfInBounds_toArray, List.set_cons_zero, List.set_cons_succ])
  refine wpAnyH_take (i := 8) (oi := { dst := some 51, op := Op.move (Operand.tmp 50), type := 4, pos := "law.go:99", after := #[{ on := 7, ground := Ground.data }, { on := 2, ground := Ground.chain }], guard := none }) (v := ?_) rfl (by kernel_rfl) (by kernel_rfl) (by kernel_rfl) (fun _ _ _ h => h) (Or.inl ⟨by rfl, ?_⟩) (by assumption) ?_
  rotate_left
  · (intro w hSw; (try dsimp only at hSw); (try have hcs := hcells w hSw); (try go_split_ands); go_simp <;> with_reducible rfl)
  (try simp only [Act.put, List.setIfInBounds_toArray, List.set_cons_zero, List.set_cons_succ])
  refine wpAnyH_take (i := 9) (oi := { dst := some 52, op := Op.load 29 (Operand.tmp 6), type := 29, pos := "law.go:99", after := #[{ on := 8, ground := Ground.guard }], guard := some (8, false) }) (v := ?_) rfl (by kernel_rfl) (by kernel_rfl) (by kernel_rfl) (fun _ _ _ h => h) (Or.inl ⟨by rfl, ?_⟩) (by assumption) ?_
  rotate_left
  · (intro w hSw; (try dsimp only at hSw); (try have hcs := hcells w hSw); (try go_split_ands); go_simp <;> with_reducible rfl)
  (try simp only [Act.put, List.setIfInBounds_toArray, List.set_cons_zero, List.set_cons_succ])
  refine wpAnyH_take (i := 10) (oi := { dst := some 53, op := Op.move (Operand.tmp 7), type := 3, pos := "law.go:99", after := #[{ on := 8, ground := Ground.guard }], guard := some (8, false) }) (v := ?_) rfl (by kernel_rfl) (by kernel_rfl) (by kernel_rfl) (fun _ _ _ h => h) (Or.inl ⟨by rfl, ?_⟩) (by assumption) ?_
  rotate_left
  · (intro w hSw; (try dsimp only at hSw); (try have hcs := hcells w hSw); (try go_split_ands); go_simp <;> with_reducible rfl)
  (try simp only [Act.put, List.setIfInBounds_toArray, List.set_cons_zero, List.set_cons_succ])
  refine wpAnyH_take (i := 11) (oi := { dst := some 54, op := Op.move (Operand.tmp 1), type := 3, pos := "law.go:99", after := #[{ on := 8, ground := Ground.guard }], guard := some (8, false) }) (v := ?_) rfl (by kernel_rfl) (by kernel_rfl) (by kernel_rfl) (fun _ _ _ h => h) (Or.inl ⟨by rfl, ?_⟩) (by assumption) ?_
  rotate_left
  · (intro w hSw; (try dsimp only at hSw); (try have hcs := hcells w hSw); (try go_split_ands); go_simp <;> with_reducible rfl)
  (try simp only [Act.put, List.setIfInBounds_toArray, List.set_cons_zero, List.set_cons_succ])
  refine wpAnyH_take (i := 12) (oi := { dst := some 55, op := Op.binOp BinOp.add 3 (Operand.tmp 53) (Operand.tmp 54) 3, type := 3, pos := "law.go:99", after := #[{ on := 10, ground := Ground.data }, { on := 11, ground := Ground.data }, { on := 8, ground := Ground.guard }], guard := some (8, false) }) (v := ?_) rfl (by kernel_rfl) (by kernel_rfl) (by kernel_rfl) (fun _ _ _ h => h) (Or.inl ⟨by rfl, ?_⟩) (by assumption) ?_
  rotate_left
  · (intro w hSw; (try dsimp only at hSw); (try have hcs := hcells w hSw); (try go_split_ands); go_simp <;> with_reducible rfl)
  (try simp only [Act.put, List.setIfInBounds_toArray, List.set_cons_zero, List.set_cons_succ])
  refine wpAnyH_take (i := 15) (oi := { dst := some 58, op := Op.move (Operand.tmp 0), type := 3, pos := "law.go:99", after := #[{ on := 8, ground := Ground.guard }], guard := some (8, false) }) (v := ?_) rfl (by kernel_rfl) (by kernel_rfl) (by kernel_rfl) (fun _ _ _ h => h) (Or.inl ⟨by rfl, ?_⟩) (by assumption) ?_
  rotate_left
  · (intro w hSw; (try dsimp only at hSw); (try have hcs := hcells w hSw); (try go_split_ands); go_simp <;> with_reducible rfl)
  (try simp only [Act.put, List.setIfInBounds_toArray, List.set_cons_zero, List.set_cons_succ])
  refine wpAnyH_ready (rs := [13]) (by kernel_rfl) (by simp) ?_
  refine AllReadyH.cons (o := { dst := some 56, op := Op.call { callee := Callee.value (Operand.func 14), args := #[Operand.tmp 55], argTypes := #[3] }, type := 29, pos := "law.go:99", after := #[{ on := 12, ground := Ground.data }, { on := 8, ground := Ground.chain }, { on := 8, ground := Ground.guard }], guard := some (8, false) }) rfl (fun K hK => ?_) ?_
  · go_simp
    refine (CTT _).mono ?_
    rintro e w5 ⟨T, rfl, hT, hg5⟩
    obtain ⟨Ts, Ta, Tn, Tc, rfl⟩ := hT.shape
    (try go_wp2_with fail)
    refine hK.out _ _ (by (try dsimp only); exact hcl _ _ hHeld (by first | with_reducible assumption | with_reducible exact IsGr.refl _ | with_reducible exact (IsGr.refl _).alloc _ | with_reducible exact ((IsGr.refl _).alloc _).alloc _ | assumption)) (fun hHeld2 => ?_)
    clear hK K hHeld
    have hHeld := hHeld2
    clear hHeld2
    (try simp only [Act.put, List.setIfInBounds_toArray, List.set_cons_zero, List.set_cons_succ])
    refine wpAnyH_ready (rs := [14]) (by kernel_rfl) (by simp) ?_
    refine AllReadyH.cons (o := { dst := some 57, op := Op.call { callee := Callee.value (Operand.func 13), args := #[Operand.tmp 52, Operand.tmp 56], argTypes := #[29, 29] }, type := 29, pos := "law.go:99", after := #[{ on := 9, ground := Ground.data }, { on := 13, ground := Ground.data }, { on := 13, ground := Ground.chain }, { on := 8, ground := Ground.guard }], guard := some (8, false) }) rfl (fun K hK => ?_) ?_
    · go_simp
      refine (BigMul_any _ _ M (10 ^ (pE + fine).toNat) _ (HX.out.gr (hgr _ hHeld)) (hT.gr (by first | with_reducible assumption | with_reducible exact IsGr.refl _ | with_reducible exact (IsGr.refl _).alloc _ | with_reducible exact ((IsGr.refl _).alloc _).alloc _ | assumption)) s3 s2).mono ?_
      rintro e w6 ⟨N, rfl, hN, hg6⟩
      rw [HMT.out] at hN
      obtain ⟨Ns, Na, Nn, Nc, rfl⟩ := hN.shape
      (try go_wp2_with fail)
      refine hK.out _ _ (by (try dsimp only); exact hcl _ _ hHeld (by first | with_reducible assumption | with_reducible exact IsGr.refl _ | with_reducible exact (IsGr.refl _).alloc _ | with_reducible exact ((IsGr.refl _).alloc _).alloc _ | assumption)) (fun hHeld2 => ?_)
      clear hK K hHeld
      have hHeld := hHeld2
      clear hHeld2
      (try simp only [Act.put, List.setIfInBounds_toArray, List.set_cons_zero, List.set_cons_succ])
      refine wpAnyH_ready (rs := [16]) (by kernel_rfl) (by simp) ?_
      refine AllReadyH.cons (o := { dst := some 59, op := Op.call { callee := Callee.value (Operand.func 12), args := #[Operand.tmp 58], argTypes := #[3] }, type := 29, pos := "law.go:99", after := #[{ on := 15, ground := Ground.data }, { on := 14, ground := Ground.chain }, { on := 8, ground := Ground.guard }], guard := some (8, false) }) rfl (fun K hK => ?_) ?_
      · go_simp
        refine (CO _).mono ?_
        rintro e w7 ⟨O, rfl, hO, hg7⟩
        obtain ⟨Os, Oa, On, Oc, rfl⟩ := hO.shape
        (try go_wp2_with fail)
        refine hK.out _ _ (by (try dsimp only); exact hcl _ _ hHeld (by first | with_reducible assumption | with_reducible exact IsGr.refl _ | with_reducible exact (IsGr.refl _).alloc _ | with_reducible exact ((IsGr.refl _).alloc _).alloc _ | assumption)) (fun hHeld2 => ?_)
        clear hK K hHeld
        have hHeld := hHeld2
        clear hHeld2
        (try simp only [Act.put, List.setIfInBounds_toArray, List.set_cons_zero, List.set_cons_succ])
        refine wpAnyH_ready (rs := [17]) (by kernel_rfl) (by simp) ?_
        refine AllReadyH.cons (o := { dst := some 60, op := Op.call { callee := Callee.value (Operand.func 15), args := #[Operand.tmp 57, Operand.tmp 59], argTypes := #[29, 29] }, type := 3, pos := "law.go:99", after := #[{ on := 14, ground := Ground.data }, { on := 16, ground := Ground.data }, { on := 16, ground := Ground.chain }, { on := 8, ground := Ground.guard }], guard := some (8, false) }) rfl (fun K hK => ?_) ?_
        · go_simp
          refine (BigCmp_any _ _ n n _ (hN.gr (by first | with_reducible assumption | with_reducible exact IsGr.refl _ | with_reducible exact (IsGr.refl _).alloc _ | with_reducible exact ((IsGr.refl _).alloc _).alloc _ | assumption)) (hO.gr (by first | with_reducible assumption | with_reducible exact IsGr.refl _ | with_reducible exact (IsGr.refl _).alloc _ | with_reducible exact ((IsGr.refl _).alloc _).alloc _ | assumption)) s1 s1).mono ?_
          rintro e w8 ⟨rfl, hg8⟩
          (try go_wp2_with fail)
          refine hK.out _ _ (by (try dsimp only); exact hcl _ _ hHeld (by first | with_reducible assumption | with_reducible exact IsGr.refl _ | with_reducible exact (IsGr.refl _).alloc _ | with_reducible exact ((IsGr.refl _).alloc _).alloc _ | assumption)) (fun hHeld2 => ?_)
          clear hK K hHeld
          have hHeld := hHeld2
          clear hHeld2
          (try simp only [Act.put, List.setIfInBounds_toArray, List.set_cons_zero, List.set_cons_succ])
          refine wpAnyH_take (i := 18) (oi := { dst := some 61, op := Op.binOp BinOp.neq 3 (Operand.tmp 60) (Operand.const (Value.int IntKind.i64 0)) 3, type := 4, pos := "law.go:99", after := #[{ on := 17, ground := Ground.data }, { on := 8, ground := Ground.guard }], guard := some (8, false) }) (v := ?_) rfl (by kernel_rfl) (by kernel_rfl) (by kernel_rfl) (fun _ _ _ h => h) (Or.inl ⟨by rfl, ?_⟩) (by assumption) ?_
          rotate_left
          · (intro w hSw; (try dsimp only at hSw); (try have hcs := hcells w hSw); (try go_split_ands); go_simp <;> with_reducible rfl)
          (try simp only [Act.put, List.setIfInBounds_toArray, List.set_cons_zero, List.set_cons_succ])
          refine wpAnyH_take (i := 19) (oi := { dst := some 62, op := Op.pick (Operand.tmp 51) (Operand.const (Value.bool true)) (Operand.tmp 61), type := 4, pos := "law.go:99", after := #[{ on := 8, ground := Ground.data }, { on := 18, ground := Ground.data }], guard := none }) (v := ?_) rfl (by kernel_rfl) (by kernel_rfl) (by kernel_rfl) (fun _ _ _ h => h) (Or.inl ⟨by rfl, ?_⟩) (by assumption) ?_
          rotate_left
          · (intro w hSw; (try dsimp only at hSw); (try have hcs := hcells w hSw); (try go_split_ands); go_simp <;> with_reducible rfl)
          (try simp only [Act.put, List.setIfInBounds_toArray, List.set_cons_zero, List.set_cons_succ])
          refine wpAnyH_done (by kernel_rfl) ?_ _
          have hgq := hgr _ hHeld
          obtain ⟨wq, hwq⟩ : ∃ W, W = W := ⟨w, rfl⟩
          have HGW0 : Hid (IsGr w _) := HG1.out.trans hgq
          have HGW := HGW0
          clear hHeld hgr hin hcl hcells hgq c0 c1 HGW0 hwq wq hz
          go_wp2_with fail
          
          refine (CS _).mono ?_
          clear CS
          rintro e wS ⟨m, er, rfl, hsc, hgS⟩
          have HG : Hid (IsGr w wS) := HGW.out.trans hgS
          clear hgS
          by_cases hin : -1099511627775 ≤ n ∧ n ≤ 1099511627775
          · obtain ⟨rfl, rfl⟩ := hsc.ok HF.out HU.out (by unfold MxU; omega) (by unfold MxU; omega)
            have h1 : ¬ m < -1099511627775 := by omega
            have h2 : ¬ 1099511627775 < m := by omega
            clear hsc hin
            go_wp2_with fail
            refine (CA _ HG.out).mono ?_
            clear CA
            rintro e wF ⟨rfl, hgF⟩
            have HGF : Hid (IsGr w wF) := HG.out.trans hgF
            clear hgF
            go_wp2_with fail
            go_ret
            exact ⟨rfl, HGF.out⟩
          
          · obtain ⟨rfl, rfl⟩ := hsc.far HF.out HU.out (by unfold MxU; omega)
            by_cases h1 : n < -1099511627775
            · clear hsc hin
              go_wp2_with fail
              refine (CA _ HG.out).mono ?_
              clear CA
              rintro e wF ⟨rfl, hgF⟩
              have HGF : Hid (IsGr w wF) := HG.out.trans hgF
              clear hgF
              go_wp2_with fail
              go_ret
              exact ⟨rfl, HGF.out⟩
          
            · have h2 : 1099511627775 < n := by omega
              clear hsc hin
              go_wp2_with fail
              refine (CA _ HG.out).mono ?_
              clear CA
              rintro e wF ⟨rfl, hgF⟩
              have HGF : Hid (IsGr w wF) := HG.out.trans hgF
              clear hgF
              go_wp2_with fail
              go_ret
              exact ⟨rfl, HGF.out⟩
          
        exact AllReadyH.nil
      exact AllReadyH.nil
    exact AllReadyH.nil
  exact AllReadyH.nil

set_option maxRecDepth 20000 in set_option maxHeartbeats 2000000 in
theorem texts_nz (C : DecC) (n fine : Int) (hi : I64 n) (hj : I64 fine) (hf : 0 ≤ fine ∧ fine ≤ 9) (hn0 : n ≠ 0) (M : Int) (k : Nat) (d0 cL : Int) (hx : TxR n fine (strOfNums (textU n fine)) true 1 M k d0 cL) (hd : d0 = 48) (w : World) (HTB : TabW w) : Calls Tryd.prog 4 #[.int .i64 n, .int .i64 fine] w fun e w' => e = .returned (.bool true) ∧ IsGr w w' := by
  have CA := fun w' (hg : IsGr w w') => dawake_any C w' (HTB.gr hg)
  have CT := C.text n fine w HTB hi hj
  obtain ⟨s, hs⟩ : ∃ s, strOfNums (textU n fine) = s := ⟨_, rfl⟩
  rw [hs] at hx CT
  obtain ⟨sg, l1, dt, l2, hspl, hM, hk2⟩ := hx.num
  have CS := fun w => C.scale s fine w M (0 - (k : Nat)) (by have := hx.size; omega) hj ⟨_, _, _, _, _, _, _, hspl, hM, by rw [hk2]⟩
  have CR := fun w => RRight_any s w (by have := hx.size; omega)
  rw [hspl.right] at CR
  have CN := fun w => Number_any s w true sg l1 dt l2 [] 0 hspl hx.size (by simp)
  rw [← hM, hk2] at CN
  have hu := hx.unit
  have hpos : 0 < s.size := by have := hx.at0; omega
  have hA := hx.at0.2.1
  have hat0 := bts_at hpos
  have hatA := bts_at hA
  have hatL := bts_at (show s.size - 1 < s.size by omega)
  rw [hx.at0.1] at hatA
  rw [hx.last.1] at hatL
  have hdr := dg_range hx.at0.2.2
  have HF : Hid (0 ≤ fine ∧ fine ≤ 9) := hf
  have HU : Hid (UnitIs M (0 - (k : Nat) + fine) n) := Or.inl ⟨by omega, by rw [show (0 - ((k : Nat) : Int) + fine).toNat = fine.toNat - k by omega]; exact hu.1⟩
  have CTT := fun w => Ten_any (0 - (k : Nat) + fine) w (by omega)
  have hnr : -9223372036854775808 ≤ n ∧ n < 9223372036854775808 := hi
  have CO := fun w => BigOf_any n hnr.1 hnr.2 w
  have s1 : Sm n := by unfold Sm; omega
  have s2 := ten_sm (0 - ((k : Nat) : Int) + fine).toNat (by omega)
  have s3 : Sm M := by
    rw [hM]
    have hb := dvl_bound (hspl.d1.app hspl.d2)
    have hl : (l1 ++ l2).length ≤ 60 := by
      have h1 := congrArg List.length hspl.eq
      rw [bts_len] at h1
      simp only [List.length_append] at h1 ⊢
      have := hx.size
      omega
    have h3 := sgI_bound (neg := true) hb hl
    have h4 : (10 : Int) ^ 60 ≤ 4149515568880992958512407863691161151012446232242436899995657329690652811412908146399707048947103794288197886611300789182395151075411775307886874834113963687061181803401509523685376 := by decide +kernel
    unfold Sm; omega
  have HMT : Hid (M * 10 ^ (0 - ((k : Nat) : Int) + fine).toNat = n) := by
    show _ = _
    rw [show (0 - ((k : Nat) : Int) + fine).toNat = fine.toNat - k by omega]
    exact hu.1.symm
  have hz : (cmpI n n != 0) = false := by unfold cmpI; simp
  have h45 : ((s[0]'hpos).toNat : Int) = 45 := by rw [← hat0]; exact (hx.first.1 rfl).2
  obtain ⟨cA, hcA⟩ : ∃ c : Int, ((s[1]'hA).toNat : Int) = c := ⟨_, rfl⟩
  rw [hcA] at hatA
  obtain rfl := hatA
  have e0 : IntKind.i64.wrap ((s.size : Int) - 1) = ((s.size - 1 : Nat) : Int) := by rw [IntKind.wrap_i64]; have := hx.size; omega
  obtain ⟨L, hL⟩ : ∃ L, s.size - 1 = L := ⟨_, rfl⟩
  have hLs : L < s.size := by omega
  have hLc : ((s[L]'hLs).toNat : Int) = cL := by simp only [hL] at hatL; exact hatL.symm
  rw [hL] at e0
  have hLs' : (L : Int) < s.size := by omega
  have hL0 : (0 : Int) ≤ L := by omega
  have qL46 : (cL == 46) = false := by simpa using hx.last.2.1
  have hpos' : (0 : Int) < s.size := by omega
  have hA' : (1 : Int) < s.size := by omega
  have qn : (n == 0) = false := by simpa using hn0
  obtain rfl := hd
  have hz1 := hx.at1 rfl
  have hB := hz1.1
  have hatB := bts_at hB
  have hB46 : ((s[1 + 1]'hB).toNat : Int) = 46 := by rw [← hatB]; exact hz1.2.1
  have hB' : ((1 : Int) + 1) < s.size := by omega
  have hB'' : (2 : Int) < s.size := by omega
  have hk : 0 < k := hz1.2.2
  have qL48 : (cL == 48) = false := by simpa using hx.last.2.2 hk
  have hp1 : (0 : Int) - (k : Nat) < 0 := by omega
  obtain ⟨pE, hpE⟩ : ∃ pE : Int, (0 : Int) - ((k : Nat) : Int) = pE := ⟨_, rfl⟩
  have hpf : decide (pE < -fine) = false := decide_eq_false (by omega)
  have hpd : decide (0 < pE) = false := decide_eq_false (by omega)
  have efn : IntKind.i64.wrap (-fine) = -fine := by rw [IntKind.wrap_i64]; omega
  have epf : IntKind.i64.wrap (pE + fine) = pE + fine := by rw [IntKind.wrap_i64]; omega
  have hf0 : ¬ fine < 0 := by omega
  have hf9 : ¬ 9 < fine := by omega
  rw [hpE] at CS HU CTT s2 HMT hp1 CN
  clear hs hx hspl hM hk2 hu hat0 hatL hdr hf hj hi hn0 C HTB hL hpE hnr hatB hz1
  go_enter Tryd.func4, Tryd.ntmps4
  go_wp2_with fail
  refine CT.mono ?_
  clear CT
  rintro e w1 ⟨rfl, hg1⟩
  go_wp2_with fail
  refine (CR _).mono ?_
  clear CR
  rintro e w2 ⟨rfl, hg2⟩
  obtain rfl := hg2.symm
  go_wp2_with fail
  refine (CN _).mono ?_
  clear CN
  rintro e w3 ⟨v, rfl, hv, hg3⟩
  obtain ⟨vs, va, vn, vc, rfl⟩ := hv.shape
  have hX := BgB.new hv
  obtain ⟨v1s, v1a, v1n, v1c, hxb, hxB⟩ := hX
  obtain ⟨c0, c1, f0, f1⟩ := block_two hxb
  have HG1 : Hid (IsGr w (w3.alloc (.cells #[.bool vs, .slice va vn vc] 29))) := (hg1.trans hg3).trans ((IsGr.refl w3).alloc _)
  have HX : Hid (IsBig (w3.alloc (.cells #[.bool vs, .slice va vn vc] 29)) (.agg #[.bool v1s, .slice v1a v1n v1c]) M) := hxB
  clear hv hg1 hg3 hxb hxB
  go_upto_region 7 with fail
  obtain ⟨PX, hPX⟩ : ∃ P, w3.heap.size = P := ⟨_, rfl⟩
  obtain ⟨w4, hw4⟩ : ∃ W, w3.alloc (.cells #[.bool vs, .slice va vn vc] 29) = W := ⟨_, rfl⟩
  rw [hw4] at HG1 HX c0 c1
  rw [hPX] at c0 c1
  rw [hPX, hw4]
  clear hPX hw4 f0 f1
  obtain ⟨C, hin, hcl, hcells, hgr⟩ : ∃ C : World → Prop, (∀ w', IsGr w4 w' → C w') ∧ (∀ u u', C u → IsGr u u' → C u') ∧ (∀ w', C w' → (w'.cell? ⟨PX, 0, none⟩ = some (.bool v1s)) ∧ (w'.cell? ⟨PX, 1, none⟩ = some (.slice v1a v1n v1c))) ∧ (∀ w', C w' → IsGr w4 w') := ⟨fun w' => IsGr w4 w', fun _ h => h, fun _ _ h k => h.trans k, fun w' hg => ⟨cellk c0 hg, cellk c1 hg⟩, fun _ h => h⟩
  refine wp_region_held_drew (S := C) (by kernel_rfl) (by (try dsimp only); exact hin _ (by with_reducible repeat (first | exact IsGr.refl _ | refine IsGr.gr ?_ _ _ | refine IsGr.alloc ?_ _ | refine IsGr.drew ?_ | refine IsGr.drewN ?_ _))) (fun hHeld => ?_)
  refine wpAnyH_take (i := 0) (oi := { dst := some 43, op := Op.move (Operand.tmp 7), type := 3, pos := "law.go:99", after := #[], guard := none }) (v := ?_) rfl (by kernel_rfl) (by kernel_rfl) (by kernel_rfl) (fun _ _ _ h => h) (Or.inl ⟨by rfl, ?_⟩) (by assumption) ?_
  rotate_left
  · (intro w hSw; (try dsimp only at hSw); (try have hcs := hcells w hSw); (try go_split_ands); go_simp <;> with_reducible rfl)
  (try simp only [Act.put, List.setIfInBounds_toArray, List.set_cons_zero, List.set_cons_succ])
  refine wpAnyH_take (i := 1) (oi := { dst := some 44, op := Op.binOp BinOp.gtr 3 (Operand.tmp 43) (Operand.const (Value.int IntKind.i64 0)) 3, type := 4, pos := "law.go:99", after := #[{ on := 0, ground := Ground.data }], guard := none }) (v := ?_) rfl (by kernel_rfl) (by kernel_rfl) (by kernel_rfl) (fun _ _ _ h => h) (Or.inl ⟨by rfl, ?_⟩) (by assumption) ?_
  rotate_left
  · (intro w hSw; (try dsimp only at hSw); (try have hcs := hcells w hSw); (try go_split_ands); go_simp <;> with_reducible rfl)
  (try simp only [Act.put, List.setIfInBounds_toArray, List.set_cons_zero, List.set_cons_succ])
  refine wpAnyH_take (i := 2) (oi := { dst := some 45, op := Op.move (Operand.tmp 44), type := 4, pos := "law.go:99", after := #[{ on := 1, ground := Ground.data }], guard := none }) (v := ?_) rfl (by kernel_rfl) (by kernel_rfl) (by kernel_rfl) (fun _ _ _ h => h) (Or.inl ⟨by rfl, ?_⟩) (by assumption) ?_
  rotate_left
  · (intro w hSw; (try dsimp only at hSw); (try have hcs := hcells w hSw); (try go_split_ands); go_simp <;> with_reducible rfl)
  (try simp only [Act.put, List.setIfInBounds_toArray, List.set_cons_zero, List.set_cons_succ])
  refine wpAnyH_take (i := 3) (oi := { dst := some 46, op := Op.move (Operand.tmp 7), type := 3, pos := "law.go:99", after := #[{ on := 2, ground := Ground.guard }], guard := some (2, false) }) (v := ?_) rfl (by kernel_rfl) (by kernel_rfl) (by kernel_rfl) (fun _ _ _ h => h) (Or.inl ⟨by rfl, ?_⟩) (by assumption) ?_
  rotate_left
  · (intro w hSw; (try dsimp only at hSw); (try have hcs := hcells w hSw); (try go_split_ands); go_simp <;> with_reducible rfl)
  (try simp only [Act.put, List.setIfInBounds_toArray, List.set_cons_zero, List.set_cons_succ])
  refine wpAnyH_take (i := 4) (oi := { dst := some 47, op := Op.move (Operand.tmp 1), type := 3, pos := "law.go:99", after := #[{ on := 2, ground := Ground.guard }], guard := some (2, false) }) (v := ?_) rfl (by kernel_rfl) (by kernel_rfl) (by kernel_rfl) (fun _ _ _ h => h) (Or.inl ⟨by rfl, ?_⟩) (by assumption) ?_
  rotate_left
  · (intro w hSw; (try dsimp only at hSw); (try have hcs := hcells w hSw); (try go_split_ands); go_simp <;> with_reducible rfl)
  (try simp only [Act.put, List.setIfInBounds_toArray, List.set_cons_zero, List.set_cons_succ])
  refine wpAnyH_take (i := 5) (oi := { dst := some 48, op := Op.unOp UnOp.neg 3 (Operand.tmp 47), type := 3, pos := "law.go:99", after := #[{ on := 4, ground := Ground.data }, { on := 2, ground := Ground.guard }], guard := some (2, false) }) (v := ?_) rfl (by kernel_rfl) (by kernel_rfl) (by kernel_rfl) (fun _ _ _ h => h) (Or.inl ⟨by rfl, ?_⟩) (by assumption) ?_
  rotate_left
  · (intro w hSw; (try dsimp only at hSw); (try have hcs := hcells w hSw); (try go_split_ands); go_simp <;> with_reducible rfl)
  (try simp only [Act.put, List.setIfInBounds_toArray, List.set_cons_zero, List.set_cons_succ])
  refine wpAnyH_take (i := 6) (oi := { dst := some 49, op := Op.binOp BinOp.lss 3 (Operand.tmp 46) (Operand.tmp 48) 3, type := 4, pos := "law.go:99", after := #[{ on := 3, ground := Ground.data }, { on := 5, ground := Ground.data }, { on := 2, ground := Ground.guard }], guard := some (2, false) }) (v := ?_) rfl (by kernel_rfl) (by kernel_rfl) (by kernel_rfl) (fun _ _ _ h => h) (Or.inl ⟨by rfl, ?_⟩) (by assumption) ?_
  rotate_left
  · (intro w hSw; (try dsimp only at hSw); (try have hcs := hcells w hSw); (try go_split_ands); go_simp <;> with_reducible rfl)
  (try simp only [Act.put, List.setIfInBounds_toArray, List.set_cons_zero, List.set_cons_succ])
  refine wpAnyH_take (i := 7) (oi := { dst := some 50, op := Op.pick (Operand.tmp 45) (Operand.const (Value.bool true)) (Operand.tmp 49), type := 4, pos := "law.go:99", after := #[{ on := 2, ground := Ground.data }, { on := 6, ground := Ground.data }], guard := none }) (v := ?_) rfl (by kernel_rfl) (by kernel_rfl) (by kernel_rfl) (fun _ _ _ h => h) (Or.inl ⟨by rfl, ?_⟩) (by assumption) ?_
  rotate_left
  · (intro w hSw; (try dsimp only at hSw); (try have hcs := hcells w hSw); (try go_split_ands); go_simp <;> with_reducible rfl)
  (try simp only [Act.put, List.setIfInBounds_toArray, List.set_cons_zero, List.set_cons_succ])
  refine wpAnyH_take (i := 8) (oi := { dst := some 51, op := Op.move (Operand.tmp 50), type := 4, pos := "law.go:99", after := #[{ on := 7, ground := Ground.data }, { on := 2, ground := Ground.chain }], guard := none }) (v := ?_) rfl (by kernel_rfl) (by kernel_rfl) (by kernel_rfl) (fun _ _ _ h => h) (Or.inl ⟨by rfl, ?_⟩) (by assumption) ?_
  rotate_left
  · (intro w hSw; (try dsimp only at hSw); (try have hcs := hcells w hSw); (try go_split_ands); go_simp <;> with_reducible rfl)
  (try simp only [Act.put, List.setIfInBounds_toArray, List.set_cons_zero, List.set_cons_succ])
  refine wpAnyH_take (i := 9) (oi := { dst := some 52, op := Op.load 29 (Operand.tmp 6), type := 29, pos := "law.go:99", after := #[{ on := 8, ground := Ground.guard }], guard := some (8, false) }) (v := ?_) rfl (by kernel_rfl) (by kernel_rfl) (by kernel_rfl) (fun _ _ _ h => h) (Or.inl ⟨by rfl, ?_⟩) (by assumption) ?_
  rotate_left
  · (intro w hSw; (try dsimp only at hSw); (try have hcs := hcells w hSw); (try go_split_ands); go_simp <;> with_reducible rfl)
  (try simp only [Act.put, List.setIfInBounds_toArray, List.set_cons_zero, List.set_cons_succ])
  refine wpAnyH_take (i := 10) (oi := { dst := some 53, op := Op.move (Operand.tmp 7), type := 3, pos := "law.go:99", after := #[{ on := 8, ground := Ground.guard }], guard := some (8, false) }) (v := ?_) rfl (by kernel_rfl) (by kernel_rfl) (by kernel_rfl) (fun _ _ _ h => h) (Or.inl ⟨by rfl, ?_⟩) (by assumption) ?_
  rotate_left
  · (intro w hSw; (try dsimp only at hSw); (try have hcs := hcells w hSw); (try go_split_ands); go_simp <;> with_reducible rfl)
  (try simp only [Act.put, List.setIfInBounds_toArray, List.set_cons_zero, List.set_cons_succ])
  refine wpAnyH_take (i := 11) (oi := { dst := some 54, op := Op.move (Operand.tmp 1), type := 3, pos := "law.go:99", after := #[{ on := 8, ground := Ground.guard }], guard := some (8, false) }) (v := ?_) rfl (by kernel_rfl) (by kernel_rfl) (by kernel_rfl) (fun _ _ _ h => h) (Or.inl ⟨by rfl, ?_⟩) (by assumption) ?_
  rotate_left
  · (intro w hSw; (try dsimp only at hSw); (try have hcs := hcells w hSw); (try go_split_ands); go_simp <;> with_reducible rfl)
  (try simp only [Act.put, List.setIfInBounds_toArray, List.set_cons_zero, List.set_cons_succ])
  refine wpAnyH_take (i := 12) (oi := { dst := some 55, op := Op.binOp BinOp.add 3 (Operand.tmp 53) (Operand.tmp 54) 3, type := 3, pos := "law.go:99", after := #[{ on := 10, ground := Ground.data }, { on := 11, ground := Ground.data }, { on := 8, ground := Ground.guard }], guard := some (8, false) }) (v := ?_) rfl (by kernel_rfl) (by kernel_rfl) (by kernel_rfl) (fun _ _ _ h => h) (Or.inl ⟨by rfl, ?_⟩) (by assumption) ?_
  rotate_left
  · (intro w hSw; (try dsimp only at hSw); (try have hcs := hcells w hSw); (try go_split_ands); go_simp <;> with_reducible rfl)
  (try simp only [Act.put, List.setIfInBounds_toArray, List.set_cons_zero, List.set_cons_succ])
  refine wpAnyH_take (i := 15) (oi := { dst := some 58, op := Op.move (Operand.tmp 0), type := 3, pos := "law.go:99", after := #[{ on := 8, ground := Ground.guard }], guard := some (8, false) }) (v := ?_) rfl (by kernel_rfl) (by kernel_rfl) (by kernel_rfl) (fun _ _ _ h => h) (Or.inl ⟨by rfl, ?_⟩) (by assumption) ?_
  rotate_left
  · (intro w hSw; (try dsimp only at hSw); (try have hcs := hcells w hSw); (try go_split_ands); go_simp <;> with_reducible rfl)
  (try simp only [Act.put, List.setIfInBounds_toArray, List.set_cons_zero, List.set_cons_succ])
  refine wpAnyH_ready (rs := [13]) (by kernel_rfl) (by simp) ?_
  refine AllReadyH.cons (o := { dst := some 56, op := Op.call { callee := Callee.value (Operand.func 14), args := #[Operand.tmp 55], argTypes := #[3] }, type := 29, pos := "law.go:99", after := #[{ on := 12, ground := Ground.data }, { on := 8, ground := Ground.chain }, { on := 8, ground := Ground.guard }], guard := some (8, false) }) rfl (fun K hK => ?_) ?_
  · go_simp
    refine (CTT _).mono ?_
    rintro e w5 ⟨T, rfl, hT, hg5⟩
    obtain ⟨Ts, Ta, Tn, Tc, rfl⟩ := hT.shape
    (try go_wp2_with fail)
    refine hK.out _ _ (by (try dsimp only); exact hcl _ _ hHeld (by first | with_reducible assumption | with_reducible exact IsGr.refl _ | with_reducible exact (IsGr.refl _).alloc _ | with_reducible exact ((IsGr.refl _).alloc _).alloc _ | assumption)) (fun hHeld2 => ?_)
    clear hK K hHeld
    have hHeld := hHeld2
    clear hHeld2
    (try simp only [Act.put, List.setIfInBounds_toArray, List.set_cons_zero, List.set_cons_succ])
    refine wpAnyH_ready (rs := [14]) (by kernel_rfl) (by simp) ?_
    refine AllReadyH.cons (o := { dst := some 57, op := Op.call { callee := Callee.value (Operand.func 13), args := #[Operand.tmp 52, Operand.tmp 56], argTypes := #[29, 29] }, type := 29, pos := "law.go:99", after := #[{ on := 9, ground := Ground.data }, { on := 13, ground := Ground.data }, { on := 13, ground := Ground.chain }, { on := 8, ground := Ground.guard }], guard := some (8, false) }) rfl (fun K hK => ?_) ?_
    · go_simp
      refine (BigMul_any _ _ M (10 ^ (pE + fine).toNat) _ (HX.out.gr (hgr _ hHeld)) (hT.gr (by first | with_reducible assumption | with_reducible exact IsGr.refl _ | with_reducible exact (IsGr.refl _).alloc _ | with_reducible exact ((IsGr.refl _).alloc _).alloc _ | assumption)) s3 s2).mono ?_
      rintro e w6 ⟨N, rfl, hN, hg6⟩
      rw [HMT.out] at hN
      obtain ⟨Ns, Na, Nn, Nc, rfl⟩ := hN.shape
      (try go_wp2_with fail)
      refine hK.out _ _ (by (try dsimp only); exact hcl _ _ hHeld (by first | with_reducible assumption | with_reducible exact IsGr.refl _ | with_reducible exact (IsGr.refl _).alloc _ | with_reducible exact ((IsGr.refl _).alloc _).alloc _ | assumption)) (fun hHeld2 => ?_)
      clear hK K hHeld
      have hHeld := hHeld2
      clear hHeld2
      (try simp only [Act.put, List.setIfInBounds_toArray, List.set_cons_zero, List.set_cons_succ])
      refine wpAnyH_ready (rs := [16]) (by kernel_rfl) (by simp) ?_
      refine AllReadyH.cons (o := { dst := some 59, op := Op.call { callee := Callee.value (Operand.func 12), args := #[Operand.tmp 58], argTypes := #[3] }, type := 29, pos := "law.go:99", after := #[{ on := 15, ground := Ground.data }, { on := 14, ground := Ground.chain }, { on := 8, ground := Ground.guard }], guard := some (8, false) }) rfl (fun K hK => ?_) ?_
      · go_simp
        refine (CO _).mono ?_
        rintro e w7 ⟨O, rfl, hO, hg7⟩
        obtain ⟨Os, Oa, On, Oc, rfl⟩ := hO.shape
        (try go_wp2_with fail)
        refine hK.out _ _ (by (try dsimp only); exact hcl _ _ hHeld (by first | with_reducible assumption | with_reducible exact IsGr.refl _ | with_reducible exact (IsGr.refl _).alloc _ | with_reducible exact ((IsGr.refl _).alloc _).alloc _ | assumption)) (fun hHeld2 => ?_)
        clear hK K hHeld
        have hHeld := hHeld2
        clear hHeld2
        (try simp only [Act.put, List.setIfInBounds_toArray, List.set_cons_zero, List.set_cons_succ])
        refine wpAnyH_ready (rs := [17]) (by kernel_rfl) (by simp) ?_
        refine AllReadyH.cons (o := { dst := some 60, op := Op.call { callee := Callee.value (Operand.func 15), args := #[Operand.tmp 57, Operand.tmp 59], argTypes := #[29, 29] }, type := 3, pos := "law.go:99", after := #[{ on := 14, ground := Ground.data }, { on := 16, ground := Ground.data }, { on := 16, ground := Ground.chain }, { on := 8, ground := Ground.guard }], guard := some (8, false) }) rfl (fun K hK => ?_) ?_
        · go_simp
          refine (BigCmp_any _ _ n n _ (hN.gr (by first | with_reducible assumption | with_reducible exact IsGr.refl _ | with_reducible exact (IsGr.refl _).alloc _ | with_reducible exact ((IsGr.refl _).alloc _).alloc _ | assumption)) (hO.gr (by first | with_reducible assumption | with_reducible exact IsGr.refl _ | with_reducible exact (IsGr.refl _).alloc _ | with_reducible exact ((IsGr.refl _).alloc _).alloc _ | assumption)) s1 s1).mono ?_
          rintro e w8 ⟨rfl, hg8⟩
          (try go_wp2_with fail)
          refine hK.out _ _ (by (try dsimp only); exact hcl _ _ hHeld (by first | with_reducible assumption | with_reducible exact IsGr.refl _ | with_reducible exact (IsGr.refl _).alloc _ | with_reducible exact ((IsGr.refl _).alloc _).alloc _ | assumption)) (fun hHeld2 => ?_)
          clear hK K hHeld
          have hHeld := hHeld2
          clear hHeld2
          (try simp only [Act.put, List.setIfInBounds_toArray, List.set_cons_zero, List.set_cons_succ])
          refine wpAnyH_take (i := 18) (oi := { dst := some 61, op := Op.binOp BinOp.neq 3 (Operand.tmp 60) (Operand.const (Value.int IntKind.i64 0)) 3, type := 4, pos := "law.go:99", after := #[{ on := 17, ground := Ground.data }, { on := 8, ground := Ground.guard }], guard := some (8, false) }) (v := ?_) rfl (by kernel_rfl) (by kernel_rfl) (by kernel_rfl) (fun _ _ _ h => h) (Or.inl ⟨by rfl, ?_⟩) (by assumption) ?_
          rotate_left
          · (intro w hSw; (try dsimp only at hSw); (try have hcs := hcells w hSw); (try go_split_ands); go_simp <;> with_reducible rfl)
          (try simp only [Act.put, List.setIfInBounds_toArray, List.set_cons_zero, List.set_cons_succ])
          refine wpAnyH_take (i := 19) (oi := { dst := some 62, op := Op.pick (Operand.tmp 51) (Operand.const (Value.bool true)) (Operand.tmp 61), type := 4, pos := "law.go:99", after := #[{ on := 8, ground := Ground.data }, { on := 18, ground := Ground.data }], guard := none }) (v := ?_) rfl (by kernel_rfl) (by kernel_rfl) (by kernel_rfl) (fun _ _ _ h => h) (Or.inl ⟨by rfl, ?_⟩) (by assumption) ?_
          rotate_left
          · (intro w hSw; (try dsimp only at hSw); (try have hcs := hcells w hSw); (try go_split_ands); go_simp <;> with_reducible rfl)
          (try simp only [Act.put, List.setIfInBounds_toArray, List.set_cons_zero, List.set_cons_succ])
          refine wpAnyH_done (by kernel_rfl) ?_ _
          have hgq := hgr _ hHeld
          obtain ⟨wq, hwq⟩ : ∃ W, W = W := ⟨w, rfl⟩
          have HGW0 : Hid (IsGr w _) := HG1.out.trans hgq
          have HGW := HGW0
          clear hHeld hgr hin hcl hcells hgq c0 c1 HGW0 hwq wq hz
          go_wp2_with fail
          
          refine (CS _).mono ?_
          clear CS
          rintro e wS ⟨m, er, rfl, hsc, hgS⟩
          have HG : Hid (IsGr w wS) := HGW.out.trans hgS
          clear hgS
          by_cases hin : -1099511627775 ≤ n ∧ n ≤ 1099511627775
          · obtain ⟨rfl, rfl⟩ := hsc.ok HF.out HU.out (by unfold MxU; omega) (by unfold MxU; omega)
            have h1 : ¬ m < -1099511627775 := by omega
            have h2 : ¬ 1099511627775 < m := by omega
            clear hsc hin
            go_wp2_with fail
            refine (CA _ HG.out).mono ?_
            clear CA
            rintro e wF ⟨rfl, hgF⟩
            have HGF : Hid (IsGr w wF) := HG.out.trans hgF
            clear hgF
            go_wp2_with fail
            go_ret
            exact ⟨rfl, HGF.out⟩
          
          · obtain ⟨rfl, rfl⟩ := hsc.far HF.out HU.out (by unfold MxU; omega)
            by_cases h1 : n < -1099511627775
            · clear hsc hin
              go_wp2_with fail
              refine (CA _ HG.out).mono ?_
              clear CA
              rintro e wF ⟨rfl, hgF⟩
              have HGF : Hid (IsGr w wF) := HG.out.trans hgF
              clear hgF
              go_wp2_with fail
              go_ret
              exact ⟨rfl, HGF.out⟩
          
            · have h2 : 1099511627775 < n := by omega
              clear hsc hin
              go_wp2_with fail
              refine (CA _ HG.out).mono ?_
              clear CA
              rintro e wF ⟨rfl, hgF⟩
              have HGF : Hid (IsGr w wF) := HG.out.trans hgF
              clear hgF
              go_wp2_with fail
              go_ret
              exact ⟨rfl, HGF.out⟩
          
        exact AllReadyH.nil
      exact AllReadyH.nil
    exact AllReadyH.nil
  exact AllReadyH.nil

set_option maxRecDepth 20000 in set_option maxHeartbeats 2000000 in
theorem texts_ni (C : DecC) (n fine : Int) (hi : I64 n) (hj : I64 fine) (hf : 0 ≤ fine ∧ fine ≤ 9) (hn0 : n ≠ 0) (M : Int) (k : Nat) (d0 cL : Int) (hx : TxR n fine (strOfNums (textU n fine)) true 1 M k d0 cL) (hd : d0 ≠ 48) (hk : k = 0) (w : World) (HTB : TabW w) : Calls Tryd.prog 4 #[.int .i64 n, .int .i64 fine] w fun e w' => e = .returned (.bool true) ∧ IsGr w w' := by
  have CA := fun w' (hg : IsGr w w') => dawake_any C w' (HTB.gr hg)
  have CT := C.text n fine w HTB hi hj
  obtain ⟨s, hs⟩ : ∃ s, strOfNums (textU n fine) = s := ⟨_, rfl⟩
  rw [hs] at hx CT
  obtain ⟨sg, l1, dt, l2, hspl, hM, hk2⟩ := hx.num
  have CS := fun w => C.scale s fine w M (0 - (k : Nat)) (by have := hx.size; omega) hj ⟨_, _, _, _, _, _, _, hspl, hM, by rw [hk2]⟩
  have CR := fun w => RRight_any s w (by have := hx.size; omega)
  rw [hspl.right] at CR
  have CN := fun w => Number_any s w true sg l1 dt l2 [] 0 hspl hx.size (by simp)
  rw [← hM, hk2] at CN
  have hu := hx.unit
  have hpos : 0 < s.size := by have := hx.at0; omega
  have hA := hx.at0.2.1
  have hat0 := bts_at hpos
  have hatA := bts_at hA
  have hatL := bts_at (show s.size - 1 < s.size by omega)
  rw [hx.at0.1] at hatA
  rw [hx.last.1] at hatL
  have hdr := dg_range hx.at0.2.2
  have HF : Hid (0 ≤ fine ∧ fine ≤ 9) := hf
  have HU : Hid (UnitIs M (0 - (k : Nat) + fine) n) := Or.inl ⟨by omega, by rw [show (0 - ((k : Nat) : Int) + fine).toNat = fine.toNat - k by omega]; exact hu.1⟩
  have CTT := fun w => Ten_any (0 - (k : Nat) + fine) w (by omega)
  have hnr : -9223372036854775808 ≤ n ∧ n < 9223372036854775808 := hi
  have CO := fun w => BigOf_any n hnr.1 hnr.2 w
  have s1 : Sm n := by unfold Sm; omega
  have s2 := ten_sm (0 - ((k : Nat) : Int) + fine).toNat (by omega)
  have s3 : Sm M := by
    rw [hM]
    have hb := dvl_bound (hspl.d1.app hspl.d2)
    have hl : (l1 ++ l2).length ≤ 60 := by
      have h1 := congrArg List.length hspl.eq
      rw [bts_len] at h1
      simp only [List.length_append] at h1 ⊢
      have := hx.size
      omega
    have h3 := sgI_bound (neg := true) hb hl
    have h4 : (10 : Int) ^ 60 ≤ 4149515568880992958512407863691161151012446232242436899995657329690652811412908146399707048947103794288197886611300789182395151075411775307886874834113963687061181803401509523685376 := by decide +kernel
    unfold Sm; omega
  have HMT : Hid (M * 10 ^ (0 - ((k : Nat) : Int) + fine).toNat = n) := by
    show _ = _
    rw [show (0 - ((k : Nat) : Int) + fine).toNat = fine.toNat - k by omega]
    exact hu.1.symm
  have hz : (cmpI n n != 0) = false := by unfold cmpI; simp
  have h45 : ((s[0]'hpos).toNat : Int) = 45 := by rw [← hat0]; exact (hx.first.1 rfl).2
  obtain ⟨cA, hcA⟩ : ∃ c : Int, ((s[1]'hA).toNat : Int) = c := ⟨_, rfl⟩
  rw [hcA] at hatA
  obtain rfl := hatA
  have e0 : IntKind.i64.wrap ((s.size : Int) - 1) = ((s.size - 1 : Nat) : Int) := by rw [IntKind.wrap_i64]; have := hx.size; omega
  obtain ⟨L, hL⟩ : ∃ L, s.size - 1 = L := ⟨_, rfl⟩
  have hLs : L < s.size := by omega
  have hLc : ((s[L]'hLs).toNat : Int) = cL := by simp only [hL] at hatL; exact hatL.symm
  rw [hL] at e0
  have hLs' : (L : Int) < s.size := by omega
  have hL0 : (0 : Int) ≤ L := by omega
  have qL46 : (cL == 46) = false := by simpa using hx.last.2.1
  have hpos' : (0 : Int) < s.size := by omega
  have hA' : (1 : Int) < s.size := by omega
  have qn : (n == 0) = false := by simpa using hn0
  have q48 : (d0 == 48) = false := by simpa using hd
  obtain rfl := hk
  have hp1 : ¬ ((0 : Int) - (0 : Nat) < 0) := by omega
  obtain ⟨pE, hpE⟩ : ∃ pE : Int, (0 : Int) - ((0 : Nat) : Int) = pE := ⟨_, rfl⟩
  have hpf : decide (pE < -fine) = false := decide_eq_false (by omega)
  have hpd : decide (0 < pE) = false := decide_eq_false (by omega)
  have efn : IntKind.i64.wrap (-fine) = -fine := by rw [IntKind.wrap_i64]; omega
  have epf : IntKind.i64.wrap (pE + fine) = pE + fine := by rw [IntKind.wrap_i64]; omega
  have hf0 : ¬ fine < 0 := by omega
  have hf9 : ¬ 9 < fine := by omega
  rw [hpE] at CS HU CTT s2 HMT hp1 CN
  clear hs hx hspl hM hk2 hu hat0 hatL hdr hf hj hi hn0 C HTB hL hpE hnr
  go_enter Tryd.func4, Tryd.ntmps4
  go_wp2_with fail
  refine CT.mono ?_
  clear CT
  rintro e w1 ⟨rfl, hg1⟩
  go_wp2_with fail
  refine (CR _).mono ?_
  clear CR
  rintro e w2 ⟨rfl, hg2⟩
  obtain rfl := hg2.symm
  go_wp2_with fail
  refine (CN _).mono ?_
  clear CN
  rintro e w3 ⟨v, rfl, hv, hg3⟩
  obtain ⟨vs, va, vn, vc, rfl⟩ := hv.shape
  have hX := BgB.new hv
  obtain ⟨v1s, v1a, v1n, v1c, hxb, hxB⟩ := hX
  obtain ⟨c0, c1, f0, f1⟩ := block_two hxb
  have HG1 : Hid (IsGr w (w3.alloc (.cells #[.bool vs, .slice va vn vc] 29))) := (hg1.trans hg3).trans ((IsGr.refl w3).alloc _)
  have HX : Hid (IsBig (w3.alloc (.cells #[.bool vs, .slice va vn vc] 29)) (.agg #[.bool v1s, .slice v1a v1n v1c]) M) := hxB
  clear hv hg1 hg3 hxb hxB
  go_upto_region 7 with fail
  obtain ⟨PX, hPX⟩ : ∃ P, w3.heap.size = P := ⟨_, rfl⟩
  obtain ⟨w4, hw4⟩ : ∃ W, w3.alloc (.cells #[.bool vs, .slice va vn vc] 29) = W := ⟨_, rfl⟩
  rw [hw4] at HG1 HX c0 c1
  rw [hPX] at c0 c1
  rw [hPX, hw4]
  clear hPX hw4 f0 f1
  obtain ⟨C, hin, hcl, hcells, hgr⟩ : ∃ C : World → Prop, (∀ w', IsGr w4 w' → C w') ∧ (∀ u u', C u → IsGr u u' → C u') ∧ (∀ w', C w' → (w'.cell? ⟨PX, 0, none⟩ = some (.bool v1s)) ∧ (w'.cell? ⟨PX, 1, none⟩ = some (.slice v1a v1n v1c))) ∧ (∀ w', C w' → IsGr w4 w') := ⟨fun w' => IsGr w4 w', fun _ h => h, fun _ _ h k => h.trans k, fun w' hg => ⟨cellk c0 hg, cellk c1 hg⟩, fun _ h => h⟩
  refine wp_region_held_drew (S := C) (by kernel_rfl) (by (try dsimp only); exact hin _ (by with_reducible repeat (first | exact IsGr.refl _ | refine IsGr.gr ?_ _ _ | refine IsGr.alloc ?_ _ | refine IsGr.drew ?_ | refine IsGr.drewN ?_ _))) (fun hHeld => ?_)
  refine wpAnyH_take (i := 0) (oi := { dst := some 43, op := Op.move (Operand.tmp 7), type := 3, pos := "law.go:99", after := #[], guard := none }) (v := ?_) rfl (by kernel_rfl) (by kernel_rfl) (by kernel_rfl) (fun _ _ _ h => h) (Or.inl ⟨by rfl, ?_⟩) (by assumption) ?_
  rotate_left
  · (intro w hSw; (try dsimp only at hSw); (try have hcs := hcells w hSw); (try go_split_ands); go_simp <;> with_reducible rfl)
  (try simp only [Act.put, List.setIfInBounds_toArray, List.set_cons_zero, List.set_cons_succ])
  refine wpAnyH_take (i := 1) (oi := { dst := some 44, op := Op.binOp BinOp.gtr 3 (Operand.tmp 43) (Operand.const (Value.int IntKind.i64 0)) 3, type := 4, pos := "law.go:99", after := #[{ on := 0, ground := Ground.data }], guard := none }) (v := ?_) rfl (by kernel_rfl) (by kernel_rfl) (by kernel_rfl) (fun _ _ _ h => h) (Or.inl ⟨by rfl, ?_⟩) (by assumption) ?_
  rotate_left
  · (intro w hSw; (try dsimp only at hSw); (try have hcs := hcells w hSw); (try go_split_ands); go_simp <;> with_reducible rfl)
  (try simp only [Act.put, List.setIfInBounds_toArray, List.set_cons_zero, List.set_cons_succ])
  refine wpAnyH_take (i := 2) (oi := { dst := some 45, op := Op.move (Operand.tmp 44), type := 4, pos := "law.go:99", after := #[{ on := 1, ground := Ground.data }], guard := none }) (v := ?_) rfl (by kernel_rfl) (by kernel_rfl) (by kernel_rfl) (fun _ _ _ h => h) (Or.inl ⟨by rfl, ?_⟩) (by assumption) ?_
  rotate_left
  · (intro w hSw; (try dsimp only at hSw); (try have hcs := hcells w hSw); (try go_split_ands); go_simp <;> with_reducible rfl)
  (try simp only [Act.put, List.setIfInBounds_toArray, List.set_cons_zero, List.set_cons_succ])
  refine wpAnyH_take (i := 3) (oi := { dst := some 46, op := Op.move (Operand.tmp 7), type := 3, pos := "law.go:99", after := #[{ on := 2, ground := Ground.guard }], guard := some (2, false) }) (v := ?_) rfl (by kernel_rfl) (by kernel_rfl) (by kernel_rfl) (fun _ _ _ h => h) (Or.inl ⟨by rfl, ?_⟩) (by assumption) ?_
  rotate_left
  · (intro w hSw; (try dsimp only at hSw); (try have hcs := hcells w hSw); (try go_split_ands); go_simp <;> with_reducible rfl)
  (try simp only [Act.put, List.setIfInBounds_toArray, List.set_cons_zero, List.set_cons_succ])
  refine wpAnyH_take (i := 4) (oi := { dst := some 47, op := Op.move (Operand.tmp 1), type := 3, pos := "law.go:99", after := #[{ on := 2, ground := Ground.guard }], guard := some (2, false) }) (v := ?_) rfl (by kernel_rfl) (by kernel_rfl) (by kernel_rfl) (fun _ _ _ h => h) (Or.inl ⟨by rfl, ?_⟩) (by assumption) ?_
  rotate_left
  · (intro w hSw; (try dsimp only at hSw); (try have hcs := hcells w hSw); (try go_split_ands); go_simp <;> with_reducible rfl)
  (try simp only [Act.put, List.setIfInBounds_toArray, List.set_cons_zero, List.set_cons_succ])
  refine wpAnyH_take (i := 5) (oi := { dst := some 48, op := Op.unOp UnOp.neg 3 (Operand.tmp 47), type := 3, pos := "law.go:99", after := #[{ on := 4, ground := Ground.data }, { on := 2, ground := Ground.guard }], guard := some (2, false) }) (v := ?_) rfl (by kernel_rfl) (by kernel_rfl) (by kernel_rfl) (fun _ _ _ h => h) (Or.inl ⟨by rfl, ?_⟩) (by assumption) ?_
  rotate_left
  · (intro w hSw; (try dsimp only at hSw); (try have hcs := hcells w hSw); (try go_split_ands); go_simp <;> with_reducible rfl)
  (try simp only [Act.put, List.setIfInBounds_toArray, List.set_cons_zero, List.set_cons_succ])
  refine wpAnyH_take (i := 6) (oi := { dst := some 49, op := Op.binOp BinOp.lss 3 (Operand.tmp 46) (Operand.tmp 48) 3, type := 4, pos := "law.go:99", after := #[{ on := 3, ground := Ground.data }, { on := 5, ground := Ground.data }, { on := 2, ground := Ground.guard }], guard := some (2, false) }) (v := ?_) rfl (by kernel_rfl) (by kernel_rfl) (by kernel_rfl) (fun _ _ _ h => h) (Or.inl ⟨by rfl, ?_⟩) (by assumption) ?_
  rotate_left
  · (intro w hSw; (try dsimp only at hSw); (try have hcs := hcells w hSw); (try go_split_ands); go_simp <;> with_reducible rfl)
  (try simp only [Act.put, List.setIfInBounds_toArray, List.set_cons_zero, List.set_cons_succ])
  refine wpAnyH_take (i := 7) (oi := { dst := some 50, op := Op.pick (Operand.tmp 45) (Operand.const (Value.bool true)) (Operand.tmp 49), type := 4, pos := "law.go:99", after := #[{ on := 2, ground := Ground.data }, { on := 6, ground := Ground.data }], guard := none }) (v := ?_) rfl (by kernel_rfl) (by kernel_rfl) (by kernel_rfl) (fun _ _ _ h => h) (Or.inl ⟨by rfl, ?_⟩) (by assumption) ?_
  rotate_left
  · (intro w hSw; (try dsimp only at hSw); (try have hcs := hcells w hSw); (try go_split_ands); go_simp <;> with_reducible rfl)
  (try simp only [Act.put, List.setIfInBounds_toArray, List.set_cons_zero, List.set_cons_succ])
  refine wpAnyH_take (i := 8) (oi := { dst := some 51, op := Op.move (Operand.tmp 50), type := 4, pos := "law.go:99", after := #[{ on := 7, ground := Ground.data }, { on := 2, ground := Ground.chain }], guard := none }) (v := ?_) rfl (by kernel_rfl) (by kernel_rfl) (by kernel_rfl) (fun _ _ _ h => h) (Or.inl ⟨by rfl, ?_⟩) (by assumption) ?_
  rotate_left
  · (intro w hSw; (try dsimp only at hSw); (try have hcs := hcells w hSw); (try go_split_ands); go_simp <;> with_reducible rfl)
  (try simp only [Act.put, List.setIfInBounds_toArray, List.set_cons_zero, List.set_cons_succ])
  refine wpAnyH_take (i := 9) (oi := { dst := some 52, op := Op.load 29 (Operand.tmp 6), type := 29, pos := "law.go:99", after := #[{ on := 8, ground := Ground.guard }], guard := some (8, false) }) (v := ?_) rfl (by kernel_rfl) (by kernel_rfl) (by kernel_rfl) (fun _ _ _ h => h) (Or.inl ⟨by rfl, ?_⟩) (by assumption) ?_
  rotate_left
  · (intro w hSw; (try dsimp only at hSw); (try have hcs := hcells w hSw); (try go_split_ands); go_simp <;> with_reducible rfl)
  (try simp only [Act.put, List.setIfInBounds_toArray, List.set_cons_zero, List.set_cons_succ])
  refine wpAnyH_take (i := 10) (oi := { dst := some 53, op := Op.move (Operand.tmp 7), type := 3, pos := "law.go:99", after := #[{ on := 8, ground := Ground.guard }], guard := some (8, false) }) (v := ?_) rfl (by kernel_rfl) (by kernel_rfl) (by kernel_rfl) (fun _ _ _ h => h) (Or.inl ⟨by rfl, ?_⟩) (by assumption) ?_
  rotate_left
  · (intro w hSw; (try dsimp only at hSw); (try have hcs := hcells w hSw); (try go_split_ands); go_simp <;> with_reducible rfl)
  (try simp only [Act.put, List.setIfInBounds_toArray, List.set_cons_zero, List.set_cons_succ])
  refine wpAnyH_take (i := 11) (oi := { dst := some 54, op := Op.move (Operand.tmp 1), type := 3, pos := "law.go:99", after := #[{ on := 8, ground := Ground.guard }], guard := some (8, false) }) (v := ?_) rfl (by kernel_rfl) (by kernel_rfl) (by kernel_rfl) (fun _ _ _ h => h) (Or.inl ⟨by rfl, ?_⟩) (by assumption) ?_
  rotate_left
  · (intro w hSw; (try dsimp only at hSw); (try have hcs := hcells w hSw); (try go_split_ands); go_simp <;> with_reducible rfl)
  (try simp only [Act.put, List.setIfInBounds_toArray, List.set_cons_zero, List.set_cons_succ])
  refine wpAnyH_take (i := 12) (oi := { dst := some 55, op := Op.binOp BinOp.add 3 (Operand.tmp 53) (Operand.tmp 54) 3, type := 3, pos := "law.go:99", after := #[{ on := 10, ground := Ground.data }, { on := 11, ground := Ground.data }, { on := 8, ground := Ground.guard }], guard := some (8, false) }) (v := ?_) rfl (by kernel_rfl) (by kernel_rfl) (by kernel_rfl) (fun _ _ _ h => h) (Or.inl ⟨by rfl, ?_⟩) (by assumption) ?_
  rotate_left
  · (intro w hSw; (try dsimp only at hSw); (try have hcs := hcells w hSw); (try go_split_ands); go_simp <;> with_reducible rfl)
  (try simp only [Act.put, List.setIfInBounds_toArray, List.set_cons_zero, List.set_cons_succ])
  refine wpAnyH_take (i := 15) (oi := { dst := some 58, op := Op.move (Operand.tmp 0), type := 3, pos := "law.go:99", after := #[{ on := 8, ground := Ground.guard }], guard := some (8, false) }) (v := ?_) rfl (by kernel_rfl) (by kernel_rfl) (by kernel_rfl) (fun _ _ _ h => h) (Or.inl ⟨by rfl, ?_⟩) (by assumption) ?_
  rotate_left
  · (intro w hSw; (try dsimp only at hSw); (try have hcs := hcells w hSw); (try go_split_ands); go_simp <;> with_reducible rfl)
  (try simp only [Act.put, List.setIfInBounds_toArray, List.set_cons_zero, List.set_cons_succ])
  refine wpAnyH_ready (rs := [13]) (by kernel_rfl) (by simp) ?_
  refine AllReadyH.cons (o := { dst := some 56, op := Op.call { callee := Callee.value (Operand.func 14), args := #[Operand.tmp 55], argTypes := #[3] }, type := 29, pos := "law.go:99", after := #[{ on := 12, ground := Ground.data }, { on := 8, ground := Ground.chain }, { on := 8, ground := Ground.guard }], guard := some (8, false) }) rfl (fun K hK => ?_) ?_
  · go_simp
    refine (CTT _).mono ?_
    rintro e w5 ⟨T, rfl, hT, hg5⟩
    obtain ⟨Ts, Ta, Tn, Tc, rfl⟩ := hT.shape
    (try go_wp2_with fail)
    refine hK.out _ _ (by (try dsimp only); exact hcl _ _ hHeld (by first | with_reducible assumption | with_reducible exact IsGr.refl _ | with_reducible exact (IsGr.refl _).alloc _ | with_reducible exact ((IsGr.refl _).alloc _).alloc _ | assumption)) (fun hHeld2 => ?_)
    clear hK K hHeld
    have hHeld := hHeld2
    clear hHeld2
    (try simp only [Act.put, List.setIfInBounds_toArray, List.set_cons_zero, List.set_cons_succ])
    refine wpAnyH_ready (rs := [14]) (by kernel_rfl) (by simp) ?_
    refine AllReadyH.cons (o := { dst := some 57, op := Op.call { callee := Callee.value (Operand.func 13), args := #[Operand.tmp 52, Operand.tmp 56], argTypes := #[29, 29] }, type := 29, pos := "law.go:99", after := #[{ on := 9, ground := Ground.data }, { on := 13, ground := Ground.data }, { on := 13, ground := Ground.chain }, { on := 8, ground := Ground.guard }], guard := some (8, false) }) rfl (fun K hK => ?_) ?_
    · go_simp
      refine (BigMul_any _ _ M (10 ^ (pE + fine).toNat) _ (HX.out.gr (hgr _ hHeld)) (hT.gr (by first | with_reducible assumption | with_reducible exact IsGr.refl _ | with_reducible exact (IsGr.refl _).alloc _ | with_reducible exact ((IsGr.refl _).alloc _).alloc _ | assumption)) s3 s2).mono ?_
      rintro e w6 ⟨N, rfl, hN, hg6⟩
      rw [HMT.out] at hN
      obtain ⟨Ns, Na, Nn, Nc, rfl⟩ := hN.shape
      (try go_wp2_with fail)
      refine hK.out _ _ (by (try dsimp only); exact hcl _ _ hHeld (by first | with_reducible assumption | with_reducible exact IsGr.refl _ | with_reducible exact (IsGr.refl _).alloc _ | with_reducible exact ((IsGr.refl _).alloc _).alloc _ | assumption)) (fun hHeld2 => ?_)
      clear hK K hHeld
      have hHeld := hHeld2
      clear hHeld2
      (try simp only [Act.put, List.setIfInBounds_toArray, List.set_cons_zero, List.set_cons_succ])
      refine wpAnyH_ready (rs := [16]) (by kernel_rfl) (by simp) ?_
      refine AllReadyH.cons (o := { dst := some 59, op := Op.call { callee := Callee.value (Operand.func 12), args := #[Operand.tmp 58], argTypes := #[3] }, type := 29, pos := "law.go:99", after := #[{ on := 15, ground := Ground.data }, { on := 14, ground := Ground.chain }, { on := 8, ground := Ground.guard }], guard := some (8, false) }) rfl (fun K hK => ?_) ?_
      · go_simp
        refine (CO _).mono ?_
        rintro e w7 ⟨O, rfl, hO, hg7⟩
        obtain ⟨Os, Oa, On, Oc, rfl⟩ := hO.shape
        (try go_wp2_with fail)
        refine hK.out _ _ (by (try dsimp only); exact hcl _ _ hHeld (by first | with_reducible assumption | with_reducible exact IsGr.refl _ | with_reducible exact (IsGr.refl _).alloc _ | with_reducible exact ((IsGr.refl _).alloc _).alloc _ | assumption)) (fun hHeld2 => ?_)
        clear hK K hHeld
        have hHeld := hHeld2
        clear hHeld2
        (try simp only [Act.put, List.setIfInBounds_toArray, List.set_cons_zero, List.set_cons_succ])
        refine wpAnyH_ready (rs := [17]) (by kernel_rfl) (by simp) ?_
        refine AllReadyH.cons (o := { dst := some 60, op := Op.call { callee := Callee.value (Operand.func 15), args := #[Operand.tmp 57, Operand.tmp 59], argTypes := #[29, 29] }, type := 3, pos := "law.go:99", after := #[{ on := 14, ground := Ground.data }, { on := 16, ground := Ground.data }, { on := 16, ground := Ground.chain }, { on := 8, ground := Ground.guard }], guard := some (8, false) }) rfl (fun K hK => ?_) ?_
        · go_simp
          refine (BigCmp_any _ _ n n _ (hN.gr (by first | with_reducible assumption | with_reducible exact IsGr.refl _ | with_reducible exact (IsGr.refl _).alloc _ | with_reducible exact ((IsGr.refl _).alloc _).alloc _ | assumption)) (hO.gr (by first | with_reducible assumption | with_reducible exact IsGr.refl _ | with_reducible exact (IsGr.refl _).alloc _ | with_reducible exact ((IsGr.refl _).alloc _).alloc _ | assumption)) s1 s1).mono ?_
          rintro e w8 ⟨rfl, hg8⟩
          (try go_wp2_with fail)
          refine hK.out _ _ (by (try dsimp only); exact hcl _ _ hHeld (by first | with_reducible assumption | with_reducible exact IsGr.refl _ | with_reducible exact (IsGr.refl _).alloc _ | with_reducible exact ((IsGr.refl _).alloc _).alloc _ | assumption)) (fun hHeld2 => ?_)
          clear hK K hHeld
          have hHeld := hHeld2
          clear hHeld2
          (try simp only [Act.put, List.setIfInBounds_toArray, List.set_cons_zero, List.set_cons_succ])
          refine wpAnyH_take (i := 18) (oi := { dst := some 61, op := Op.binOp BinOp.neq 3 (Operand.tmp 60) (Operand.const (Value.int IntKind.i64 0)) 3, type := 4, pos := "law.go:99", after := #[{ on := 17, ground := Ground.data }, { on := 8, ground := Ground.guard }], guard := some (8, false) }) (v := ?_) rfl (by kernel_rfl) (by kernel_rfl) (by kernel_rfl) (fun _ _ _ h => h) (Or.inl ⟨by rfl, ?_⟩) (by assumption) ?_
          rotate_left
          · (intro w hSw; (try dsimp only at hSw); (try have hcs := hcells w hSw); (try go_split_ands); go_simp <;> with_reducible rfl)
          (try simp only [Act.put, List.setIfInBounds_toArray, List.set_cons_zero, List.set_cons_succ])
          refine wpAnyH_take (i := 19) (oi := { dst := some 62, op := Op.pick (Operand.tmp 51) (Operand.const (Value.bool true)) (Operand.tmp 61), type := 4, pos := "law.go:99", after := #[{ on := 8, ground := Ground.data }, { on := 18, ground := Ground.data }], guard := none }) (v := ?_) rfl (by kernel_rfl) (by kernel_rfl) (by kernel_rfl) (fun _ _ _ h => h) (Or.inl ⟨by rfl, ?_⟩) (by assumption) ?_
          rotate_left
          · (intro w hSw; (try dsimp only at hSw); (try have hcs := hcells w hSw); (try go_split_ands); go_simp <;> with_reducible rfl)
          (try simp only [Act.put, List.setIfInBounds_toArray, List.set_cons_zero, List.set_cons_succ])
          refine wpAnyH_done (by kernel_rfl) ?_ _
          have hgq := hgr _ hHeld
          obtain ⟨wq, hwq⟩ : ∃ W, W = W := ⟨w, rfl⟩
          have HGW0 : Hid (IsGr w _) := HG1.out.trans hgq
          have HGW := HGW0
          clear hHeld hgr hin hcl hcells hgq c0 c1 HGW0 hwq wq hz
          go_wp2_with fail
          
          refine (CS _).mono ?_
          clear CS
          rintro e wS ⟨m, er, rfl, hsc, hgS⟩
          have HG : Hid (IsGr w wS) := HGW.out.trans hgS
          clear hgS
          by_cases hin : -1099511627775 ≤ n ∧ n ≤ 1099511627775
          · obtain ⟨rfl, rfl⟩ := hsc.ok HF.out HU.out (by unfold MxU; omega) (by unfold MxU; omega)
            have h1 : ¬ m < -1099511627775 := by omega
            have h2 : ¬ 1099511627775 < m := by omega
            clear hsc hin
            go_wp2_with fail
            refine (CA _ HG.out).mono ?_
            clear CA
            rintro e wF ⟨rfl, hgF⟩
            have HGF : Hid (IsGr w wF) := HG.out.trans hgF
            clear hgF
            go_wp2_with fail
            go_ret
            exact ⟨rfl, HGF.out⟩
          
          · obtain ⟨rfl, rfl⟩ := hsc.far HF.out HU.out (by unfold MxU; omega)
            by_cases h1 : n < -1099511627775
            · clear hsc hin
              go_wp2_with fail
              refine (CA _ HG.out).mono ?_
              clear CA
              rintro e wF ⟨rfl, hgF⟩
              have HGF : Hid (IsGr w wF) := HG.out.trans hgF
              clear hgF
              go_wp2_with fail
              go_ret
              exact ⟨rfl, HGF.out⟩
          
            · have h2 : 1099511627775 < n := by omega
              clear hsc hin
              go_wp2_with fail
              refine (CA _ HG.out).mono ?_
              clear CA
              rintro e wF ⟨rfl, hgF⟩
              have HGF : Hid (IsGr w wF) := HG.out.trans hgF
              clear hgF
              go_wp2_with fail
              go_ret
              exact ⟨rfl, HGF.out⟩
          
        exact AllReadyH.nil
      exact AllReadyH.nil
    exact AllReadyH.nil
  exact AllReadyH.nil

set_option maxRecDepth 20000 in set_option maxHeartbeats 2000000 in
theorem texts_nf (C : DecC) (n fine : Int) (hi : I64 n) (hj : I64 fine) (hf : 0 ≤ fine ∧ fine ≤ 9) (hn0 : n ≠ 0) (M : Int) (k : Nat) (d0 cL : Int) (hx : TxR n fine (strOfNums (textU n fine)) true 1 M k d0 cL) (hd : d0 ≠ 48) (hk : 0 < k) (w : World) (HTB : TabW w) : Calls Tryd.prog 4 #[.int .i64 n, .int .i64 fine] w fun e w' => e = .returned (.bool true) ∧ IsGr w w' := by
  have CA := fun w' (hg : IsGr w w') => dawake_any C w' (HTB.gr hg)
  have CT := C.text n fine w HTB hi hj
  obtain ⟨s, hs⟩ : ∃ s, strOfNums (textU n fine) = s := ⟨_, rfl⟩
  rw [hs] at hx CT
  obtain ⟨sg, l1, dt, l2, hspl, hM, hk2⟩ := hx.num
  have CS := fun w => C.scale s fine w M (0 - (k : Nat)) (by have := hx.size; omega) hj ⟨_, _, _, _, _, _, _, hspl, hM, by rw [hk2]⟩
  have CR := fun w => RRight_any s w (by have := hx.size; omega)
  rw [hspl.right] at CR
  have CN := fun w => Number_any s w true sg l1 dt l2 [] 0 hspl hx.size (by simp)
  rw [← hM, hk2] at CN
  have hu := hx.unit
  have hpos : 0 < s.size := by have := hx.at0; omega
  have hA := hx.at0.2.1
  have hat0 := bts_at hpos
  have hatA := bts_at hA
  have hatL := bts_at (show s.size - 1 < s.size by omega)
  rw [hx.at0.1] at hatA
  rw [hx.last.1] at hatL
  have hdr := dg_range hx.at0.2.2
  have HF : Hid (0 ≤ fine ∧ fine ≤ 9) := hf
  have HU : Hid (UnitIs M (0 - (k : Nat) + fine) n) := Or.inl ⟨by omega, by rw [show (0 - ((k : Nat) : Int) + fine).toNat = fine.toNat - k by omega]; exact hu.1⟩
  have CTT := fun w => Ten_any (0 - (k : Nat) + fine) w (by omega)
  have hnr : -9223372036854775808 ≤ n ∧ n < 9223372036854775808 := hi
  have CO := fun w => BigOf_any n hnr.1 hnr.2 w
  have s1 : Sm n := by unfold Sm; omega
  have s2 := ten_sm (0 - ((k : Nat) : Int) + fine).toNat (by omega)
  have s3 : Sm M := by
    rw [hM]
    have hb := dvl_bound (hspl.d1.app hspl.d2)
    have hl : (l1 ++ l2).length ≤ 60 := by
      have h1 := congrArg List.length hspl.eq
      rw [bts_len] at h1
      simp only [List.length_append] at h1 ⊢
      have := hx.size
      omega
    have h3 := sgI_bound (neg := true) hb hl
    have h4 : (10 : Int) ^ 60 ≤ 4149515568880992958512407863691161151012446232242436899995657329690652811412908146399707048947103794288197886611300789182395151075411775307886874834113963687061181803401509523685376 := by decide +kernel
    unfold Sm; omega
  have HMT : Hid (M * 10 ^ (0 - ((k : Nat) : Int) + fine).toNat = n) := by
    show _ = _
    rw [show (0 - ((k : Nat) : Int) + fine).toNat = fine.toNat - k by omega]
    exact hu.1.symm
  have hz : (cmpI n n != 0) = false := by unfold cmpI; simp
  have h45 : ((s[0]'hpos).toNat : Int) = 45 := by rw [← hat0]; exact (hx.first.1 rfl).2
  obtain ⟨cA, hcA⟩ : ∃ c : Int, ((s[1]'hA).toNat : Int) = c := ⟨_, rfl⟩
  rw [hcA] at hatA
  obtain rfl := hatA
  have e0 : IntKind.i64.wrap ((s.size : Int) - 1) = ((s.size - 1 : Nat) : Int) := by rw [IntKind.wrap_i64]; have := hx.size; omega
  obtain ⟨L, hL⟩ : ∃ L, s.size - 1 = L := ⟨_, rfl⟩
  have hLs : L < s.size := by omega
  have hLc : ((s[L]'hLs).toNat : Int) = cL := by simp only [hL] at hatL; exact hatL.symm
  rw [hL] at e0
  have hLs' : (L : Int) < s.size := by omega
  have hL0 : (0 : Int) ≤ L := by omega
  have qL46 : (cL == 46) = false := by simpa using hx.last.2.1
  have hpos' : (0 : Int) < s.size := by omega
  have hA' : (1 : Int) < s.size := by omega
  have qn : (n == 0) = false := by simpa using hn0
  have q48 : (d0 == 48) = false := by simpa using hd
  have qL48 : (cL == 48) = false := by simpa using hx.last.2.2 hk
  have hp1 : (0 : Int) - (k : Nat) < 0 := by omega
  obtain ⟨pE, hpE⟩ : ∃ pE : Int, (0 : Int) - ((k : Nat) : Int) = pE := ⟨_, rfl⟩
  have hpf : decide (pE < -fine) = false := decide_eq_false (by omega)
  have hpd : decide (0 < pE) = false := decide_eq_false (by omega)
  have efn : IntKind.i64.wrap (-fine) = -fine := by rw [IntKind.wrap_i64]; omega
  have epf : IntKind.i64.wrap (pE + fine) = pE + fine := by rw [IntKind.wrap_i64]; omega
  have hf0 : ¬ fine < 0 := by omega
  have hf9 : ¬ 9 < fine := by omega
  rw [hpE] at CS HU CTT s2 HMT hp1 CN
  clear hs hx hspl hM hk2 hu hat0 hatL hdr hf hj hi hn0 C HTB hL hpE hnr
  go_enter Tryd.func4, Tryd.ntmps4
  go_wp2_with fail
  refine CT.mono ?_
  clear CT
  rintro e w1 ⟨rfl, hg1⟩
  go_wp2_with fail
  refine (CR _).mono ?_
  clear CR
  rintro e w2 ⟨rfl, hg2⟩
  obtain rfl := hg2.symm
  go_wp2_with fail
  refine (CN _).mono ?_
  clear CN
  rintro e w3 ⟨v, rfl, hv, hg3⟩
  obtain ⟨vs, va, vn, vc, rfl⟩ := hv.shape
  have hX := BgB.new hv
  obtain ⟨v1s, v1a, v1n, v1c, hxb, hxB⟩ := hX
  obtain ⟨c0, c1, f0, f1⟩ := block_two hxb
  have HG1 : Hid (IsGr w (w3.alloc (.cells #[.bool vs, .slice va vn vc] 29))) := (hg1.trans hg3).trans ((IsGr.refl w3).alloc _)
  have HX : Hid (IsBig (w3.alloc (.cells #[.bool vs, .slice va vn vc] 29)) (.agg #[.bool v1s, .slice v1a v1n v1c]) M) := hxB
  clear hv hg1 hg3 hxb hxB
  go_upto_region 7 with fail
  obtain ⟨PX, hPX⟩ : ∃ P, w3.heap.size = P := ⟨_, rfl⟩
  obtain ⟨w4, hw4⟩ : ∃ W, w3.alloc (.cells #[.bool vs, .slice va vn vc] 29) = W := ⟨_, rfl⟩
  rw [hw4] at HG1 HX c0 c1
  rw [hPX] at c0 c1
  rw [hPX, hw4]
  clear hPX hw4 f0 f1
  obtain ⟨C, hin, hcl, hcells, hgr⟩ : ∃ C : World → Prop, (∀ w', IsGr w4 w' → C w') ∧ (∀ u u', C u → IsGr u u' → C u') ∧ (∀ w', C w' → (w'.cell? ⟨PX, 0, none⟩ = some (.bool v1s)) ∧ (w'.cell? ⟨PX, 1, none⟩ = some (.slice v1a v1n v1c))) ∧ (∀ w', C w' → IsGr w4 w') := ⟨fun w' => IsGr w4 w', fun _ h => h, fun _ _ h k => h.trans k, fun w' hg => ⟨cellk c0 hg, cellk c1 hg⟩, fun _ h => h⟩
  refine wp_region_held_drew (S := C) (by kernel_rfl) (by (try dsimp only); exact hin _ (by with_reducible repeat (first | exact IsGr.refl _ | refine IsGr.gr ?_ _ _ | refine IsGr.alloc ?_ _ | refine IsGr.drew ?_ | refine IsGr.drewN ?_ _))) (fun hHeld => ?_)
  refine wpAnyH_take (i := 0) (oi := { dst := some 43, op := Op.move (Operand.tmp 7), type := 3, pos := "law.go:99", after := #[], guard := none }) (v := ?_) rfl (by kernel_rfl) (by kernel_rfl) (by kernel_rfl) (fun _ _ _ h => h) (Or.inl ⟨by rfl, ?_⟩) (by assumption) ?_
  rotate_left
  · (intro w hSw; (try dsimp only at hSw); (try have hcs := hcells w hSw); (try go_split_ands); go_simp <;> with_reducible rfl)
  (try simp only [Act.put, List.setIfInBounds_toArray, List.set_cons_zero, List.set_cons_succ])
  refine wpAnyH_take (i := 1) (oi := { dst := some 44, op := Op.binOp BinOp.gtr 3 (Operand.tmp 43) (Operand.const (Value.int IntKind.i64 0)) 3, type := 4, pos := "law.go:99", after := #[{ on := 0, ground := Ground.data }], guard := none }) (v := ?_) rfl (by kernel_rfl) (by kernel_rfl) (by kernel_rfl) (fun _ _ _ h => h) (Or.inl ⟨by rfl, ?_⟩) (by assumption) ?_
  rotate_left
  · (intro w hSw; (try dsimp only at hSw); (try have hcs := hcells w hSw); (try go_split_ands); go_simp <;> with_reducible rfl)
  (try simp only [Act.put, List.setIfInBounds_toArray, List.set_cons_zero, List.set_cons_succ])
  refine wpAnyH_take (i := 2) (oi := { dst := some 45, op := Op.move (Operand.tmp 44), type := 4, pos := "law.go:99", after := #[{ on := 1, ground := Ground.data }], guard := none }) (v := ?_) rfl (by kernel_rfl) (by kernel_rfl) (by kernel_rfl) (fun _ _ _ h => h) (Or.inl ⟨by rfl, ?_⟩) (by assumption) ?_
  rotate_left
  · (intro w hSw; (try dsimp only at hSw); (try have hcs := hcells w hSw); (try go_split_ands); go_simp <;> with_reducible rfl)
  (try simp only [Act.put, List.setIfInBounds_toArray, List.set_cons_zero, List.set_cons_succ])
  refine wpAnyH_take (i := 3) (oi := { dst := some 46, op := Op.move (Operand.tmp 7), type := 3, pos := "law.go:99", after := #[{ on := 2, ground := Ground.guard }], guard := some (2, false) }) (v := ?_) rfl (by kernel_rfl) (by kernel_rfl) (by kernel_rfl) (fun _ _ _ h => h) (Or.inl ⟨by rfl, ?_⟩) (by assumption) ?_
  rotate_left
  · (intro w hSw; (try dsimp only at hSw); (try have hcs := hcells w hSw); (try go_split_ands); go_simp <;> with_reducible rfl)
  (try simp only [Act.put, List.setIfInBounds_toArray, List.set_cons_zero, List.set_cons_succ])
  refine wpAnyH_take (i := 4) (oi := { dst := some 47, op := Op.move (Operand.tmp 1), type := 3, pos := "law.go:99", after := #[{ on := 2, ground := Ground.guard }], guard := some (2, false) }) (v := ?_) rfl (by kernel_rfl) (by kernel_rfl) (by kernel_rfl) (fun _ _ _ h => h) (Or.inl ⟨by rfl, ?_⟩) (by assumption) ?_
  rotate_left
  · (intro w hSw; (try dsimp only at hSw); (try have hcs := hcells w hSw); (try go_split_ands); go_simp <;> with_reducible rfl)
  (try simp only [Act.put, List.setIfInBounds_toArray, List.set_cons_zero, List.set_cons_succ])
  refine wpAnyH_take (i := 5) (oi := { dst := some 48, op := Op.unOp UnOp.neg 3 (Operand.tmp 47), type := 3, pos := "law.go:99", after := #[{ on := 4, ground := Ground.data }, { on := 2, ground := Ground.guard }], guard := some (2, false) }) (v := ?_) rfl (by kernel_rfl) (by kernel_rfl) (by kernel_rfl) (fun _ _ _ h => h) (Or.inl ⟨by rfl, ?_⟩) (by assumption) ?_
  rotate_left
  · (intro w hSw; (try dsimp only at hSw); (try have hcs := hcells w hSw); (try go_split_ands); go_simp <;> with_reducible rfl)
  (try simp only [Act.put, List.setIfInBounds_toArray, List.set_cons_zero, List.set_cons_succ])
  refine wpAnyH_take (i := 6) (oi := { dst := some 49, op := Op.binOp BinOp.lss 3 (Operand.tmp 46) (Operand.tmp 48) 3, type := 4, pos := "law.go:99", after := #[{ on := 3, ground := Ground.data }, { on := 5, ground := Ground.data }, { on := 2, ground := Ground.guard }], guard := some (2, false) }) (v := ?_) rfl (by kernel_rfl) (by kernel_rfl) (by kernel_rfl) (fun _ _ _ h => h) (Or.inl ⟨by rfl, ?_⟩) (by assumption) ?_
  rotate_left
  · (intro w hSw; (try dsimp only at hSw); (try have hcs := hcells w hSw); (try go_split_ands); go_simp <;> with_reducible rfl)
  (try simp only [Act.put, List.setIfInBounds_toArray, List.set_cons_zero, List.set_cons_succ])
  refine wpAnyH_take (i := 7) (oi := { dst := some 50, op := Op.pick (Operand.tmp 45) (Operand.const (Value.bool true)) (Operand.tmp 49), type := 4, pos := "law.go:99", after := #[{ on := 2, ground := Ground.data }, { on := 6, ground := Ground.data }], guard := none }) (v := ?_) rfl (by kernel_rfl) (by kernel_rfl) (by kernel_rfl) (fun _ _ _ h => h) (Or.inl ⟨by rfl, ?_⟩) (by assumption) ?_
  rotate_left
  · (intro w hSw; (try dsimp only at hSw); (try have hcs := hcells w hSw); (try go_split_ands); go_simp <;> with_reducible rfl)
  (try simp only [Act.put, List.setIfInBounds_toArray, List.set_cons_zero, List.set_cons_succ])
  refine wpAnyH_take (i := 8) (oi := { dst := some 51, op := Op.move (Operand.tmp 50), type := 4, pos := "law.go:99", after := #[{ on := 7, ground := Ground.data }, { on := 2, ground := Ground.chain }], guard := none }) (v := ?_) rfl (by kernel_rfl) (by kernel_rfl) (by kernel_rfl) (fun _ _ _ h => h) (Or.inl ⟨by rfl, ?_⟩) (by assumption) ?_
  rotate_left
  · (intro w hSw; (try dsimp only at hSw); (try have hcs := hcells w hSw); (try go_split_ands); go_simp <;> with_reducible rfl)
  (try simp only [Act.put, List.setIfInBounds_toArray, List.set_cons_zero, List.set_cons_succ])
  refine wpAnyH_take (i := 9) (oi := { dst := some 52, op := Op.load 29 (Operand.tmp 6), type := 29, pos := "law.go:99", after := #[{ on := 8, ground := Ground.guard }], guard := some (8, false) }) (v := ?_) rfl (by kernel_rfl) (by kernel_rfl) (by kernel_rfl) (fun _ _ _ h => h) (Or.inl ⟨by rfl, ?_⟩) (by assumption) ?_
  rotate_left
  · (intro w hSw; (try dsimp only at hSw); (try have hcs := hcells w hSw); (try go_split_ands); go_simp <;> with_reducible rfl)
  (try simp only [Act.put, List.setIfInBounds_toArray, List.set_cons_zero, List.set_cons_succ])
  refine wpAnyH_take (i := 10) (oi := { dst := some 53, op := Op.move (Operand.tmp 7), type := 3, pos := "law.go:99", after := #[{ on := 8, ground := Ground.guard }], guard := some (8, false) }) (v := ?_) rfl (by kernel_rfl) (by kernel_rfl) (by kernel_rfl) (fun _ _ _ h => h) (Or.inl ⟨by rfl, ?_⟩) (by assumption) ?_
  rotate_left
  · (intro w hSw; (try dsimp only at hSw); (try have hcs := hcells w hSw); (try go_split_ands); go_simp <;> with_reducible rfl)
  (try simp only [Act.put, List.setIfInBounds_toArray, List.set_cons_zero, List.set_cons_succ])
  refine wpAnyH_take (i := 11) (oi := { dst := some 54, op := Op.move (Operand.tmp 1), type := 3, pos := "law.go:99", after := #[{ on := 8, ground := Ground.guard }], guard := some (8, false) }) (v := ?_) rfl (by kernel_rfl) (by kernel_rfl) (by kernel_rfl) (fun _ _ _ h => h) (Or.inl ⟨by rfl, ?_⟩) (by assumption) ?_
  rotate_left
  · (intro w hSw; (try dsimp only at hSw); (try have hcs := hcells w hSw); (try go_split_ands); go_simp <;> with_reducible rfl)
  (try simp only [Act.put, List.setIfInBounds_toArray, List.set_cons_zero, List.set_cons_succ])
  refine wpAnyH_take (i := 12) (oi := { dst := some 55, op := Op.binOp BinOp.add 3 (Operand.tmp 53) (Operand.tmp 54) 3, type := 3, pos := "law.go:99", after := #[{ on := 10, ground := Ground.data }, { on := 11, ground := Ground.data }, { on := 8, ground := Ground.guard }], guard := some (8, false) }) (v := ?_) rfl (by kernel_rfl) (by kernel_rfl) (by kernel_rfl) (fun _ _ _ h => h) (Or.inl ⟨by rfl, ?_⟩) (by assumption) ?_
  rotate_left
  · (intro w hSw; (try dsimp only at hSw); (try have hcs := hcells w hSw); (try go_split_ands); go_simp <;> with_reducible rfl)
  (try simp only [Act.put, List.setIfInBounds_toArray, List.set_cons_zero, List.set_cons_succ])
  refine wpAnyH_take (i := 15) (oi := { dst := some 58, op := Op.move (Operand.tmp 0), type := 3, pos := "law.go:99", after := #[{ on := 8, ground := Ground.guard }], guard := some (8, false) }) (v := ?_) rfl (by kernel_rfl) (by kernel_rfl) (by kernel_rfl) (fun _ _ _ h => h) (Or.inl ⟨by rfl, ?_⟩) (by assumption) ?_
  rotate_left
  · (intro w hSw; (try dsimp only at hSw); (try have hcs := hcells w hSw); (try go_split_ands); go_simp <;> with_reducible rfl)
  (try simp only [Act.put, List.setIfInBounds_toArray, List.set_cons_zero, List.set_cons_succ])
  refine wpAnyH_ready (rs := [13]) (by kernel_rfl) (by simp) ?_
  refine AllReadyH.cons (o := { dst := some 56, op := Op.call { callee := Callee.value (Operand.func 14), args := #[Operand.tmp 55], argTypes := #[3] }, type := 29, pos := "law.go:99", after := #[{ on := 12, ground := Ground.data }, { on := 8, ground := Ground.chain }, { on := 8, ground := Ground.guard }], guard := some (8, false) }) rfl (fun K hK => ?_) ?_
  · go_simp
    refine (CTT _).mono ?_
    rintro e w5 ⟨T, rfl, hT, hg5⟩
    obtain ⟨Ts, Ta, Tn, Tc, rfl⟩ := hT.shape
    (try go_wp2_with fail)
    refine hK.out _ _ (by (try dsimp only); exact hcl _ _ hHeld (by first | with_reducible assumption | with_reducible exact IsGr.refl _ | with_reducible exact (IsGr.refl _).alloc _ | with_reducible exact ((IsGr.refl _).alloc _).alloc _ | assumption)) (fun hHeld2 => ?_)
    clear hK K hHeld
    have hHeld := hHeld2
    clear hHeld2
    (try simp only [Act.put, List.setIfInBounds_toArray, List.set_cons_zero, List.set_cons_succ])
    refine wpAnyH_ready (rs := [14]) (by kernel_rfl) (by simp) ?_
    refine AllReadyH.cons (o := { dst := some 57, op := Op.call { callee := Callee.value (Operand.func 13), args := #[Operand.tmp 52, Operand.tmp 56], argTypes := #[29, 29] }, type := 29, pos := "law.go:99", after := #[{ on := 9, ground := Ground.data }, { on := 13, ground := Ground.data }, { on := 13, ground := Ground.chain }, { on := 8, ground := Ground.guard }], guard := some (8, false) }) rfl (fun K hK => ?_) ?_
    · go_simp
      refine (BigMul_any _ _ M (10 ^ (pE + fine).toNat) _ (HX.out.gr (hgr _ hHeld)) (hT.gr (by first | with_reducible assumption | with_reducible exact IsGr.refl _ | with_reducible exact (IsGr.refl _).alloc _ | with_reducible exact ((IsGr.refl _).alloc _).alloc _ | assumption)) s3 s2).mono ?_
      rintro e w6 ⟨N, rfl, hN, hg6⟩
      rw [HMT.out] at hN
      obtain ⟨Ns, Na, Nn, Nc, rfl⟩ := hN.shape
      (try go_wp2_with fail)
      refine hK.out _ _ (by (try dsimp only); exact hcl _ _ hHeld (by first | with_reducible assumption | with_reducible exact IsGr.refl _ | with_reducible exact (IsGr.refl _).alloc _ | with_reducible exact ((IsGr.refl _).alloc _).alloc _ | assumption)) (fun hHeld2 => ?_)
      clear hK K hHeld
      have hHeld := hHeld2
      clear hHeld2
      (try simp only [Act.put, List.setIfInBounds_toArray, List.set_cons_zero, List.set_cons_succ])
      refine wpAnyH_ready (rs := [16]) (by kernel_rfl) (by simp) ?_
      refine AllReadyH.cons (o := { dst := some 59, op := Op.call { callee := Callee.value (Operand.func 12), args := #[Operand.tmp 58], argTypes := #[3] }, type := 29, pos := "law.go:99", after := #[{ on := 15, ground := Ground.data }, { on := 14, ground := Ground.chain }, { on := 8, ground := Ground.guard }], guard := some (8, false) }) rfl (fun K hK => ?_) ?_
      · go_simp
        refine (CO _).mono ?_
        rintro e w7 ⟨O, rfl, hO, hg7⟩
        obtain ⟨Os, Oa, On, Oc, rfl⟩ := hO.shape
        (try go_wp2_with fail)
        refine hK.out _ _ (by (try dsimp only); exact hcl _ _ hHeld (by first | with_reducible assumption | with_reducible exact IsGr.refl _ | with_reducible exact (IsGr.refl _).alloc _ | with_reducible exact ((IsGr.refl _).alloc _).alloc _ | assumption)) (fun hHeld2 => ?_)
        clear hK K hHeld
        have hHeld := hHeld2
        clear hHeld2
        (try simp only [Act.put, List.setIfInBounds_toArray, List.set_cons_zero, List.set_cons_succ])
        refine wpAnyH_ready (rs := [17]) (by kernel_rfl) (by simp) ?_
        refine AllReadyH.cons (o := { dst := some 60, op := Op.call { callee := Callee.value (Operand.func 15), args := #[Operand.tmp 57, Operand.tmp 59], argTypes := #[29, 29] }, type := 3, pos := "law.go:99", after := #[{ on := 14, ground := Ground.data }, { on := 16, ground := Ground.data }, { on := 16, ground := Ground.chain }, { on := 8, ground := Ground.guard }], guard := some (8, false) }) rfl (fun K hK => ?_) ?_
        · go_simp
          refine (BigCmp_any _ _ n n _ (hN.gr (by first | with_reducible assumption | with_reducible exact IsGr.refl _ | with_reducible exact (IsGr.refl _).alloc _ | with_reducible exact ((IsGr.refl _).alloc _).alloc _ | assumption)) (hO.gr (by first | with_reducible assumption | with_reducible exact IsGr.refl _ | with_reducible exact (IsGr.refl _).alloc _ | with_reducible exact ((IsGr.refl _).alloc _).alloc _ | assumption)) s1 s1).mono ?_
          rintro e w8 ⟨rfl, hg8⟩
          (try go_wp2_with fail)
          refine hK.out _ _ (by (try dsimp only); exact hcl _ _ hHeld (by first | with_reducible assumption | with_reducible exact IsGr.refl _ | with_reducible exact (IsGr.refl _).alloc _ | with_reducible exact ((IsGr.refl _).alloc _).alloc _ | assumption)) (fun hHeld2 => ?_)
          clear hK K hHeld
          have hHeld := hHeld2
          clear hHeld2
          (try simp only [Act.put, List.setIfInBounds_toArray, List.set_cons_zero, List.set_cons_succ])
          refine wpAnyH_take (i := 18) (oi := { dst := some 61, op := Op.binOp BinOp.neq 3 (Operand.tmp 60) (Operand.const (Value.int IntKind.i64 0)) 3, type := 4, pos := "law.go:99", after := #[{ on := 17, ground := Ground.data }, { on := 8, ground := Ground.guard }], guard := some (8, false) }) (v := ?_) rfl (by kernel_rfl) (by kernel_rfl) (by kernel_rfl) (fun _ _ _ h => h) (Or.inl ⟨by rfl, ?_⟩) (by assumption) ?_
          rotate_left
          · (intro w hSw; (try dsimp only at hSw); (try have hcs := hcells w hSw); (try go_split_ands); go_simp <;> with_reducible rfl)
          (try simp only [Act.put, List.setIfInBounds_toArray, List.set_cons_zero, List.set_cons_succ])
          refine wpAnyH_take (i := 19) (oi := { dst := some 62, op := Op.pick (Operand.tmp 51) (Operand.const (Value.bool true)) (Operand.tmp 61), type := 4, pos := "law.go:99", after := #[{ on := 8, ground := Ground.data }, { on := 18, ground := Ground.data }], guard := none }) (v := ?_) rfl (by kernel_rfl) (by kernel_rfl) (by kernel_rfl) (fun _ _ _ h => h) (Or.inl ⟨by rfl, ?_⟩) (by assumption) ?_
          rotate_left
          · (intro w hSw; (try dsimp only at hSw); (try have hcs := hcells w hSw); (try go_split_ands); go_simp <;> with_reducible rfl)
          (try simp only [Act.put, List.setIfInBounds_toArray, List.set_cons_zero, List.set_cons_succ])
          refine wpAnyH_done (by kernel_rfl) ?_ _
          have hgq := hgr _ hHeld
          obtain ⟨wq, hwq⟩ : ∃ W, W = W := ⟨w, rfl⟩
          have HGW0 : Hid (IsGr w _) := HG1.out.trans hgq
          have HGW := HGW0
          clear hHeld hgr hin hcl hcells hgq c0 c1 HGW0 hwq wq hz
          go_wp2_with fail
          
          refine (CS _).mono ?_
          clear CS
          rintro e wS ⟨m, er, rfl, hsc, hgS⟩
          have HG : Hid (IsGr w wS) := HGW.out.trans hgS
          clear hgS
          by_cases hin : -1099511627775 ≤ n ∧ n ≤ 1099511627775
          · obtain ⟨rfl, rfl⟩ := hsc.ok HF.out HU.out (by unfold MxU; omega) (by unfold MxU; omega)
            have h1 : ¬ m < -1099511627775 := by omega
            have h2 : ¬ 1099511627775 < m := by omega
            clear hsc hin
            go_wp2_with fail
            refine (CA _ HG.out).mono ?_
            clear CA
            rintro e wF ⟨rfl, hgF⟩
            have HGF : Hid (IsGr w wF) := HG.out.trans hgF
            clear hgF
            go_wp2_with fail
            go_ret
            exact ⟨rfl, HGF.out⟩
          
          · obtain ⟨rfl, rfl⟩ := hsc.far HF.out HU.out (by unfold MxU; omega)
            by_cases h1 : n < -1099511627775
            · clear hsc hin
              go_wp2_with fail
              refine (CA _ HG.out).mono ?_
              clear CA
              rintro e wF ⟨rfl, hgF⟩
              have HGF : Hid (IsGr w wF) := HG.out.trans hgF
              clear hgF
              go_wp2_with fail
              go_ret
              exact ⟨rfl, HGF.out⟩
          
            · have h2 : 1099511627775 < n := by omega
              clear hsc hin
              go_wp2_with fail
              refine (CA _ HG.out).mono ?_
              clear CA
              rintro e wF ⟨rfl, hgF⟩
              have HGF : Hid (IsGr w wF) := HG.out.trans hgF
              clear hgF
              go_wp2_with fail
              go_ret
              exact ⟨rfl, HGF.out⟩
          
        exact AllReadyH.nil
      exact AllReadyH.nil
    exact AllReadyH.nil
  exact AllReadyH.nil
theorem law_texts (C : DecC) (n fine : Int) (hi : I64 n) (hj : I64 fine) (w : World) (HTB : TabW w) : Calls Tryd.prog 4 #[.int .i64 n, .int .i64 fine] w fun e w' => e = .returned (.bool true) ∧ IsGr w w' := by
  by_cases h0 : fine < 0
  · exact texts_less C n fine hi hj h0 w HTB
  · by_cases h9 : 9 < fine
    · exact texts_more C n fine hi hj h9 w HTB
    · have hf : 0 ≤ fine ∧ fine ≤ 9 := by omega
      by_cases hn0 : n = 0
      · subst hn0; exact texts_zero C fine hj hf w HTB
      · obtain ⟨neg, A, M, k, d0, cL, hx⟩ := txr n fine hf (by unfold I64 at hi; omega) hn0
        have h1 := hx.first
        have hk : k = 0 ∨ 0 < k := by omega
        cases neg with
        | true =>
          obtain rfl := (h1.1 rfl).1
          by_cases hd : d0 = 48
          · exact texts_nz C n fine hi hj hf hn0 M k d0 cL hx hd w HTB
          · rcases hk with hk | hk
            · exact texts_ni C n fine hi hj hf hn0 M k d0 cL hx hd hk w HTB
            · exact texts_nf C n fine hi hj hf hn0 M k d0 cL hx hd hk w HTB
        | false =>
          obtain rfl := h1.2 rfl
          by_cases hd : d0 = 48
          · exact texts_pz C n fine hi hj hf hn0 M k d0 cL hx hd w HTB
          · rcases hk with hk | hk
            · exact texts_pi C n fine hi hj hf hn0 M k d0 cL hx hd hk w HTB
            · exact texts_pf C n fine hi hj hf hn0 M k d0 cL hx hd hk w HTB
end Go.Proofs.YtfpifbfnebfdaaaDoor
