/- gromalaw10.DecimalScales, given what package decimal answers. -/
import Derived.Test.YtfpifbfnebfdaaaDoorI11
import Derived.Test.YtfpifbfnebfdaaaDoorH5
namespace Go.Proofs.YtfpifbfnebfdaaaDoor
open Go.RowKit Go.Shelf
attribute [local go_sem] Gr.size Gr.cell? Gr.frozen? Gr.setCell Gr.drew Gr.drewN Gr.of_drew Gr.of_drewN Gr.gr Gr.lt_of1 Gr.le_of1 Gr.lt_of2 Gr.le_of2 Gr.lt_of3 Gr.le_of3 Gr.lt_of4 Gr.le_of4 Gr.lt_of5 Gr.le_of5 Gr.lt_of6 Gr.le_of6 Gr.lt_of7 Gr.le_of7 Gr.lt_of8 Gr.le_of8 Gr.lt_of9 Gr.le_of9 Gr.lt_of10 Gr.le_of10 Gr.lt_of11 Gr.le_of11 Gr.lt_of12 Gr.le_of12 Gr.lt_of13 Gr.le_of13 Gr.lt_of14 Gr.le_of14 Gr.lt_of15 Gr.le_of15 Gr.lt_of16 Gr.le_of16 Gr.lt_of17 Gr.le_of17 Gr.lt_of18 Gr.le_of18 Gr.lt_of19 Gr.le_of19 Gr.lt_of20 Gr.le_of20 Gr.lt_of21 Gr.le_of21 Gr.lt_of22 Gr.le_of22 Gr.lt_of23 Gr.le_of23 Gr.lt_of24 Gr.le_of24
/-- The three ways: it is so many units, too far, or no whole number of units. -/
theorem ScR.cases {M E fine n err : Int} (h : ScR M E fine n err) (hf : 0 ≤ fine ∧ fine ≤ 9) : (∃ k, UnitIs M (E + fine) k ∧ ((-MxU ≤ k ∧ k ≤ MxU ∧ n = k ∧ err = 0) ∨ ((k < -MxU ∨ MxU < k) ∧ n = 0 ∧ err = 23))) ∨ ((∀ k, ¬ UnitIs M (E + fine) k) ∧ n = 0 ∧ err = 22) := by
  rcases h with ⟨h, _⟩ | ⟨_, _, h⟩
  · omega
  · exact h

set_option maxRecDepth 20000 in set_option maxHeartbeats 2000000 in
theorem scales_np_o (C : DecC) (s : ByteArray) (fine : Int) (w : World) (n : Int) (hs : s.size ≤ 3000) (hr : rgtB (bts s) = true) (hf0 : 0 ≤ fine) (hf1 : fine ≤ 9) (hp : plB (bts s) = false)
    (CS : Calls Tryd.prog 8 #[.string s, .int .i64 fine] w fun e w' => e = .returned (.tuple #[.int .i64 n, .int .i64 0]) ∧ IsGr w w') (HTB : TabW w) : Calls Tryd.prog 3 #[.string s, .int .i64 fine] w fun e w' => e = .returned (.bool true) ∧ IsGr w w' := by
  have hs' : ¬ (3000 : Int) < s.size := by omega
  have CA := fun w' (hg : IsGr w w') => dawake_any C w' (HTB.gr hg)
  have CR := fun w => RRight_any s w (by omega)
  have CP := fun w => plain_any s w
  rw [hr] at CR
  rw [hp] at CP
  have hf0' : ¬ fine < 0 := by omega
  have hf1' : ¬ 9 < fine := by omega
  clear hs hr hp C HTB hf0 hf1
  go_enter Tryd.func3, Tryd.ntmps3
  go_wp2_with fail
  refine CS.mono ?_
  clear CS
  rintro e w1 ⟨rfl, hg1⟩
  go_wp2_with fail
  refine (CR _).mono ?_
  clear CR
  rintro e w2 ⟨rfl, hg2⟩
  obtain rfl := hg2.symm
  have HG2 : Hid (IsGr w w1) := hg1
  clear hg1
  go_wp2_with fail
  refine (CP _).mono ?_
  clear CP
  rintro e w4 ⟨rfl, hg4⟩
  obtain rfl := hg4.symm
  go_wp2_with fail
  refine (CA _ HG2.out).mono ?_
  clear CA
  rintro e w3 ⟨rfl, hg3⟩
  have HG3 : Hid (IsGr w w3) := HG2.out.trans hg3
  clear hg3 HG2
  go_wp2_with fail
  go_ret
  exact ⟨rfl, HG3.out⟩

set_option maxRecDepth 20000 in set_option maxHeartbeats 2000000 in
theorem scales_np_p (C : DecC) (s : ByteArray) (fine : Int) (w : World) (hs : s.size ≤ 3000) (hr : rgtB (bts s) = true) (hf0 : 0 ≤ fine) (hf1 : fine ≤ 9) (hp : plB (bts s) = false)
    (CS : Calls Tryd.prog 8 #[.string s, .int .i64 fine] w fun e w' => e = .returned (.tuple #[.int .i64 0, .int .i64 22]) ∧ IsGr w w') (HTB : TabW w) : Calls Tryd.prog 3 #[.string s, .int .i64 fine] w fun e w' => e = .returned (.bool true) ∧ IsGr w w' := by
  have hs' : ¬ (3000 : Int) < s.size := by omega
  have CA := fun w' (hg : IsGr w w') => dawake_any C w' (HTB.gr hg)
  have CR := fun w => RRight_any s w (by omega)
  have CP := fun w => plain_any s w
  rw [hr] at CR
  rw [hp] at CP
  have hf0' : ¬ fine < 0 := by omega
  have hf1' : ¬ 9 < fine := by omega
  clear hs hr hp C HTB hf0 hf1
  go_enter Tryd.func3, Tryd.ntmps3
  go_wp2_with fail
  refine CS.mono ?_
  clear CS
  rintro e w1 ⟨rfl, hg1⟩
  go_wp2_with fail
  refine (CR _).mono ?_
  clear CR
  rintro e w2 ⟨rfl, hg2⟩
  obtain rfl := hg2.symm
  have HG2 : Hid (IsGr w w1) := hg1
  clear hg1
  go_wp2_with fail
  refine (CP _).mono ?_
  clear CP
  rintro e w4 ⟨rfl, hg4⟩
  obtain rfl := hg4.symm
  go_wp2_with fail
  refine (CA _ HG2.out).mono ?_
  clear CA
  rintro e w3 ⟨rfl, hg3⟩
  have HG3 : Hid (IsGr w w3) := HG2.out.trans hg3
  clear hg3 HG2
  go_wp2_with fail
  go_ret
  exact ⟨rfl, HG3.out⟩

set_option maxRecDepth 20000 in set_option maxHeartbeats 2000000 in
theorem scales_np_f (C : DecC) (s : ByteArray) (fine : Int) (w : World) (hs : s.size ≤ 3000) (hr : rgtB (bts s) = true) (hf0 : 0 ≤ fine) (hf1 : fine ≤ 9) (hp : plB (bts s) = false)
    (CS : Calls Tryd.prog 8 #[.string s, .int .i64 fine] w fun e w' => e = .returned (.tuple #[.int .i64 0, .int .i64 23]) ∧ IsGr w w') (HTB : TabW w) : Calls Tryd.prog 3 #[.string s, .int .i64 fine] w fun e w' => e = .returned (.bool true) ∧ IsGr w w' := by
  have hs' : ¬ (3000 : Int) < s.size := by omega
  have CA := fun w' (hg : IsGr w w') => dawake_any C w' (HTB.gr hg)
  have CR := fun w => RRight_any s w (by omega)
  have CP := fun w => plain_any s w
  rw [hr] at CR
  rw [hp] at CP
  have hf0' : ¬ fine < 0 := by omega
  have hf1' : ¬ 9 < fine := by omega
  clear hs hr hp C HTB hf0 hf1
  go_enter Tryd.func3, Tryd.ntmps3
  go_wp2_with fail
  refine CS.mono ?_
  clear CS
  rintro e w1 ⟨rfl, hg1⟩
  go_wp2_with fail
  refine (CR _).mono ?_
  clear CR
  rintro e w2 ⟨rfl, hg2⟩
  obtain rfl := hg2.symm
  have HG2 : Hid (IsGr w w1) := hg1
  clear hg1
  go_wp2_with fail
  refine (CP _).mono ?_
  clear CP
  rintro e w4 ⟨rfl, hg4⟩
  obtain rfl := hg4.symm
  go_wp2_with fail
  refine (CA _ HG2.out).mono ?_
  clear CA
  rintro e w3 ⟨rfl, hg3⟩
  have HG3 : Hid (IsGr w w3) := HG2.out.trans hg3
  clear hg3 HG2
  go_wp2_with fail
  go_ret
  exact ⟨rfl, HG3.out⟩

set_option maxRecDepth 20000 in set_option maxHeartbeats 2000000 in
theorem scales_ok (C : DecC) (s : ByteArray) (fine : Int) (w : World) (neg : Bool) (sg l1 dt l2 ep : List Int) (p n X Y : Int) (hspl : Spl (bts s) neg sg l1 dt l2 ep p) (hf0 : 0 ≤ fine) (hf1 : fine ≤ 9) (hp : plB (bts s) = true)
    (hxy : SclI (sgI neg (dvl (l1 ++ l2))) (p - (l2.length : Nat) + fine) X Y) (hk : UnitIs (sgI neg (dvl (l1 ++ l2))) (p - (l2.length : Nat) + fine) n) (hk1 : -MxU ≤ n) (hk2 : n ≤ MxU)
    (CS : Calls Tryd.prog 8 #[.string s, .int .i64 fine] w fun e w' => e = .returned (.tuple #[.int .i64 n, .int .i64 0]) ∧ IsGr w w') (HTB : TabW w) : Calls Tryd.prog 3 #[.string s, .int .i64 fine] w fun e w' => e = .returned (.bool true) ∧ IsGr w w' := by
  obtain ⟨hb60, hep, hp0, hp1, hl⟩ := pl_spl hspl hp
  rw [bts_len] at hb60
  have hs' : ¬ (3000 : Int) < s.size := by omega
  have CA := fun w' (hg : IsGr w w') => dawake_any C w' (HTB.gr hg)
  have CR := fun w => RRight_any s w (by omega)
  have CP := fun w => plain_any s w
  have CN := fun w => Number_any s w neg sg l1 dt l2 ep p hspl hb60 hep
  have C1 := fun w => BigOf_any 1 (by omega) (by omega) w
  rw [hspl.right] at CR
  rw [hp] at CP
  obtain ⟨M, hM⟩ : ∃ M, sgI neg (dvl (l1 ++ l2)) = M := ⟨_, rfl⟩
  have hMb : -(10 ^ 60) ≤ M ∧ M ≤ 10 ^ 60 := by
    rw [← hM]
    exact sgI_bound (dvl_bound (hspl.d1.app hspl.d2)) (by rw [List.length_append]; exact hl)
  obtain ⟨E, hE⟩ : ∃ E, p - (l2.length : Nat) = E := ⟨_, rfl⟩
  have hEb : -160 ≤ E ∧ E ≤ 99 := by omega
  rw [hM, hE] at hxy
  rw [hM, hE] at CN
  have hbd := hxy.bound hMb (by omega) (by omega)
  have HXY : Hid (SclI M (E + fine) X Y ∧ (0 < Y ∧ Y ≤ 10 ^ 160 ∧ -(10 ^ 170) ≤ X ∧ X ≤ 10 ^ 170) ∧ (-160 ≤ E + fine ∧ E + fine ≤ 110) ∧ Sm M) := ⟨hxy, hbd, by omega, by
    have h3 : (10 : Int) ^ 60 ≤ 4149515568880992958512407863691161151012446232242436899995657329690652811412908146399707048947103794288197886611300789182395151075411775307886874834113963687061181803401509523685376 := by decide +kernel
    unfold Sm; omega⟩
  have hew : IntKind.i64.wrap (E + fine) = E + fine := by rw [IntKind.wrap_i64]; omega
  have hew2 : IntKind.i64.wrap (-(E + fine)) = -(E + fine) := by rw [IntKind.wrap_i64]; omega
  have hf0' : ¬ fine < 0 := by omega
  have hf1' : ¬ 9 < fine := by omega
  have HF : Hid (n * Y = X ∧ -1099511627775 ≤ n ∧ n ≤ 1099511627775) := ⟨hxy.unit.1 (by rw [← hM, ← hE]; exact hk), by unfold MxU at hk1; omega, by unfold MxU at hk2; omega⟩
  clear hspl hb60 hep hp0 hp1 hl hp C HTB hf0 hf1 hM hMb hE hEb hxy hbd hk hk1 hk2
  go_enter Tryd.func3, Tryd.ntmps3
  go_wp2_with fail
  refine CS.mono ?_
  clear CS
  rintro e w1 ⟨rfl, hg1⟩
  go_wp2_with fail
  refine (CR _).mono ?_
  clear CR
  rintro e w2 ⟨rfl, hg2⟩
  obtain rfl := hg2.symm
  go_wp2_with fail
  refine (CP _).mono ?_
  clear CP
  rintro e w3 ⟨rfl, hg3⟩
  obtain rfl := hg3.symm
  go_wp2_with fail
  refine (CN _).mono ?_
  clear CN
  rintro e w4 ⟨v, rfl, hv, hg4⟩
  obtain ⟨vs, va, vn, vc, rfl⟩ := hv.shape
  have HX4 : Hid (BgB (w4.alloc (.cells #[.bool vs, .slice va vn vc] 29)) w4.heap.size M ∧ IsGr w (w4.alloc (.cells #[.bool vs, .slice va vn vc] 29)) ∧ w.heap.size ≤ w4.heap.size) := ⟨BgB.new hv, (hg1.trans hg4).trans ((IsGr.refl w4).alloc _), (hg1.trans hg4).size⟩
  clear hv hg1 hg4
  go_wp2_with fail
  refine (C1 _).mono ?_
  clear C1
  rintro e w5 ⟨o, rfl, ho, hg5⟩
  obtain ⟨os, oa, on, oc, rfl⟩ := ho.shape
  have HY5 : Hid (BgB (w5.alloc (.cells #[.bool os, .slice oa on oc] 29)) w4.heap.size M ∧ BgB (w5.alloc (.cells #[.bool os, .slice oa on oc] 29)) w5.heap.size 1 ∧ IsGr w (w5.alloc (.cells #[.bool os, .slice oa on oc] 29)) ∧ w.heap.size ≤ w4.heap.size ∧ w4.heap.size < w5.heap.size) := ⟨(HX4.out.1.gr hg5).gr ((IsGr.refl w5).alloc _), BgB.new ho, (HX4.out.2.1.trans hg5).trans ((IsGr.refl w5).alloc _), HX4.out.2.2, by have := hg5.size; simp at this; omega⟩
  clear ho hg5 HX4
  go_upto_if 71 with fail
  obtain ⟨PX, hPX⟩ : ∃ P, w4.heap.size = P := ⟨_, rfl⟩
  obtain ⟨PY, hPY⟩ : ∃ P, w5.heap.size = P := ⟨_, rfl⟩
  obtain ⟨w6, hw6⟩ : ∃ W, w5.alloc (.cells #[.bool os, .slice oa on oc] 29) = W := ⟨_, rfl⟩
  rw [hPX, hPY, hw6] at HY5
  rw [hPX, hPY, hw6]
  clear hPX hPY hw6
  go_cut [] from 67 to 82 (fun wx => Hid (BgB wx PX X ∧ BgB wx PY Y ∧ IsGr w wx))
  case first =>
    obtain ⟨xs, xa, xn, xc, hxb, hxB⟩ := HY5.out.1
    obtain ⟨ys, ya, yn, yc, hyb, hyB⟩ := HY5.out.2.1
    obtain ⟨c0, c1, f0, f1⟩ := block_two hxb
    obtain ⟨d0, d1, g0, g1⟩ := block_two hyb
    have HB6 : Hid (IsBig w6 (.agg #[.bool xs, .slice xa xn xc]) M ∧ w.heap.size ≤ PX ∧ PX < PY) := ⟨hxB, HY5.out.2.2.2⟩
    clear hxb hxB hyb hyB
    by_cases hq : 0 ≤ E + fine
    · obtain ⟨hX, hY⟩ := HXY.out.1.pos hq
      have CTT := fun w => Ten_any (E + fine) w (by have := HXY.out.2.2.1; omega)
      have s1 := HXY.out.2.2.2
      have s2 := ten_sm (E + fine).toNat (by have := HXY.out.2.2.1; omega)
      have HQ : Hid (X = M * 10 ^ (E + fine).toNat ∧ Y = 1) := ⟨hX, hY⟩
      clear hX hY
      go_upto_region 11 with fail
      obtain ⟨C, hin, hcl, hcells, hgr⟩ : ∃ C : World → Prop, (∀ w', IsGr w6 w' → C w') ∧ (∀ u u', C u → IsGr u u' → C u') ∧ (∀ w', C w' → (w'.cell? ⟨PX, 0, none⟩ = some (.bool xs)) ∧ (w'.cell? ⟨PX, 1, none⟩ = some (.slice xa xn xc)) ∧ (w'.frozen? ⟨PX, 0, none⟩ = false) ∧ (w'.frozen? ⟨PX, 1, none⟩ = false)) ∧ (∀ w', C w' → IsGr w6 w') := ⟨fun w' => IsGr w6 w', fun _ h => h, fun _ _ h k => h.trans k, fun w' hg => ⟨cellk c0 hg, cellk c1 hg, frzk c0 f0 hg, frzk c1 f1 hg⟩, fun _ h => h⟩
      refine wp_region_but (S := C) (k := 6) (n := 6) (by kernel_rfl) (by kernel_rfl) (by (try dsimp only); exact hin _ (by with_reducible repeat (first | exact IsGr.refl _ | refine IsGr.gr ?_ _ _ | refine IsGr.alloc ?_ _ | refine IsGr.drew ?_ | refine IsGr.drewN ?_ _))) (fun hHeld => ?_)
      refine wpAnyH_take (i := 0) (oi := { dst := some 72, op := Op.load 29 (Operand.tmp 7), type := 29, pos := "law.go:53", after := #[], guard := none }) (v := ?_) rfl (by kernel_rfl) (by kernel_rfl) (by kernel_rfl) (fun _ _ _ h => h) (Or.inl ⟨by rfl, ?_⟩) (by assumption) ?_
      rotate_left
      · (intro w hSw; (try dsimp only at hSw); (try have hcs := hcells w hSw); (try go_split_ands); go_simp <;> with_reducible rfl)
      (try simp only [Act.put, List.setIfInBounds_toArray, List.set_cons_zero, List.set_cons_succ])
      refine wpAnyH_take (i := 1) (oi := { dst := some 73, op := Op.move (Operand.tmp 8), type := 3, pos := "law.go:53", after := #[], guard := none }) (v := ?_) rfl (by kernel_rfl) (by kernel_rfl) (by kernel_rfl) (fun _ _ _ h => h) (Or.inl ⟨by rfl, ?_⟩) (by assumption) ?_
      rotate_left
      · (intro w hSw; (try dsimp only at hSw); (try have hcs := hcells w hSw); (try go_split_ands); go_simp <;> with_reducible rfl)
      (try simp only [Act.put, List.setIfInBounds_toArray, List.set_cons_zero, List.set_cons_succ])
      refine wpAnyH_take (i := 2) (oi := { dst := some 74, op := Op.move (Operand.tmp 1), type := 3, pos := "law.go:53", after := #[], guard := none }) (v := ?_) rfl (by kernel_rfl) (by kernel_rfl) (by kernel_rfl) (fun _ _ _ h => h) (Or.inl ⟨by rfl, ?_⟩) (by assumption) ?_
      rotate_left
      · (intro w hSw; (try dsimp only at hSw); (try have hcs := hcells w hSw); (try go_split_ands); go_simp <;> with_reducible rfl)
      (try simp only [Act.put, List.setIfInBounds_toArray, List.set_cons_zero, List.set_cons_succ])
      refine wpAnyH_take (i := 3) (oi := { dst := some 75, op := Op.binOp BinOp.add 3 (Operand.tmp 73) (Operand.tmp 74) 3, type := 3, pos := "law.go:53", after := #[{ on := 1, ground := Ground.data }, { on := 2, ground := Ground.data }], guard := none }) (v := ?_) rfl (by kernel_rfl) (by kernel_rfl) (by kernel_rfl) (fun _ _ _ h => h) (Or.inl ⟨by rfl, ?_⟩) (by assumption) ?_
      rotate_left
      · (intro w hSw; (try dsimp only at hSw); (try have hcs := hcells w hSw); (try go_split_ands); go_simp <;> with_reducible rfl)
      (try simp only [Act.put, List.setIfInBounds_toArray, List.set_cons_zero, List.set_cons_succ])
      refine wpAnyH_ready (rs := [4]) (by kernel_rfl) (by simp) ?_
      refine AllReadyH.cons (o := { dst := some 76, op := Op.call { callee := Callee.value (Operand.func 14), args := #[Operand.tmp 75], argTypes := #[3] }, type := 29, pos := "law.go:53", after := #[{ on := 3, ground := Ground.data }], guard := none }) rfl (fun K hK => ?_) ?_
      · go_simp
        refine (CTT _).mono ?_
        rintro e w7 ⟨T, rfl, hT, hg7⟩
        obtain ⟨Ts, Ta, Tn, Tc, rfl⟩ := hT.shape
        (try go_wp2_with fail)
        refine hK.out _ _ (by (try dsimp only); exact hcl _ _ hHeld (by first | with_reducible assumption | with_reducible exact IsGr.refl _ | with_reducible exact (IsGr.refl _).alloc _ | with_reducible exact ((IsGr.refl _).alloc _).alloc _ | assumption)) (fun hHeld2 => ?_)
        clear hK K hHeld
        have hHeld := hHeld2
        clear hHeld2
        (try simp only [Act.put, List.setIfInBounds_toArray, List.set_cons_zero, List.set_cons_succ])
        refine wpAnyH_ready (rs := [5]) (by kernel_rfl) (by simp) ?_
        refine AllReadyH.cons (o := { dst := some 77, op := Op.call { callee := Callee.value (Operand.func 13), args := #[Operand.tmp 72, Operand.tmp 76], argTypes := #[29, 29] }, type := 29, pos := "law.go:53", after := #[{ on := 0, ground := Ground.data }, { on := 4, ground := Ground.data }, { on := 4, ground := Ground.chain }], guard := none }) rfl (fun K hK => ?_) ?_
        · go_simp
          refine (BigMul_any _ _ M (10 ^ (E + fine).toNat) _ (HB6.out.1.gr (hgr _ hHeld)) (hT.gr (by first | with_reducible assumption | with_reducible exact IsGr.refl _ | with_reducible exact (IsGr.refl _).alloc _ | with_reducible exact ((IsGr.refl _).alloc _).alloc _ | assumption)) s1 s2).mono ?_
          rintro e w8 ⟨R, rfl, hR, hg8⟩
          obtain ⟨Rs, Ra, Rn, Rc, rfl⟩ := hR.shape
          (try go_wp2_with fail)
          refine hK.out _ _ (by (try dsimp only); exact hcl _ _ hHeld (by first | with_reducible assumption | with_reducible exact IsGr.refl _ | with_reducible exact (IsGr.refl _).alloc _ | with_reducible exact ((IsGr.refl _).alloc _).alloc _ | assumption)) (fun hHeld2 => ?_)
          clear hK K hHeld
          have hHeld := hHeld2
          clear hHeld2
          (try simp only [Act.put, List.setIfInBounds_toArray, List.set_cons_zero, List.set_cons_succ])
          refine wpAnyH_done (by kernel_rfl) ?_ _
          obtain ⟨q0, q1, q2, q3⟩ := hcells _ hHeld
          have hg := hgr _ hHeld
          refine butLast_step (o := { dst := none, op := Op.store 29 (Operand.tmp 7) (Operand.tmp 77), type := 0, pos := "law.go:53", after := #[{ on := 5, ground := Ground.data }, { on := 5, ground := Ground.chain }, { on := 0, ground := Ground.phase }, { on := 1, ground := Ground.phase }, { on := 2, ground := Ground.phase }, { on := 3, ground := Ground.phase }, { on := 4, ground := Ground.phase }, { on := 5, ground := Ground.phase }], guard := none }) rfl (fun K hK => ?_)
          go_simp
          refine hK.out _ _ ?_
          clear hK K
          (try simp only [Act.put, List.setIfInBounds_toArray, List.set_cons_zero, List.set_cons_succ])
          have HN : Hid (BgB ((w8.setCell ⟨PX, 0, none⟩ (.bool Rs)).setCell ⟨PX, 1, none⟩ (.slice Ra Rn Rc)) PX X ∧ BgB ((w8.setCell ⟨PX, 0, none⟩ (.bool Rs)).setCell ⟨PX, 1, none⟩ (.slice Ra Rn Rc)) PY Y ∧ IsGr w ((w8.setCell ⟨PX, 0, none⟩ (.bool Rs)).setCell ⟨PX, 1, none⟩ (.slice Ra Rn Rc))) := by
            have h1 := HY5.out.1.gr hg
            have h2 := HY5.out.2.1.gr hg
            rw [HQ.out.1, HQ.out.2]
            exact ⟨h1.put hR, h1.other h2 (by have := HB6.out; omega), IsGr.of_below (below_put (HY5.out.2.2.1.trans hg).below HB6.out.2.1)⟩
          clear hHeld hgr hin hcl hcells q0 q1 q2 q3 c0 c1 f0 f1 d0 d1 g0 g1 hg hR hT
          go_wp2_with fail
          go_meet
          exact HN.out
        exact AllReadyH.nil
      exact AllReadyH.nil
    · obtain ⟨hX, hY⟩ := HXY.out.1.neg (by omega)
      have CTT := fun w => Ten_any (-(E + fine)) w (by have := HXY.out.2.2.1; omega)
      have HQ : Hid (X = M ∧ Y = 10 ^ (-(E + fine)).toNat) := ⟨hX, hY⟩
      clear hX hY
      go_wp2_with fail
      refine (CTT _).mono ?_
      clear CTT
      rintro e w7 ⟨R, rfl, hR, hg7⟩
      obtain ⟨Rs, Ra, Rn, Rc, rfl⟩ := hR.shape
      have q0 := cellk d0 hg7
      have q1 := cellk d1 hg7
      have q2 := frzk d0 g0 hg7
      have q3 := frzk d1 g1 hg7
      have HN : Hid (BgB ((w7.setCell ⟨PY, 0, none⟩ (.bool Rs)).setCell ⟨PY, 1, none⟩ (.slice Ra Rn Rc)) PX X ∧ BgB ((w7.setCell ⟨PY, 0, none⟩ (.bool Rs)).setCell ⟨PY, 1, none⟩ (.slice Ra Rn Rc)) PY Y ∧ IsGr w ((w7.setCell ⟨PY, 0, none⟩ (.bool Rs)).setCell ⟨PY, 1, none⟩ (.slice Ra Rn Rc))) := by
        have h1 := HY5.out.1.gr hg7
        have h2 := HY5.out.2.1.gr hg7
        rw [HQ.out.1, HQ.out.2]
        exact ⟨h2.other h1 (by have := HB6.out; omega), h2.put hR, IsGr.of_below (below_put (HY5.out.2.2.1.trans hg7).below (by have := HB6.out; omega))⟩
      clear c0 c1 f0 f1 d0 d1 g0 g1 hg7 hR
      go_wp2_with fail
      go_meet
      exact HN.out
  case rest =>
    have HR : Hid (BgB wc PX X ∧ BgB wc PY Y ∧ IsGr w wc) := hcut.out
    clear hcut
    obtain ⟨xs, xa, xn, xc, hxb, hxB⟩ := HR.out.1
    obtain ⟨ys, ya, yn, yc, hyb, hyB⟩ := HR.out.2.1
    obtain ⟨c0, c1, f0, f1⟩ := block_two hxb
    obtain ⟨d0, d1, g0, g1⟩ := block_two hyb
    have HBX : Hid (IsBig wc (.agg #[.bool xs, .slice xa xn xc]) X ∧ IsBig wc (.agg #[.bool ys, .slice ya yn yc]) Y) := ⟨hxB, hyB⟩
    have hb175 : (10 : Int) ^ 170 ≤ 2 * 10 ^ 175 := by decide +kernel
    have hb160 : (10 : Int) ^ 160 ≤ 2 * 10 ^ 175 := by decide +kernel
    have sX : Sm X := big_175 (by have := HXY.out.2.1; omega)
    have sY : Sm Y := big_175 (by have := HXY.out.2.1; omega)
    clear hxb hxB hyb hyB hb175 hb160

    have sn : Sm n := by have := HF.out; unfold Sm; omega
    have CO := fun w => BigOf_any n (by have := HF.out; omega) (by have := HF.out; omega) w
    have hz : (cmpI X X == 0) = true := by unfold cmpI; simp
    have h1 : -1099511627775 ≤ n := HF.out.2.1
    have h2 : n ≤ 1099511627775 := HF.out.2.2
    have h1d : decide (-1099511627775 ≤ n) = true := decide_eq_true h1
    have h2d : decide (n ≤ 1099511627775) = true := decide_eq_true h2
    have HNY : Hid (n * Y = X) := HF.out.1
    go_upto_region 14 with fail
    obtain ⟨C, hin, hcl, hcells, hgr⟩ : ∃ C : World → Prop, (∀ w', IsGr wc w' → C w') ∧ (∀ u u', C u → IsGr u u' → C u') ∧ (∀ w', C w' → (w'.cell? ⟨PX, 0, none⟩ = some (.bool xs)) ∧ (w'.cell? ⟨PX, 1, none⟩ = some (.slice xa xn xc)) ∧ (w'.cell? ⟨PY, 0, none⟩ = some (.bool ys)) ∧ (w'.cell? ⟨PY, 1, none⟩ = some (.slice ya yn yc))) ∧ (∀ w', C w' → IsGr wc w') := ⟨fun w' => IsGr wc w', fun _ h => h, fun _ _ h k => h.trans k, fun w' hg => ⟨cellk c0 hg, cellk c1 hg, cellk d0 hg, cellk d1 hg⟩, fun _ h => h⟩
    refine wp_region_held_drew (S := C) (by kernel_rfl) (by (try dsimp only); exact hin _ (by with_reducible repeat (first | exact IsGr.refl _ | refine IsGr.gr ?_ _ _ | refine IsGr.alloc ?_ _ | refine IsGr.drew ?_ | refine IsGr.drewN ?_ _))) (fun hHeld => ?_)
    refine wpAnyH_take (i := 0) (oi := { dst := some 85, op := Op.move (Operand.tmp 5), type := 3, pos := "law.go:58", after := #[], guard := none }) (v := ?_) rfl (by kernel_rfl) (by kernel_rfl) (by kernel_rfl) (fun _ _ _ h => h) (Or.inl ⟨by rfl, ?_⟩) (by assumption) ?_
    rotate_left
    · (intro w hSw; (try dsimp only at hSw); (try have hcs := hcells w hSw); (try go_split_ands); go_simp <;> with_reducible rfl)
    (try simp only [Act.put, List.setIfInBounds_toArray, List.set_cons_zero, List.set_cons_succ])
    refine wpAnyH_take (i := 1) (oi := { dst := some 86, op := Op.binOp BinOp.geq 3 (Operand.tmp 85) (Operand.const (Value.int IntKind.i64 (-1099511627775))) 3, type := 4, pos := "law.go:58", after := #[{ on := 0, ground := Ground.data }], guard := none }) (v := ?_) rfl (by kernel_rfl) (by kernel_rfl) (by kernel_rfl) (fun _ _ _ h => h) (Or.inl ⟨by rfl, ?_⟩) (by assumption) ?_
    rotate_left
    · (intro w hSw; (try dsimp only at hSw); (try have hcs := hcells w hSw); (try go_split_ands); go_simp <;> with_reducible rfl)
    (try simp only [Act.put, List.setIfInBounds_toArray, List.set_cons_zero, List.set_cons_succ])
    refine wpAnyH_take (i := 2) (oi := { dst := some 87, op := Op.move (Operand.tmp 86), type := 4, pos := "law.go:58", after := #[{ on := 1, ground := Ground.data }], guard := none }) (v := ?_) rfl (by kernel_rfl) (by kernel_rfl) (by kernel_rfl) (fun _ _ _ h => h) (Or.inl ⟨by rfl, ?_⟩) (by assumption) ?_
    rotate_left
    · (intro w hSw; (try dsimp only at hSw); (try have hcs := hcells w hSw); (try go_split_ands); go_simp <;> with_reducible rfl)
    (try simp only [Act.put, List.setIfInBounds_toArray, List.set_cons_zero, List.set_cons_succ])
    refine wpAnyH_take (i := 3) (oi := { dst := some 88, op := Op.move (Operand.tmp 5), type := 3, pos := "law.go:58", after := #[{ on := 2, ground := Ground.guard }], guard := some (2, true) }) (v := ?_) rfl (by kernel_rfl) (by kernel_rfl) (by kernel_rfl) (fun _ _ _ h => h) (Or.inl ⟨by rfl, ?_⟩) (by assumption) ?_
    rotate_left
    · (intro w hSw; (try dsimp only at hSw); (try have hcs := hcells w hSw); (try go_split_ands); go_simp <;> with_reducible rfl)
    (try simp only [Act.put, List.setIfInBounds_toArray, List.set_cons_zero, List.set_cons_succ])
    refine wpAnyH_take (i := 4) (oi := { dst := some 89, op := Op.binOp BinOp.leq 3 (Operand.tmp 88) (Operand.const (Value.int IntKind.i64 1099511627775)) 3, type := 4, pos := "law.go:58", after := #[{ on := 3, ground := Ground.data }, { on := 2, ground := Ground.guard }], guard := some (2, true) }) (v := ?_) rfl (by kernel_rfl) (by kernel_rfl) (by kernel_rfl) (fun _ _ _ h => h) (Or.inl ⟨by rfl, ?_⟩) (by assumption) ?_
    rotate_left
    · (intro w hSw; (try dsimp only at hSw); (try have hcs := hcells w hSw); (try go_split_ands); go_simp <;> with_reducible rfl)
    (try simp only [Act.put, List.setIfInBounds_toArray, List.set_cons_zero, List.set_cons_succ])
    refine wpAnyH_take (i := 5) (oi := { dst := some 90, op := Op.pick (Operand.tmp 87) (Operand.tmp 89) (Operand.const (Value.bool false)), type := 4, pos := "law.go:58", after := #[{ on := 2, ground := Ground.data }, { on := 4, ground := Ground.data }], guard := none }) (v := ?_) rfl (by kernel_rfl) (by kernel_rfl) (by kernel_rfl) (fun _ _ _ h => h) (Or.inl ⟨by rfl, ?_⟩) (by assumption) ?_
    rotate_left
    · (intro w hSw; (try dsimp only at hSw); (try have hcs := hcells w hSw); (try go_split_ands); go_simp <;> with_reducible rfl)
    (try simp only [Act.put, List.setIfInBounds_toArray, List.set_cons_zero, List.set_cons_succ])
    refine wpAnyH_take (i := 6) (oi := { dst := some 91, op := Op.move (Operand.tmp 90), type := 4, pos := "law.go:58", after := #[{ on := 5, ground := Ground.data }, { on := 2, ground := Ground.chain }], guard := none }) (v := ?_) rfl (by kernel_rfl) (by kernel_rfl) (by kernel_rfl) (fun _ _ _ h => h) (Or.inl ⟨by rfl, ?_⟩) (by assumption) ?_
    rotate_left
    · (intro w hSw; (try dsimp only at hSw); (try have hcs := hcells w hSw); (try go_split_ands); go_simp <;> with_reducible rfl)
    (try simp only [Act.put, List.setIfInBounds_toArray, List.set_cons_zero, List.set_cons_succ])
    refine wpAnyH_take (i := 7) (oi := { dst := some 92, op := Op.move (Operand.tmp 5), type := 3, pos := "law.go:58", after := #[{ on := 6, ground := Ground.guard }], guard := some (6, true) }) (v := ?_) rfl (by kernel_rfl) (by kernel_rfl) (by kernel_rfl) (fun _ _ _ h => h) (Or.inl ⟨by rfl, ?_⟩) (by assumption) ?_
    rotate_left
    · (intro w hSw; (try dsimp only at hSw); (try have hcs := hcells w hSw); (try go_split_ands); go_simp <;> with_reducible rfl)
    (try simp only [Act.put, List.setIfInBounds_toArray, List.set_cons_zero, List.set_cons_succ])
    refine wpAnyH_take (i := 9) (oi := { dst := some 94, op := Op.load 29 (Operand.tmp 9), type := 29, pos := "law.go:58", after := #[{ on := 6, ground := Ground.guard }], guard := some (6, true) }) (v := ?_) rfl (by kernel_rfl) (by kernel_rfl) (by kernel_rfl) (fun _ _ _ h => h) (Or.inl ⟨by rfl, ?_⟩) (by assumption) ?_
    rotate_left
    · (intro w hSw; (try dsimp only at hSw); (try have hcs := hcells w hSw); (try go_split_ands); go_simp <;> with_reducible rfl)
    (try simp only [Act.put, List.setIfInBounds_toArray, List.set_cons_zero, List.set_cons_succ])
    refine wpAnyH_take (i := 11) (oi := { dst := some 96, op := Op.load 29 (Operand.tmp 7), type := 29, pos := "law.go:58", after := #[{ on := 6, ground := Ground.guard }], guard := some (6, true) }) (v := ?_) rfl (by kernel_rfl) (by kernel_rfl) (by kernel_rfl) (fun _ _ _ h => h) (Or.inl ⟨by rfl, ?_⟩) (by assumption) ?_
    rotate_left
    · (intro w hSw; (try dsimp only at hSw); (try have hcs := hcells w hSw); (try go_split_ands); go_simp <;> with_reducible rfl)
    (try simp only [Act.put, List.setIfInBounds_toArray, List.set_cons_zero, List.set_cons_succ])
    refine wpAnyH_ready (rs := [8]) (by kernel_rfl) (by simp) ?_
    refine AllReadyH.cons (o := { dst := some 93, op := Op.call { callee := Callee.value (Operand.func 12), args := #[Operand.tmp 92], argTypes := #[3] }, type := 29, pos := "law.go:58", after := #[{ on := 7, ground := Ground.data }, { on := 6, ground := Ground.chain }, { on := 6, ground := Ground.guard }], guard := some (6, true) }) rfl (fun K hK => ?_) ?_
    · go_simp
      refine (CO _).mono ?_
      rintro e w7 ⟨O, rfl, hO, hg7⟩
      obtain ⟨Os, Oa, On, Oc, rfl⟩ := hO.shape
      (try go_wp2_with fail)
      refine hK.out _ _ (by (try dsimp only); exact hcl _ _ hHeld (by first | with_reducible assumption | with_reducible exact IsGr.refl _ | with_reducible exact (IsGr.refl _).alloc _ | with_reducible exact ((IsGr.refl _).alloc _).alloc _ | assumption)) (fun hHeld2 => ?_)
      clear hK K hHeld
      have hHeld := hHeld2
      clear hHeld2
      (try simp only [Act.put, List.setIfInBounds_toArray, List.set_cons_zero, List.set_cons_succ])
      refine wpAnyH_ready (rs := [10]) (by kernel_rfl) (by simp) ?_
      refine AllReadyH.cons (o := { dst := some 95, op := Op.call { callee := Callee.value (Operand.func 13), args := #[Operand.tmp 93, Operand.tmp 94], argTypes := #[29, 29] }, type := 29, pos := "law.go:58", after := #[{ on := 8, ground := Ground.data }, { on := 9, ground := Ground.data }, { on := 8, ground := Ground.chain }, { on := 6, ground := Ground.guard }], guard := some (6, true) }) rfl (fun K hK => ?_) ?_
      · go_simp
        refine (BigMul_any _ _ n Y _ hO (HBX.out.2.gr (hgr _ hHeld)) sn sY).mono ?_
        rintro e w8 ⟨N, rfl, hN, hg8⟩
        rw [HNY.out] at hN
        obtain ⟨Ns, Na, Nn, Nc, rfl⟩ := hN.shape
        (try go_wp2_with fail)
        refine hK.out _ _ (by (try dsimp only); exact hcl _ _ hHeld (by first | with_reducible assumption | with_reducible exact IsGr.refl _ | with_reducible exact (IsGr.refl _).alloc _ | with_reducible exact ((IsGr.refl _).alloc _).alloc _ | assumption)) (fun hHeld2 => ?_)
        clear hK K hHeld
        have hHeld := hHeld2
        clear hHeld2
        (try simp only [Act.put, List.setIfInBounds_toArray, List.set_cons_zero, List.set_cons_succ])
        refine wpAnyH_ready (rs := [12]) (by kernel_rfl) (by simp) ?_
        refine AllReadyH.cons (o := { dst := some 97, op := Op.call { callee := Callee.value (Operand.func 15), args := #[Operand.tmp 95, Operand.tmp 96], argTypes := #[29, 29] }, type := 3, pos := "law.go:58", after := #[{ on := 10, ground := Ground.data }, { on := 11, ground := Ground.data }, { on := 10, ground := Ground.chain }, { on := 6, ground := Ground.guard }], guard := some (6, true) }) rfl (fun K hK => ?_) ?_
        · go_simp
          refine (BigCmp_any _ _ X X _ hN (HBX.out.1.gr (hgr _ hHeld)) sX sX).mono ?_
          rintro e w9 ⟨rfl, hg9⟩
          rename_i hg9
          (try go_wp2_with fail)
          refine hK.out _ _ (by (try dsimp only); exact hcl _ _ hHeld (by first | with_reducible assumption | with_reducible exact IsGr.refl _ | with_reducible exact (IsGr.refl _).alloc _ | with_reducible exact ((IsGr.refl _).alloc _).alloc _ | assumption)) (fun hHeld2 => ?_)
          clear hK K hHeld
          have hHeld := hHeld2
          clear hHeld2
          (try simp only [Act.put, List.setIfInBounds_toArray, List.set_cons_zero, List.set_cons_succ])
          refine wpAnyH_take (i := 13) (oi := { dst := some 98, op := Op.binOp BinOp.eql 3 (Operand.tmp 97) (Operand.const (Value.int IntKind.i64 0)) 3, type := 4, pos := "law.go:58", after := #[{ on := 12, ground := Ground.data }, { on := 6, ground := Ground.guard }], guard := some (6, true) }) (v := ?_) rfl (by kernel_rfl) (by kernel_rfl) (by kernel_rfl) (fun _ _ _ h => h) (Or.inl ⟨by rfl, ?_⟩) (by assumption) ?_
          rotate_left
          · (intro w hSw; (try dsimp only at hSw); (try have hcs := hcells w hSw); (try go_split_ands); go_simp <;> with_reducible rfl)
          (try simp only [Act.put, List.setIfInBounds_toArray, List.set_cons_zero, List.set_cons_succ])
          refine wpAnyH_take (i := 14) (oi := { dst := some 99, op := Op.pick (Operand.tmp 91) (Operand.tmp 98) (Operand.const (Value.bool false)), type := 4, pos := "law.go:58", after := #[{ on := 6, ground := Ground.data }, { on := 13, ground := Ground.data }], guard := none }) (v := ?_) rfl (by kernel_rfl) (by kernel_rfl) (by kernel_rfl) (fun _ _ _ h => h) (Or.inl ⟨by rfl, ?_⟩) (by assumption) ?_
          rotate_left
          · (intro w hSw; (try dsimp only at hSw); (try have hcs := hcells w hSw); (try go_split_ands); go_simp <;> with_reducible rfl)
          (try simp only [Act.put, List.setIfInBounds_toArray, List.set_cons_zero, List.set_cons_succ])
          refine wpAnyH_take (i := 15) (oi := { dst := some 100, op := Op.move (Operand.tmp 99), type := 4, pos := "law.go:58", after := #[{ on := 14, ground := Ground.data }, { on := 12, ground := Ground.chain }], guard := none }) (v := ?_) rfl (by kernel_rfl) (by kernel_rfl) (by kernel_rfl) (fun _ _ _ h => h) (Or.inl ⟨by rfl, ?_⟩) (by assumption) ?_
          rotate_left
          · (intro w hSw; (try dsimp only at hSw); (try have hcs := hcells w hSw); (try go_split_ands); go_simp <;> with_reducible rfl)
          (try simp only [Act.put, List.setIfInBounds_toArray, List.set_cons_zero, List.set_cons_succ])
          refine wpAnyH_ready (rs := [16]) (by kernel_rfl) (by simp) ?_
          refine AllReadyH.cons (o := { dst := some 101, op := Op.call { callee := Callee.value (Operand.func 7), args := #[], argTypes := #[] }, type := 4, pos := "law.go:58", after := #[{ on := 15, ground := Ground.chain }, { on := 15, ground := Ground.guard }], guard := some (15, true) }) rfl (fun K hK => ?_) ?_
          · go_simp
            refine (CA _ (HR.out.2.2.trans (hgr _ hHeld))).mono ?_
            rintro e w10 ⟨rfl, hg10⟩
            (try go_wp2_with fail)
            refine hK.out _ _ (by (try dsimp only); exact hcl _ _ hHeld (by first | with_reducible assumption | with_reducible exact IsGr.refl _ | with_reducible exact (IsGr.refl _).alloc _ | with_reducible exact ((IsGr.refl _).alloc _).alloc _ | assumption)) (fun hHeld2 => ?_)
            clear hK K hHeld
            have hHeld := hHeld2
            clear hHeld2
            (try simp only [Act.put, List.setIfInBounds_toArray, List.set_cons_zero, List.set_cons_succ])
            refine wpAnyH_take (i := 17) (oi := { dst := some 102, op := Op.pick (Operand.tmp 100) (Operand.tmp 101) (Operand.const (Value.bool false)), type := 4, pos := "law.go:58", after := #[{ on := 15, ground := Ground.data }, { on := 16, ground := Ground.data }], guard := none }) (v := ?_) rfl (by kernel_rfl) (by kernel_rfl) (by kernel_rfl) (fun _ _ _ h => h) (Or.inl ⟨by rfl, ?_⟩) (by assumption) ?_
            rotate_left
            · (intro w hSw; (try dsimp only at hSw); (try have hcs := hcells w hSw); (try go_split_ands); go_simp <;> with_reducible rfl)
            (try simp only [Act.put, List.setIfInBounds_toArray, List.set_cons_zero, List.set_cons_succ])
            refine wpAnyH_take (i := 18) (oi := { dst := some 4, op := Op.assign (Operand.tmp 102), type := 4, pos := "law.go:58", after := #[{ on := 17, ground := Ground.data }, { on := 16, ground := Ground.chain }, { on := 0, ground := Ground.phase }, { on := 1, ground := Ground.phase }, { on := 2, ground := Ground.phase }, { on := 3, ground := Ground.phase }, { on := 4, ground := Ground.phase }, { on := 5, ground := Ground.phase }, { on := 6, ground := Ground.phase }, { on := 7, ground := Ground.phase }, { on := 8, ground := Ground.phase }, { on := 9, ground := Ground.phase }, { on := 10, ground := Ground.phase }, { on := 11, ground := Ground.phase }, { on := 12, ground := Ground.phase }, { on := 13, ground := Ground.phase }, { on := 14, ground := Ground.phase }, { on := 15, ground := Ground.phase }, { on := 16, ground := Ground.phase }, { on := 17, ground := Ground.phase }], guard := none }) (v := ?_) rfl (by kernel_rfl) (by kernel_rfl) (by kernel_rfl) (fun _ _ _ h => h) (Or.inl ⟨by rfl, ?_⟩) (by assumption) ?_
            rotate_left
            · (intro w hSw; (try dsimp only at hSw); (try have hcs := hcells w hSw); (try go_split_ands); go_simp <;> with_reducible rfl)
            (try simp only [Act.put, List.setIfInBounds_toArray, List.set_cons_zero, List.set_cons_succ])
            refine wpAnyH_done (by kernel_rfl) ?_ _
            have hgF := hgr _ hHeld
            have HFG : Hid (IsGr w w10) := HR.out.2.2.trans hgF
            clear hHeld hgr hin hcl hcells hgF
            go_wp2_with fail
            go_ret
            exact ⟨rfl, HFG.out⟩
          exact AllReadyH.nil
        exact AllReadyH.nil
      exact AllReadyH.nil
    exact AllReadyH.nil

set_option maxRecDepth 20000 in set_option maxHeartbeats 2000000 in
theorem scales_prec (C : DecC) (s : ByteArray) (fine : Int) (w : World) (neg : Bool) (sg l1 dt l2 ep : List Int) (p X Y : Int) (hspl : Spl (bts s) neg sg l1 dt l2 ep p) (hf0 : 0 ≤ fine) (hf1 : fine ≤ 9) (hp : plB (bts s) = true)
    (hxy : SclI (sgI neg (dvl (l1 ++ l2))) (p - (l2.length : Nat) + fine) X Y) (hk : ∀ k, ¬ UnitIs (sgI neg (dvl (l1 ++ l2))) (p - (l2.length : Nat) + fine) k)
    (CS : Calls Tryd.prog 8 #[.string s, .int .i64 fine] w fun e w' => e = .returned (.tuple #[.int .i64 0, .int .i64 22]) ∧ IsGr w w') (HTB : TabW w) : Calls Tryd.prog 3 #[.string s, .int .i64 fine] w fun e w' => e = .returned (.bool true) ∧ IsGr w w' := by
  obtain ⟨hb60, hep, hp0, hp1, hl⟩ := pl_spl hspl hp
  rw [bts_len] at hb60
  have hs' : ¬ (3000 : Int) < s.size := by omega
  have CA := fun w' (hg : IsGr w w') => dawake_any C w' (HTB.gr hg)
  have CR := fun w => RRight_any s w (by omega)
  have CP := fun w => plain_any s w
  have CN := fun w => Number_any s w neg sg l1 dt l2 ep p hspl hb60 hep
  have C1 := fun w => BigOf_any 1 (by omega) (by omega) w
  rw [hspl.right] at CR
  rw [hp] at CP
  obtain ⟨M, hM⟩ : ∃ M, sgI neg (dvl (l1 ++ l2)) = M := ⟨_, rfl⟩
  have hMb : -(10 ^ 60) ≤ M ∧ M ≤ 10 ^ 60 := by
    rw [← hM]
    exact sgI_bound (dvl_bound (hspl.d1.app hspl.d2)) (by rw [List.length_append]; exact hl)
  obtain ⟨E, hE⟩ : ∃ E, p - (l2.length : Nat) = E := ⟨_, rfl⟩
  have hEb : -160 ≤ E ∧ E ≤ 99 := by omega
  rw [hM, hE] at hxy
  rw [hM, hE] at CN
  have hbd := hxy.bound hMb (by omega) (by omega)
  have HXY : Hid (SclI M (E + fine) X Y ∧ (0 < Y ∧ Y ≤ 10 ^ 160 ∧ -(10 ^ 170) ≤ X ∧ X ≤ 10 ^ 170) ∧ (-160 ≤ E + fine ∧ E + fine ≤ 110) ∧ Sm M) := ⟨hxy, hbd, by omega, by
    have h3 : (10 : Int) ^ 60 ≤ 4149515568880992958512407863691161151012446232242436899995657329690652811412908146399707048947103794288197886611300789182395151075411775307886874834113963687061181803401509523685376 := by decide +kernel
    unfold Sm; omega⟩
  have hew : IntKind.i64.wrap (E + fine) = E + fine := by rw [IntKind.wrap_i64]; omega
  have hew2 : IntKind.i64.wrap (-(E + fine)) = -(E + fine) := by rw [IntKind.wrap_i64]; omega
  have hf0' : ¬ fine < 0 := by omega
  have hf1' : ¬ 9 < fine := by omega
  have HF : Hid (¬ X % Y = 0) := fun h0 => by obtain ⟨k, hk2⟩ := hxy.whole.2 h0; rw [hM, hE] at hk; exact hk k hk2
  clear hspl hb60 hep hp0 hp1 hl hp C HTB hf0 hf1 hM hMb hE hEb hxy hbd hk
  go_enter Tryd.func3, Tryd.ntmps3
  go_wp2_with fail
  refine CS.mono ?_
  clear CS
  rintro e w1 ⟨rfl, hg1⟩
  go_wp2_with fail
  refine (CR _).mono ?_
  clear CR
  rintro e w2 ⟨rfl, hg2⟩
  obtain rfl := hg2.symm
  go_wp2_with fail
  refine (CP _).mono ?_
  clear CP
  rintro e w3 ⟨rfl, hg3⟩
  obtain rfl := hg3.symm
  go_wp2_with fail
  refine (CN _).mono ?_
  clear CN
  rintro e w4 ⟨v, rfl, hv, hg4⟩
  obtain ⟨vs, va, vn, vc, rfl⟩ := hv.shape
  have HX4 : Hid (BgB (w4.alloc (.cells #[.bool vs, .slice va vn vc] 29)) w4.heap.size M ∧ IsGr w (w4.alloc (.cells #[.bool vs, .slice va vn vc] 29)) ∧ w.heap.size ≤ w4.heap.size) := ⟨BgB.new hv, (hg1.trans hg4).trans ((IsGr.refl w4).alloc _), (hg1.trans hg4).size⟩
  clear hv hg1 hg4
  go_wp2_with fail
  refine (C1 _).mono ?_
  clear C1
  rintro e w5 ⟨o, rfl, ho, hg5⟩
  obtain ⟨os, oa, on, oc, rfl⟩ := ho.shape
  have HY5 : Hid (BgB (w5.alloc (.cells #[.bool os, .slice oa on oc] 29)) w4.heap.size M ∧ BgB (w5.alloc (.cells #[.bool os, .slice oa on oc] 29)) w5.heap.size 1 ∧ IsGr w (w5.alloc (.cells #[.bool os, .slice oa on oc] 29)) ∧ w.heap.size ≤ w4.heap.size ∧ w4.heap.size < w5.heap.size) := ⟨(HX4.out.1.gr hg5).gr ((IsGr.refl w5).alloc _), BgB.new ho, (HX4.out.2.1.trans hg5).trans ((IsGr.refl w5).alloc _), HX4.out.2.2, by have := hg5.size; simp at this; omega⟩
  clear ho hg5 HX4
  go_upto_if 71 with fail
  obtain ⟨PX, hPX⟩ : ∃ P, w4.heap.size = P := ⟨_, rfl⟩
  obtain ⟨PY, hPY⟩ : ∃ P, w5.heap.size = P := ⟨_, rfl⟩
  obtain ⟨w6, hw6⟩ : ∃ W, w5.alloc (.cells #[.bool os, .slice oa on oc] 29) = W := ⟨_, rfl⟩
  rw [hPX, hPY, hw6] at HY5
  rw [hPX, hPY, hw6]
  clear hPX hPY hw6
  go_cut [] from 67 to 82 (fun wx => Hid (BgB wx PX X ∧ BgB wx PY Y ∧ IsGr w wx))
  case first =>
    obtain ⟨xs, xa, xn, xc, hxb, hxB⟩ := HY5.out.1
    obtain ⟨ys, ya, yn, yc, hyb, hyB⟩ := HY5.out.2.1
    obtain ⟨c0, c1, f0, f1⟩ := block_two hxb
    obtain ⟨d0, d1, g0, g1⟩ := block_two hyb
    have HB6 : Hid (IsBig w6 (.agg #[.bool xs, .slice xa xn xc]) M ∧ w.heap.size ≤ PX ∧ PX < PY) := ⟨hxB, HY5.out.2.2.2⟩
    clear hxb hxB hyb hyB
    by_cases hq : 0 ≤ E + fine
    · obtain ⟨hX, hY⟩ := HXY.out.1.pos hq
      have CTT := fun w => Ten_any (E + fine) w (by have := HXY.out.2.2.1; omega)
      have s1 := HXY.out.2.2.2
      have s2 := ten_sm (E + fine).toNat (by have := HXY.out.2.2.1; omega)
      have HQ : Hid (X = M * 10 ^ (E + fine).toNat ∧ Y = 1) := ⟨hX, hY⟩
      clear hX hY
      go_upto_region 11 with fail
      obtain ⟨C, hin, hcl, hcells, hgr⟩ : ∃ C : World → Prop, (∀ w', IsGr w6 w' → C w') ∧ (∀ u u', C u → IsGr u u' → C u') ∧ (∀ w', C w' → (w'.cell? ⟨PX, 0, none⟩ = some (.bool xs)) ∧ (w'.cell? ⟨PX, 1, none⟩ = some (.slice xa xn xc)) ∧ (w'.frozen? ⟨PX, 0, none⟩ = false) ∧ (w'.frozen? ⟨PX, 1, none⟩ = false)) ∧ (∀ w', C w' → IsGr w6 w') := ⟨fun w' => IsGr w6 w', fun _ h => h, fun _ _ h k => h.trans k, fun w' hg => ⟨cellk c0 hg, cellk c1 hg, frzk c0 f0 hg, frzk c1 f1 hg⟩, fun _ h => h⟩
      refine wp_region_but (S := C) (k := 6) (n := 6) (by kernel_rfl) (by kernel_rfl) (by (try dsimp only); exact hin _ (by with_reducible repeat (first | exact IsGr.refl _ | refine IsGr.gr ?_ _ _ | refine IsGr.alloc ?_ _ | refine IsGr.drew ?_ | refine IsGr.drewN ?_ _))) (fun hHeld => ?_)
      refine wpAnyH_take (i := 0) (oi := { dst := some 72, op := Op.load 29 (Operand.tmp 7), type := 29, pos := "law.go:53", after := #[], guard := none }) (v := ?_) rfl (by kernel_rfl) (by kernel_rfl) (by kernel_rfl) (fun _ _ _ h => h) (Or.inl ⟨by rfl, ?_⟩) (by assumption) ?_
      rotate_left
      · (intro w hSw; (try dsimp only at hSw); (try have hcs := hcells w hSw); (try go_split_ands); go_simp <;> with_reducible rfl)
      (try simp only [Act.put, List.setIfInBounds_toArray, List.set_cons_zero, List.set_cons_succ])
      refine wpAnyH_take (i := 1) (oi := { dst := some 73, op := Op.move (Operand.tmp 8), type := 3, pos := "law.go:53", after := #[], guard := none }) (v := ?_) rfl (by kernel_rfl) (by kernel_rfl) (by kernel_rfl) (fun _ _ _ h => h) (Or.inl ⟨by rfl, ?_⟩) (by assumption) ?_
      rotate_left
      · (intro w hSw; (try dsimp only at hSw); (try have hcs := hcells w hSw); (try go_split_ands); go_simp <;> with_reducible rfl)
      (try simp only [Act.put, List.setIfInBounds_toArray, List.set_cons_zero, List.set_cons_succ])
      refine wpAnyH_take (i := 2) (oi := { dst := some 74, op := Op.move (Operand.tmp 1), type := 3, pos := "law.go:53", after := #[], guard := none }) (v := ?_) rfl (by kernel_rfl) (by kernel_rfl) (by kernel_rfl) (fun _ _ _ h => h) (Or.inl ⟨by rfl, ?_⟩) (by assumption) ?_
      rotate_left
      · (intro w hSw; (try dsimp only at hSw); (try have hcs := hcells w hSw); (try go_split_ands); go_simp <;> with_reducible rfl)
      (try simp only [Act.put, List.setIfInBounds_toArray, List.set_cons_zero, List.set_cons_succ])
      refine wpAnyH_take (i := 3) (oi := { dst := some 75, op := Op.binOp BinOp.add 3 (Operand.tmp 73) (Operand.tmp 74) 3, type := 3, pos := "law.go:53", after := #[{ on := 1, ground := Ground.data }, { on := 2, ground := Ground.data }], guard := none }) (v := ?_) rfl (by kernel_rfl) (by kernel_rfl) (by kernel_rfl) (fun _ _ _ h => h) (Or.inl ⟨by rfl, ?_⟩) (by assumption) ?_
      rotate_left
      · (intro w hSw; (try dsimp only at hSw); (try have hcs := hcells w hSw); (try go_split_ands); go_simp <;> with_reducible rfl)
      (try simp only [Act.put, List.setIfInBounds_toArray, List.set_cons_zero, List.set_cons_succ])
      refine wpAnyH_ready (rs := [4]) (by kernel_rfl) (by simp) ?_
      refine AllReadyH.cons (o := { dst := some 76, op := Op.call { callee := Callee.value (Operand.func 14), args := #[Operand.tmp 75], argTypes := #[3] }, type := 29, pos := "law.go:53", after := #[{ on := 3, ground := Ground.data }], guard := none }) rfl (fun K hK => ?_) ?_
      · go_simp
        refine (CTT _).mono ?_
        rintro e w7 ⟨T, rfl, hT, hg7⟩
        obtain ⟨Ts, Ta, Tn, Tc, rfl⟩ := hT.shape
        (try go_wp2_with fail)
        refine hK.out _ _ (by (try dsimp only); exact hcl _ _ hHeld (by first | with_reducible assumption | with_reducible exact IsGr.refl _ | with_reducible exact (IsGr.refl _).alloc _ | with_reducible exact ((IsGr.refl _).alloc _).alloc _ | assumption)) (fun hHeld2 => ?_)
        clear hK K hHeld
        have hHeld := hHeld2
        clear hHeld2
        (try simp only [Act.put, List.setIfInBounds_toArray, List.set_cons_zero, List.set_cons_succ])
        refine wpAnyH_ready (rs := [5]) (by kernel_rfl) (by simp) ?_
        refine AllReadyH.cons (o := { dst := some 77, op := Op.call { callee := Callee.value (Operand.func 13), args := #[Operand.tmp 72, Operand.tmp 76], argTypes := #[29, 29] }, type := 29, pos := "law.go:53", after := #[{ on := 0, ground := Ground.data }, { on := 4, ground := Ground.data }, { on := 4, ground := Ground.chain }], guard := none }) rfl (fun K hK => ?_) ?_
        · go_simp
          refine (BigMul_any _ _ M (10 ^ (E + fine).toNat) _ (HB6.out.1.gr (hgr _ hHeld)) (hT.gr (by first | with_reducible assumption | with_reducible exact IsGr.refl _ | with_reducible exact (IsGr.refl _).alloc _ | with_reducible exact ((IsGr.refl _).alloc _).alloc _ | assumption)) s1 s2).mono ?_
          rintro e w8 ⟨R, rfl, hR, hg8⟩
          obtain ⟨Rs, Ra, Rn, Rc, rfl⟩ := hR.shape
          (try go_wp2_with fail)
          refine hK.out _ _ (by (try dsimp only); exact hcl _ _ hHeld (by first | with_reducible assumption | with_reducible exact IsGr.refl _ | with_reducible exact (IsGr.refl _).alloc _ | with_reducible exact ((IsGr.refl _).alloc _).alloc _ | assumption)) (fun hHeld2 => ?_)
          clear hK K hHeld
          have hHeld := hHeld2
          clear hHeld2
          (try simp only [Act.put, List.setIfInBounds_toArray, List.set_cons_zero, List.set_cons_succ])
          refine wpAnyH_done (by kernel_rfl) ?_ _
          obtain ⟨q0, q1, q2, q3⟩ := hcells _ hHeld
          have hg := hgr _ hHeld
          refine butLast_step (o := { dst := none, op := Op.store 29 (Operand.tmp 7) (Operand.tmp 77), type := 0, pos := "law.go:53", after := #[{ on := 5, ground := Ground.data }, { on := 5, ground := Ground.chain }, { on := 0, ground := Ground.phase }, { on := 1, ground := Ground.phase }, { on := 2, ground := Ground.phase }, { on := 3, ground := Ground.phase }, { on := 4, ground := Ground.phase }, { on := 5, ground := Ground.phase }], guard := none }) rfl (fun K hK => ?_)
          go_simp
          refine hK.out _ _ ?_
          clear hK K
          (try simp only [Act.put, List.setIfInBounds_toArray, List.set_cons_zero, List.set_cons_succ])
          have HN : Hid (BgB ((w8.setCell ⟨PX, 0, none⟩ (.bool Rs)).setCell ⟨PX, 1, none⟩ (.slice Ra Rn Rc)) PX X ∧ BgB ((w8.setCell ⟨PX, 0, none⟩ (.bool Rs)).setCell ⟨PX, 1, none⟩ (.slice Ra Rn Rc)) PY Y ∧ IsGr w ((w8.setCell ⟨PX, 0, none⟩ (.bool Rs)).setCell ⟨PX, 1, none⟩ (.slice Ra Rn Rc))) := by
            have h1 := HY5.out.1.gr hg
            have h2 := HY5.out.2.1.gr hg
            rw [HQ.out.1, HQ.out.2]
            exact ⟨h1.put hR, h1.other h2 (by have := HB6.out; omega), IsGr.of_below (below_put (HY5.out.2.2.1.trans hg).below HB6.out.2.1)⟩
          clear hHeld hgr hin hcl hcells q0 q1 q2 q3 c0 c1 f0 f1 d0 d1 g0 g1 hg hR hT
          go_wp2_with fail
          go_meet
          exact HN.out
        exact AllReadyH.nil
      exact AllReadyH.nil
    · obtain ⟨hX, hY⟩ := HXY.out.1.neg (by omega)
      have CTT := fun w => Ten_any (-(E + fine)) w (by have := HXY.out.2.2.1; omega)
      have HQ : Hid (X = M ∧ Y = 10 ^ (-(E + fine)).toNat) := ⟨hX, hY⟩
      clear hX hY
      go_wp2_with fail
      refine (CTT _).mono ?_
      clear CTT
      rintro e w7 ⟨R, rfl, hR, hg7⟩
      obtain ⟨Rs, Ra, Rn, Rc, rfl⟩ := hR.shape
      have q0 := cellk d0 hg7
      have q1 := cellk d1 hg7
      have q2 := frzk d0 g0 hg7
      have q3 := frzk d1 g1 hg7
      have HN : Hid (BgB ((w7.setCell ⟨PY, 0, none⟩ (.bool Rs)).setCell ⟨PY, 1, none⟩ (.slice Ra Rn Rc)) PX X ∧ BgB ((w7.setCell ⟨PY, 0, none⟩ (.bool Rs)).setCell ⟨PY, 1, none⟩ (.slice Ra Rn Rc)) PY Y ∧ IsGr w ((w7.setCell ⟨PY, 0, none⟩ (.bool Rs)).setCell ⟨PY, 1, none⟩ (.slice Ra Rn Rc))) := by
        have h1 := HY5.out.1.gr hg7
        have h2 := HY5.out.2.1.gr hg7
        rw [HQ.out.1, HQ.out.2]
        exact ⟨h2.other h1 (by have := HB6.out; omega), h2.put hR, IsGr.of_below (below_put (HY5.out.2.2.1.trans hg7).below (by have := HB6.out; omega))⟩
      clear c0 c1 f0 f1 d0 d1 g0 g1 hg7 hR
      go_wp2_with fail
      go_meet
      exact HN.out
  case rest =>
    have HR : Hid (BgB wc PX X ∧ BgB wc PY Y ∧ IsGr w wc) := hcut.out
    clear hcut
    obtain ⟨xs, xa, xn, xc, hxb, hxB⟩ := HR.out.1
    obtain ⟨ys, ya, yn, yc, hyb, hyB⟩ := HR.out.2.1
    obtain ⟨c0, c1, f0, f1⟩ := block_two hxb
    obtain ⟨d0, d1, g0, g1⟩ := block_two hyb
    have HBX : Hid (IsBig wc (.agg #[.bool xs, .slice xa xn xc]) X ∧ IsBig wc (.agg #[.bool ys, .slice ya yn yc]) Y) := ⟨hxB, hyB⟩
    have hb175 : (10 : Int) ^ 170 ≤ 2 * 10 ^ 175 := by decide +kernel
    have hb160 : (10 : Int) ^ 160 ≤ 2 * 10 ^ 175 := by decide +kernel
    have sX : Sm X := big_175 (by have := HXY.out.2.1; omega)
    have sY : Sm Y := big_175 (by have := HXY.out.2.1; omega)
    clear hxb hxB hyb hyB hb175 hb160

    have hb5 : (10 : Int) ^ 170 ≤ 10 ^ 175 := by decide +kernel
    have hb6 : (10 : Int) ^ 160 ≤ 10 ^ 175 := by decide +kernel

    have CDV := divides_any _ _ X Y wc HBX.out.1 HBX.out.2 (by have := HXY.out.2.1; have := hb5; omega) (by have := HXY.out.2.1; have := hb5; omega) HXY.out.2.1.1 (by have := HXY.out.2.1; have := hb6; omega)
    rw [decide_eq_false HF.out] at CDV
    clear hb5 hb6
    go_wp2_with fail
    refine CDV.mono ?_
    clear CDV
    rintro e w7 ⟨rfl, hg7⟩

    have HG7 : Hid (IsGr w w7) := HR.out.2.2.trans hg7
    clear hg7 c0 c1 f0 f1 d0 d1 g0 g1
    go_wp2_with fail
    refine (CA _ HG7.out).mono ?_
    clear CA
    rintro e w8 ⟨rfl, hg8⟩
    have HG8 : Hid (IsGr w w8) := HG7.out.trans hg8
    clear hg8
    go_wp2_with fail
    go_ret
    exact ⟨rfl, HG8.out⟩

set_option maxRecDepth 20000 in set_option maxHeartbeats 2000000 in
theorem scales_farp (C : DecC) (s : ByteArray) (fine : Int) (w : World) (neg : Bool) (sg l1 dt l2 ep : List Int) (p n X Y : Int) (hspl : Spl (bts s) neg sg l1 dt l2 ep p) (hf0 : 0 ≤ fine) (hf1 : fine ≤ 9) (hp : plB (bts s) = true)
    (hxy : SclI (sgI neg (dvl (l1 ++ l2))) (p - (l2.length : Nat) + fine) X Y) (hk : UnitIs (sgI neg (dvl (l1 ++ l2))) (p - (l2.length : Nat) + fine) n) (hk1 : MxU < n)
    (CS : Calls Tryd.prog 8 #[.string s, .int .i64 fine] w fun e w' => e = .returned (.tuple #[.int .i64 0, .int .i64 23]) ∧ IsGr w w') (HTB : TabW w) : Calls Tryd.prog 3 #[.string s, .int .i64 fine] w fun e w' => e = .returned (.bool true) ∧ IsGr w w' := by
  obtain ⟨hb60, hep, hp0, hp1, hl⟩ := pl_spl hspl hp
  rw [bts_len] at hb60
  have hs' : ¬ (3000 : Int) < s.size := by omega
  have CA := fun w' (hg : IsGr w w') => dawake_any C w' (HTB.gr hg)
  have CR := fun w => RRight_any s w (by omega)
  have CP := fun w => plain_any s w
  have CN := fun w => Number_any s w neg sg l1 dt l2 ep p hspl hb60 hep
  have C1 := fun w => BigOf_any 1 (by omega) (by omega) w
  rw [hspl.right] at CR
  rw [hp] at CP
  obtain ⟨M, hM⟩ : ∃ M, sgI neg (dvl (l1 ++ l2)) = M := ⟨_, rfl⟩
  have hMb : -(10 ^ 60) ≤ M ∧ M ≤ 10 ^ 60 := by
    rw [← hM]
    exact sgI_bound (dvl_bound (hspl.d1.app hspl.d2)) (by rw [List.length_append]; exact hl)
  obtain ⟨E, hE⟩ : ∃ E, p - (l2.length : Nat) = E := ⟨_, rfl⟩
  have hEb : -160 ≤ E ∧ E ≤ 99 := by omega
  rw [hM, hE] at hxy
  rw [hM, hE] at CN
  have hbd := hxy.bound hMb (by omega) (by omega)
  have HXY : Hid (SclI M (E + fine) X Y ∧ (0 < Y ∧ Y ≤ 10 ^ 160 ∧ -(10 ^ 170) ≤ X ∧ X ≤ 10 ^ 170) ∧ (-160 ≤ E + fine ∧ E + fine ≤ 110) ∧ Sm M) := ⟨hxy, hbd, by omega, by
    have h3 : (10 : Int) ^ 60 ≤ 4149515568880992958512407863691161151012446232242436899995657329690652811412908146399707048947103794288197886611300789182395151075411775307886874834113963687061181803401509523685376 := by decide +kernel
    unfold Sm; omega⟩
  have hew : IntKind.i64.wrap (E + fine) = E + fine := by rw [IntKind.wrap_i64]; omega
  have hew2 : IntKind.i64.wrap (-(E + fine)) = -(E + fine) := by rw [IntKind.wrap_i64]; omega
  have hf0' : ¬ fine < 0 := by omega
  have hf1' : ¬ 9 < fine := by omega
  have HF : Hid (X % Y = 0 ∧ n * Y = X ∧ 1099511627775 < n) := ⟨hxy.whole.1 ⟨n, by rw [← hM, ← hE]; exact hk⟩, hxy.unit.1 (by rw [← hM, ← hE]; exact hk), by unfold MxU at hk1; omega⟩
  clear hspl hb60 hep hp0 hp1 hl hp C HTB hf0 hf1 hM hMb hE hEb hxy hbd hk hk1
  go_enter Tryd.func3, Tryd.ntmps3
  go_wp2_with fail
  refine CS.mono ?_
  clear CS
  rintro e w1 ⟨rfl, hg1⟩
  go_wp2_with fail
  refine (CR _).mono ?_
  clear CR
  rintro e w2 ⟨rfl, hg2⟩
  obtain rfl := hg2.symm
  go_wp2_with fail
  refine (CP _).mono ?_
  clear CP
  rintro e w3 ⟨rfl, hg3⟩
  obtain rfl := hg3.symm
  go_wp2_with fail
  refine (CN _).mono ?_
  clear CN
  rintro e w4 ⟨v, rfl, hv, hg4⟩
  obtain ⟨vs, va, vn, vc, rfl⟩ := hv.shape
  have HX4 : Hid (BgB (w4.alloc (.cells #[.bool vs, .slice va vn vc] 29)) w4.heap.size M ∧ IsGr w (w4.alloc (.cells #[.bool vs, .slice va vn vc] 29)) ∧ w.heap.size ≤ w4.heap.size) := ⟨BgB.new hv, (hg1.trans hg4).trans ((IsGr.refl w4).alloc _), (hg1.trans hg4).size⟩
  clear hv hg1 hg4
  go_wp2_with fail
  refine (C1 _).mono ?_
  clear C1
  rintro e w5 ⟨o, rfl, ho, hg5⟩
  obtain ⟨os, oa, on, oc, rfl⟩ := ho.shape
  have HY5 : Hid (BgB (w5.alloc (.cells #[.bool os, .slice oa on oc] 29)) w4.heap.size M ∧ BgB (w5.alloc (.cells #[.bool os, .slice oa on oc] 29)) w5.heap.size 1 ∧ IsGr w (w5.alloc (.cells #[.bool os, .slice oa on oc] 29)) ∧ w.heap.size ≤ w4.heap.size ∧ w4.heap.size < w5.heap.size) := ⟨(HX4.out.1.gr hg5).gr ((IsGr.refl w5).alloc _), BgB.new ho, (HX4.out.2.1.trans hg5).trans ((IsGr.refl w5).alloc _), HX4.out.2.2, by have := hg5.size; simp at this; omega⟩
  clear ho hg5 HX4
  go_upto_if 71 with fail
  obtain ⟨PX, hPX⟩ : ∃ P, w4.heap.size = P := ⟨_, rfl⟩
  obtain ⟨PY, hPY⟩ : ∃ P, w5.heap.size = P := ⟨_, rfl⟩
  obtain ⟨w6, hw6⟩ : ∃ W, w5.alloc (.cells #[.bool os, .slice oa on oc] 29) = W := ⟨_, rfl⟩
  rw [hPX, hPY, hw6] at HY5
  rw [hPX, hPY, hw6]
  clear hPX hPY hw6
  go_cut [] from 67 to 82 (fun wx => Hid (BgB wx PX X ∧ BgB wx PY Y ∧ IsGr w wx))
  case first =>
    obtain ⟨xs, xa, xn, xc, hxb, hxB⟩ := HY5.out.1
    obtain ⟨ys, ya, yn, yc, hyb, hyB⟩ := HY5.out.2.1
    obtain ⟨c0, c1, f0, f1⟩ := block_two hxb
    obtain ⟨d0, d1, g0, g1⟩ := block_two hyb
    have HB6 : Hid (IsBig w6 (.agg #[.bool xs, .slice xa xn xc]) M ∧ w.heap.size ≤ PX ∧ PX < PY) := ⟨hxB, HY5.out.2.2.2⟩
    clear hxb hxB hyb hyB
    by_cases hq : 0 ≤ E + fine
    · obtain ⟨hX, hY⟩ := HXY.out.1.pos hq
      have CTT := fun w => Ten_any (E + fine) w (by have := HXY.out.2.2.1; omega)
      have s1 := HXY.out.2.2.2
      have s2 := ten_sm (E + fine).toNat (by have := HXY.out.2.2.1; omega)
      have HQ : Hid (X = M * 10 ^ (E + fine).toNat ∧ Y = 1) := ⟨hX, hY⟩
      clear hX hY
      go_upto_region 11 with fail
      obtain ⟨C, hin, hcl, hcells, hgr⟩ : ∃ C : World → Prop, (∀ w', IsGr w6 w' → C w') ∧ (∀ u u', C u → IsGr u u' → C u') ∧ (∀ w', C w' → (w'.cell? ⟨PX, 0, none⟩ = some (.bool xs)) ∧ (w'.cell? ⟨PX, 1, none⟩ = some (.slice xa xn xc)) ∧ (w'.frozen? ⟨PX, 0, none⟩ = false) ∧ (w'.frozen? ⟨PX, 1, none⟩ = false)) ∧ (∀ w', C w' → IsGr w6 w') := ⟨fun w' => IsGr w6 w', fun _ h => h, fun _ _ h k => h.trans k, fun w' hg => ⟨cellk c0 hg, cellk c1 hg, frzk c0 f0 hg, frzk c1 f1 hg⟩, fun _ h => h⟩
      refine wp_region_but (S := C) (k := 6) (n := 6) (by kernel_rfl) (by kernel_rfl) (by (try dsimp only); exact hin _ (by with_reducible repeat (first | exact IsGr.refl _ | refine IsGr.gr ?_ _ _ | refine IsGr.alloc ?_ _ | refine IsGr.drew ?_ | refine IsGr.drewN ?_ _))) (fun hHeld => ?_)
      refine wpAnyH_take (i := 0) (oi := { dst := some 72, op := Op.load 29 (Operand.tmp 7), type := 29, pos := "law.go:53", after := #[], guard := none }) (v := ?_) rfl (by kernel_rfl) (by kernel_rfl) (by kernel_rfl) (fun _ _ _ h => h) (Or.inl ⟨by rfl, ?_⟩) (by assumption) ?_
      rotate_left
      · (intro w hSw; (try dsimp only at hSw); (try have hcs := hcells w hSw); (try go_split_ands); go_simp <;> with_reducible rfl)
      (try simp only [Act.put, List.setIfInBounds_toArray, List.set_cons_zero, List.set_cons_succ])
      refine wpAnyH_take (i := 1) (oi := { dst := some 73, op := Op.move (Operand.tmp 8), type := 3, pos := "law.go:53", after := #[], guard := none }) (v := ?_) rfl (by kernel_rfl) (by kernel_rfl) (by kernel_rfl) (fun _ _ _ h => h) (Or.inl ⟨by rfl, ?_⟩) (by assumption) ?_
      rotate_left
      · (intro w hSw; (try dsimp only at hSw); (try have hcs := hcells w hSw); (try go_split_ands); go_simp <;> with_reducible rfl)
      (try simp only [Act.put, List.setIfInBounds_toArray, List.set_cons_zero, List.set_cons_succ])
      refine wpAnyH_take (i := 2) (oi := { dst := some 74, op := Op.move (Operand.tmp 1), type := 3, pos := "law.go:53", after := #[], guard := none }) (v := ?_) rfl (by kernel_rfl) (by kernel_rfl) (by kernel_rfl) (fun _ _ _ h => h) (Or.inl ⟨by rfl, ?_⟩) (by assumption) ?_
      rotate_left
      · (intro w hSw; (try dsimp only at hSw); (try have hcs := hcells w hSw); (try go_split_ands); go_simp <;> with_reducible rfl)
      (try simp only [Act.put, List.setIfInBounds_toArray, List.set_cons_zero, List.set_cons_succ])
      refine wpAnyH_take (i := 3) (oi := { dst := some 75, op := Op.binOp BinOp.add 3 (Operand.tmp 73) (Operand.tmp 74) 3, type := 3, pos := "law.go:53", after := #[{ on := 1, ground := Ground.data }, { on := 2, ground := Ground.data }], guard := none }) (v := ?_) rfl (by kernel_rfl) (by kernel_rfl) (by kernel_rfl) (fun _ _ _ h => h) (Or.inl ⟨by rfl, ?_⟩) (by assumption) ?_
      rotate_left
      · (intro w hSw; (try dsimp only at hSw); (try have hcs := hcells w hSw); (try go_split_ands); go_simp <;> with_reducible rfl)
      (try simp only [Act.put, List.setIfInBounds_toArray, List.set_cons_zero, List.set_cons_succ])
      refine wpAnyH_ready (rs := [4]) (by kernel_rfl) (by simp) ?_
      refine AllReadyH.cons (o := { dst := some 76, op := Op.call { callee := Callee.value (Operand.func 14), args := #[Operand.tmp 75], argTypes := #[3] }, type := 29, pos := "law.go:53", after := #[{ on := 3, ground := Ground.data }], guard := none }) rfl (fun K hK => ?_) ?_
      · go_simp
        refine (CTT _).mono ?_
        rintro e w7 ⟨T, rfl, hT, hg7⟩
        obtain ⟨Ts, Ta, Tn, Tc, rfl⟩ := hT.shape
        (try go_wp2_with fail)
        refine hK.out _ _ (by (try dsimp only); exact hcl _ _ hHeld (by first | with_reducible assumption | with_reducible exact IsGr.refl _ | with_reducible exact (IsGr.refl _).alloc _ | with_reducible exact ((IsGr.refl _).alloc _).alloc _ | assumption)) (fun hHeld2 => ?_)
        clear hK K hHeld
        have hHeld := hHeld2
        clear hHeld2
        (try simp only [Act.put, List.setIfInBounds_toArray, List.set_cons_zero, List.set_cons_succ])
        refine wpAnyH_ready (rs := [5]) (by kernel_rfl) (by simp) ?_
        refine AllReadyH.cons (o := { dst := some 77, op := Op.call { callee := Callee.value (Operand.func 13), args := #[Operand.tmp 72, Operand.tmp 76], argTypes := #[29, 29] }, type := 29, pos := "law.go:53", after := #[{ on := 0, ground := Ground.data }, { on := 4, ground := Ground.data }, { on := 4, ground := Ground.chain }], guard := none }) rfl (fun K hK => ?_) ?_
        · go_simp
          refine (BigMul_any _ _ M (10 ^ (E + fine).toNat) _ (HB6.out.1.gr (hgr _ hHeld)) (hT.gr (by first | with_reducible assumption | with_reducible exact IsGr.refl _ | with_reducible exact (IsGr.refl _).alloc _ | with_reducible exact ((IsGr.refl _).alloc _).alloc _ | assumption)) s1 s2).mono ?_
          rintro e w8 ⟨R, rfl, hR, hg8⟩
          obtain ⟨Rs, Ra, Rn, Rc, rfl⟩ := hR.shape
          (try go_wp2_with fail)
          refine hK.out _ _ (by (try dsimp only); exact hcl _ _ hHeld (by first | with_reducible assumption | with_reducible exact IsGr.refl _ | with_reducible exact (IsGr.refl _).alloc _ | with_reducible exact ((IsGr.refl _).alloc _).alloc _ | assumption)) (fun hHeld2 => ?_)
          clear hK K hHeld
          have hHeld := hHeld2
          clear hHeld2
          (try simp only [Act.put, List.setIfInBounds_toArray, List.set_cons_zero, List.set_cons_succ])
          refine wpAnyH_done (by kernel_rfl) ?_ _
          obtain ⟨q0, q1, q2, q3⟩ := hcells _ hHeld
          have hg := hgr _ hHeld
          refine butLast_step (o := { dst := none, op := Op.store 29 (Operand.tmp 7) (Operand.tmp 77), type := 0, pos := "law.go:53", after := #[{ on := 5, ground := Ground.data }, { on := 5, ground := Ground.chain }, { on := 0, ground := Ground.phase }, { on := 1, ground := Ground.phase }, { on := 2, ground := Ground.phase }, { on := 3, ground := Ground.phase }, { on := 4, ground := Ground.phase }, { on := 5, ground := Ground.phase }], guard := none }) rfl (fun K hK => ?_)
          go_simp
          refine hK.out _ _ ?_
          clear hK K
          (try simp only [Act.put, List.setIfInBounds_toArray, List.set_cons_zero, List.set_cons_succ])
          have HN : Hid (BgB ((w8.setCell ⟨PX, 0, none⟩ (.bool Rs)).setCell ⟨PX, 1, none⟩ (.slice Ra Rn Rc)) PX X ∧ BgB ((w8.setCell ⟨PX, 0, none⟩ (.bool Rs)).setCell ⟨PX, 1, none⟩ (.slice Ra Rn Rc)) PY Y ∧ IsGr w ((w8.setCell ⟨PX, 0, none⟩ (.bool Rs)).setCell ⟨PX, 1, none⟩ (.slice Ra Rn Rc))) := by
            have h1 := HY5.out.1.gr hg
            have h2 := HY5.out.2.1.gr hg
            rw [HQ.out.1, HQ.out.2]
            exact ⟨h1.put hR, h1.other h2 (by have := HB6.out; omega), IsGr.of_below (below_put (HY5.out.2.2.1.trans hg).below HB6.out.2.1)⟩
          clear hHeld hgr hin hcl hcells q0 q1 q2 q3 c0 c1 f0 f1 d0 d1 g0 g1 hg hR hT
          go_wp2_with fail
          go_meet
          exact HN.out
        exact AllReadyH.nil
      exact AllReadyH.nil
    · obtain ⟨hX, hY⟩ := HXY.out.1.neg (by omega)
      have CTT := fun w => Ten_any (-(E + fine)) w (by have := HXY.out.2.2.1; omega)
      have HQ : Hid (X = M ∧ Y = 10 ^ (-(E + fine)).toNat) := ⟨hX, hY⟩
      clear hX hY
      go_wp2_with fail
      refine (CTT _).mono ?_
      clear CTT
      rintro e w7 ⟨R, rfl, hR, hg7⟩
      obtain ⟨Rs, Ra, Rn, Rc, rfl⟩ := hR.shape
      have q0 := cellk d0 hg7
      have q1 := cellk d1 hg7
      have q2 := frzk d0 g0 hg7
      have q3 := frzk d1 g1 hg7
      have HN : Hid (BgB ((w7.setCell ⟨PY, 0, none⟩ (.bool Rs)).setCell ⟨PY, 1, none⟩ (.slice Ra Rn Rc)) PX X ∧ BgB ((w7.setCell ⟨PY, 0, none⟩ (.bool Rs)).setCell ⟨PY, 1, none⟩ (.slice Ra Rn Rc)) PY Y ∧ IsGr w ((w7.setCell ⟨PY, 0, none⟩ (.bool Rs)).setCell ⟨PY, 1, none⟩ (.slice Ra Rn Rc))) := by
        have h1 := HY5.out.1.gr hg7
        have h2 := HY5.out.2.1.gr hg7
        rw [HQ.out.1, HQ.out.2]
        exact ⟨h2.other h1 (by have := HB6.out; omega), h2.put hR, IsGr.of_below (below_put (HY5.out.2.2.1.trans hg7).below (by have := HB6.out; omega))⟩
      clear c0 c1 f0 f1 d0 d1 g0 g1 hg7 hR
      go_wp2_with fail
      go_meet
      exact HN.out
  case rest =>
    have HR : Hid (BgB wc PX X ∧ BgB wc PY Y ∧ IsGr w wc) := hcut.out
    clear hcut
    obtain ⟨xs, xa, xn, xc, hxb, hxB⟩ := HR.out.1
    obtain ⟨ys, ya, yn, yc, hyb, hyB⟩ := HR.out.2.1
    obtain ⟨c0, c1, f0, f1⟩ := block_two hxb
    obtain ⟨d0, d1, g0, g1⟩ := block_two hyb
    have HBX : Hid (IsBig wc (.agg #[.bool xs, .slice xa xn xc]) X ∧ IsBig wc (.agg #[.bool ys, .slice ya yn yc]) Y) := ⟨hxB, hyB⟩
    have hb175 : (10 : Int) ^ 170 ≤ 2 * 10 ^ 175 := by decide +kernel
    have hb160 : (10 : Int) ^ 160 ≤ 2 * 10 ^ 175 := by decide +kernel
    have sX : Sm X := big_175 (by have := HXY.out.2.1; omega)
    have sY : Sm Y := big_175 (by have := HXY.out.2.1; omega)
    clear hxb hxB hyb hyB hb175 hb160

    have hb5 : (10 : Int) ^ 170 ≤ 10 ^ 175 := by decide +kernel
    have hb6 : (10 : Int) ^ 160 ≤ 10 ^ 175 := by decide +kernel

    have CDV := divides_any _ _ X Y wc HBX.out.1 HBX.out.2 (by have := HXY.out.2.1; have := hb5; omega) (by have := HXY.out.2.1; have := hb5; omega) HXY.out.2.1.1 (by have := HXY.out.2.1; have := hb6; omega)
    rw [decide_eq_true HF.out.1] at CDV
    clear hb5 hb6
    go_wp2_with fail
    refine CDV.mono ?_
    clear CDV
    rintro e w7 ⟨rfl, hg7⟩

    have hm : (1099511627775 * Y : Int) ≤ 2 * 10 ^ 175 ∧ 0 ≤ 1099511627775 * Y := by
      have h9 : 1099511627775 * (10 : Int) ^ 160 ≤ 2 * 10 ^ 175 := by decide +kernel
      have := HXY.out.2.1
      omega
    have sM : Sm (1099511627775 * Y) := big_175 (by omega)
    have s9 : Sm 1099511627775 := by unfold Sm; omega
    have CT := fun w => BigOf_any 1099511627775 (by omega) (by omega) w
    have CM := fun w1 u (h : IsBig w1 u 1099511627775) (hg : IsGr w7 w1) => BigMul_any u _ 1099511627775 Y w1 h (HBX.out.2.gr (hg7.trans hg)) s9 sY
    have x0 := cellk c0 hg7
    have x1 := cellk c1 hg7
    have SO : ∀ w', IsGr w7 w' → (w'.cell? ⟨PY, 0, none⟩ = some (.bool ys)) ∧ (w'.cell? ⟨PY, 1, none⟩ = some (.slice ya yn yc)) := fun w' hg => ⟨cellk (cellk d0 hg7) hg, cellk (cellk d1 hg7) hg⟩
    have HG7 : Hid (IsGr w w7 ∧ IsGr wc w7) := ⟨HR.out.2.2.trans hg7, hg7⟩
    clear hm hg7 c0 c1 f0 f1 d0 d1 g0 g1
    go_upto_region 20 with fail
    go_cut [11] from 115 to 117 (fun t11 wr => BigAt wr t11 (1099511627775 * Y) ∧ IsGr w7 wr)
    case first => as_aux_lemma =>
      refine wp_region_held_drew (S := (fun w' => (w'.cell? ⟨PY, 0, none⟩ = some (.bool ys)) ∧ (w'.cell? ⟨PY, 1, none⟩ = some (.slice ya yn yc)))) (by kernel_rfl) (by (try dsimp only); exact SO _ (by with_reducible repeat (first | exact IsGr.refl _ | refine IsGr.gr ?_ _ _ | refine IsGr.alloc ?_ _ | refine IsGr.drew ?_ | refine IsGr.drewN ?_ _))) (fun hHeld => ?_)
      refine wpAnyH_take (i := 1) (oi := { dst := some 116, op := Op.load 29 (Operand.tmp 9), type := 29, pos := "law.go:67", after := #[], guard := none }) (v := ?_) rfl (by kernel_rfl) (by kernel_rfl) (by kernel_rfl) (fun _ _ _ h => h) (Or.inl ⟨by rfl, ?_⟩) (by assumption) ?_
      rotate_left
      · (intro w hSw; (try dsimp only at hSw); go_simp <;> with_reducible rfl)
      (try simp only [Act.put, List.setIfInBounds_toArray, List.set_cons_zero, List.set_cons_succ])
      refine wpAnyH_invA [0, 2, 3, 4] (fun A D a w => ∃ t0 t2 t3 : Value, a = (((A.put (some 115) t0).put (some 117) t2).put (some 11) t3) ∧ IsGr w7 w ∧ (D 0 → IsBig w t0 (1099511627775)) ∧ (D 2 → IsBig w t2 (1099511627775 * Y)) ∧ (D 3 → Bx w7 w 29 bigCells t3) ∧ (D 4 → D 3 ∧ D 2 ∧ ∃ c0 c1 : Value, t2 = .agg #[c0, c1] ∧ Hx w 29 t3 c0 c1)) (by kernel_rfl) (by assumption) ?_ ?_ ?_
      · exact ⟨_, _, _, by (simp only [Act.put, List.setIfInBounds_toArray, List.set_cons_zero, List.set_cons_succ]); try rfl, (by with_reducible repeat (first | exact IsGr.refl _ | refine IsGr.gr ?_ _ _ | refine IsGr.alloc ?_ _ | refine IsGr.drew ?_ | refine IsGr.drewN ?_ _)), fun h => h.elim, fun h => h.elim, fun h => h.elim, fun h => h.elim⟩
      · intro D a w hD hF hSw
        obtain ⟨t0, t2, t3, ha, hg, f0, f2, b3, h4⟩ := hF
        subst ha
        (try simp only [Act.put, List.setIfInBounds_toArray, List.set_cons_zero, List.set_cons_succ])
        have A1 := BigAt.of (h4 (hD 4 (by simp))).2.2 (f2 (hD 2 (by simp)))
        clear f0 f2 b3 h4 hD hSw
        go_wp2
        go_meet
        case rel => exact ⟨A1, hg⟩
      refine StepI.cons (i := 0) (o := { dst := some 115, op := Op.call { callee := Callee.value (Operand.func 12), args := #[Operand.const (Value.int IntKind.i64 1099511627775)], argTypes := #[3] }, type := 29, pos := "law.go:67", after := #[], guard := none }) (ns := []) rfl (by kernel_rfl) (fun D a w nD hn hF hSw K hK => ?_) ?_
      · obtain ⟨t0, t2, t3, ha, hg, f0, f2, b3, h4⟩ := hF
        subst ha
        (try simp only [Act.put, List.setIfInBounds_toArray, List.set_cons_zero, List.set_cons_succ])
        go_simp
        refine (CT _).mono ?_
        rintro e w1 ⟨q, rfl, hq, hg1⟩
        (try go_wp2_with fail)
        refine hK.out _ _ (SO _ (hg.trans hg1)) (fun _ => ?_)
        refine ⟨q, t2, t3, by (simp only [Act.put, List.setIfInBounds_toArray, List.set_cons_zero, List.set_cons_succ]); try rfl, (hg.trans hg1), ?_, ?_, ?_, ?_⟩
        · exact fun _ => hq
        · exact fun h => (f2 (Or.resolve_left h (by decide))).gr hg1
        · exact fun h => (b3 (Or.resolve_left h (by decide))).gr hg1
        · exact fun h => (h4 (Or.resolve_left h (by decide))).imp Or.inr (fun ⟨x1, c0, c1, x2, x3⟩ => ⟨Or.inr x1, c0, c1, x2, x3.gr hg1⟩)
      refine StepI.cons (i := 2) (o := { dst := some 117, op := Op.call { callee := Callee.value (Operand.func 13), args := #[Operand.tmp 115, Operand.tmp 116], argTypes := #[29, 29] }, type := 29, pos := "law.go:67", after := #[{ on := 0, ground := Ground.data }, { on := 1, ground := Ground.data }, { on := 0, ground := Ground.chain }], guard := none }) (ns := [0, 0]) rfl (by kernel_rfl) (fun D a w nD hn hF hSw K hK => ?_) ?_
      · obtain ⟨t0, t2, t3, ha, hg, f0, f2, b3, h4⟩ := hF
        have d0 : D 0 := hn 0 (by simp)
        have d0 : D 0 := hn 0 (by simp)
        subst ha
        (try simp only [Act.put, List.setIfInBounds_toArray, List.set_cons_zero, List.set_cons_succ])
        go_simp
        refine (CM _ _ (f0 d0) hg).mono ?_
        rintro e w1 ⟨q, rfl, hq, hg1⟩
        (try go_wp2_with fail)
        refine hK.out _ _ (SO _ (hg.trans hg1)) (fun _ => ?_)
        refine ⟨t0, q, t3, by (simp only [Act.put, List.setIfInBounds_toArray, List.set_cons_zero, List.set_cons_succ]); try rfl, (hg.trans hg1), ?_, ?_, ?_, ?_⟩
        · exact fun h => (f0 (Or.resolve_left h (by decide))).gr hg1
        · exact fun _ => hq
        · exact fun h => (b3 (Or.resolve_left h (by decide))).gr hg1
        · exact fun h => absurd (h4 (Or.resolve_left h (by decide))).2.1 nD
      refine StepI.cons (i := 3) (o := { dst := some 11, op := Op.alloc 29, type := 0, pos := "law.go:67", after := #[], guard := none }) (ns := []) rfl (by kernel_rfl) (fun D a w nD hn hF hSw K hK => ?_) ?_
      · obtain ⟨t0, t2, t3, ha, hg, f0, f2, b3, h4⟩ := hF
        subst ha
        (try simp only [Act.put, List.setIfInBounds_toArray, List.set_cons_zero, List.set_cons_succ])
        go_simp
        refine hK.out _ _ (SO _ (hg.alloc _)) (fun _ => ?_)
        refine ⟨t0, t2, _, by (simp only [Act.put, List.setIfInBounds_toArray, List.set_cons_zero, List.set_cons_succ]); try rfl, (hg.alloc _), ?_, ?_, ?_, ?_⟩
        · exact fun h => (f0 (Or.resolve_left h (by decide))).gr ((IsGr.refl _).alloc _)
        · exact fun h => (f2 (Or.resolve_left h (by decide))).gr ((IsGr.refl _).alloc _)
        · exact fun _ => Bx.lay hg (by simp [bigCells])
        · exact fun h => absurd (h4 (Or.resolve_left h (by decide))).1 nD
      refine StepI.cons (i := 4) (o := { dst := none, op := Op.store 29 (Operand.tmp 11) (Operand.tmp 117), type := 0, pos := "law.go:67", after := #[{ on := 3, ground := Ground.data }, { on := 2, ground := Ground.data }, { on := 2, ground := Ground.chain }, { on := 0, ground := Ground.phase }, { on := 1, ground := Ground.phase }, { on := 2, ground := Ground.phase }, { on := 3, ground := Ground.phase }], guard := none }) (ns := [3, 2, 2, 0, 2, 3]) rfl (by kernel_rfl) (fun D a w nD hn hF hSw K hK => ?_) ?_
      · obtain ⟨t0, t2, t3, ha, hg, f0, f2, b3, h4⟩ := hF
        have d3 : D 3 := hn 3 (by simp)
        have d2 : D 2 := hn 2 (by simp)
        have d2 : D 2 := hn 2 (by simp)
        have d0 : D 0 := hn 0 (by simp)
        have d2 : D 2 := hn 2 (by simp)
        have d3 : D 3 := hn 3 (by simp)
        obtain ⟨z0, z1, hz0⟩ : ∃ z0 z1 : Value, t2 = .agg #[z0, z1] ∧ bigCells z0 z1 := big_cells (f2 d2)
        obtain ⟨hz0, hz1⟩ := hz0
        obtain ⟨bb, y0, y1, hb0, hb1, hb2, hb3⟩ := b3 d3
        obtain ⟨k1, k2, k3, k4, k5⟩ := block_cells hb2
        have hz2 := hz1
        obtain ⟨zs, za, zn, zc, rfl, rfl⟩ := hz1
        subst hz0
        subst hb0
        subst ha
        (try simp only [Act.put, List.setIfInBounds_toArray, List.set_cons_zero, List.set_cons_succ])
        go_simp
        refine hK.out _ _ (SO _ (put2_gr hg hb1)) (fun _ => ?_)
        refine ⟨t0, (.agg #[.bool zs, .slice za zn zc]), (.pointer (some ⟨bb, 0, none⟩)), by (simp only [Act.put, List.setIfInBounds_toArray, List.set_cons_zero, List.set_cons_succ]); try rfl, (put2_gr hg hb1), ?_, ?_, ?_, ?_⟩
        · exact fun h => (f0 (Or.resolve_left h (by decide))).kb (put2_kb hb2 hb3)
        · exact fun h => (f2 (Or.resolve_left h (by decide))).kb (put2_kb hb2 hb3)
        · exact fun h => put2_bx hb2 hz2 (b3 (Or.resolve_left h (by decide)))
        · exact fun _ => ⟨Or.inr d3, Or.inr d2, _, _, rfl, put2_new hb2⟩
      exact StepI.nil
    case rest =>
      obtain ⟨A3, hgr9⟩ := hcut
      obtain ⟨W2, hW9⟩ : ∃ W2, W2 = wc := ⟨_, rfl⟩
      subst hW9
      obtain ⟨g3, s3, a3, n3, c3, rfl, k3, u3, u3', B3⟩ := A3
      replace x0 := cellk x0 hgr9
      replace x1 := cellk x1 hgr9
      have HB2 : Hid (IsBig W2 (.agg #[.bool xs, .slice xa xn xc]) X ∧ IsBig W2 (.agg #[.bool s3, .slice a3 n3 c3]) (1099511627775 * Y) ∧ IsGr w W2) := ⟨HBX.out.1.gr (HG7.out.2.trans hgr9), B3, HG7.out.1.trans hgr9⟩
      have hYp := HXY.out.2.1.1
      have hlt : 1099511627775 * Y < X := by rw [← HF.out.2.1]; exact Int.mul_lt_mul_of_pos_right HF.out.2.2 hYp
      have hc1 : decide (0 < cmpI X (1099511627775 * Y)) = true := decide_eq_true (by unfold cmpI; repeat' split <;> omega)
      clear hlt hYp hgr9 B3 SO CT CM k3
      go_upto_region 21 with fail
      obtain ⟨C, hin, hcl, hcells, hgr⟩ : ∃ C : World → Prop, (∀ w', IsGr W2 w' → C w') ∧ (∀ u u', C u → IsGr u u' → C u') ∧ (∀ w', C w' → (w'.cell? ⟨PX, 0, none⟩ = some (.bool xs)) ∧ (w'.cell? ⟨PX, 1, none⟩ = some (.slice xa xn xc)) ∧ (w'.cell? ⟨g3, 0, none⟩ = some (.bool s3)) ∧ (w'.cell? ⟨g3, 1, none⟩ = some (.slice a3 n3 c3))) ∧ (∀ w', C w' → IsGr W2 w') := ⟨fun w' => IsGr W2 w', fun _ h => h, fun _ _ h k => h.trans k, fun w' hg => ⟨cellk x0 hg, cellk x1 hg, cellk u3 hg, cellk u3' hg⟩, fun _ h => h⟩
      refine wp_region_held_drew (S := C) (by kernel_rfl) (by (try dsimp only); exact hin _ (by with_reducible repeat (first | exact IsGr.refl _ | refine IsGr.gr ?_ _ _ | refine IsGr.alloc ?_ _ | refine IsGr.drew ?_ | refine IsGr.drewN ?_ _))) (fun hHeld => ?_)
      refine wpAnyH_take (i := 0) (oi := { dst := some 118, op := Op.move (Operand.tmp 6), type := 23, pos := "law.go:68", after := #[], guard := none }) (v := ?_) rfl (by kernel_rfl) (by kernel_rfl) (by kernel_rfl) (fun _ _ _ h => h) (Or.inl ⟨by rfl, ?_⟩) (by assumption) ?_
      rotate_left
      · (intro w hSw; (try dsimp only at hSw); (try have hcs := hcells w hSw); (try go_split_ands); go_simp <;> with_reducible rfl)
      (try simp only [Act.put, List.setIfInBounds_toArray, List.set_cons_zero, List.set_cons_succ])
      refine wpAnyH_take (i := 1) (oi := { dst := some 119, op := Op.binOp BinOp.eql 23 (Operand.tmp 118) (Operand.const (Value.int IntKind.i64 23)) 23, type := 4, pos := "law.go:68", after := #[{ on := 0, ground := Ground.data }], guard := none }) (v := ?_) rfl (by kernel_rfl) (by kernel_rfl) (by kernel_rfl) (fun _ _ _ h => h) (Or.inl ⟨by rfl, ?_⟩) (by assumption) ?_
      rotate_left
      · (intro w hSw; (try dsimp only at hSw); (try have hcs := hcells w hSw); (try go_split_ands); go_simp <;> with_reducible rfl)
      (try simp only [Act.put, List.setIfInBounds_toArray, List.set_cons_zero, List.set_cons_succ])
      refine wpAnyH_take (i := 2) (oi := { dst := some 120, op := Op.move (Operand.tmp 119), type := 4, pos := "law.go:68", after := #[{ on := 1, ground := Ground.data }], guard := none }) (v := ?_) rfl (by kernel_rfl) (by kernel_rfl) (by kernel_rfl) (fun _ _ _ h => h) (Or.inl ⟨by rfl, ?_⟩) (by assumption) ?_
      rotate_left
      · (intro w hSw; (try dsimp only at hSw); (try have hcs := hcells w hSw); (try go_split_ands); go_simp <;> with_reducible rfl)
      (try simp only [Act.put, List.setIfInBounds_toArray, List.set_cons_zero, List.set_cons_succ])
      refine wpAnyH_take (i := 3) (oi := { dst := some 121, op := Op.move (Operand.tmp 10), type := 4, pos := "law.go:68", after := #[{ on := 2, ground := Ground.guard }], guard := some (2, true) }) (v := ?_) rfl (by kernel_rfl) (by kernel_rfl) (by kernel_rfl) (fun _ _ _ h => h) (Or.inl ⟨by rfl, ?_⟩) (by assumption) ?_
      rotate_left
      · (intro w hSw; (try dsimp only at hSw); (try have hcs := hcells w hSw); (try go_split_ands); go_simp <;> with_reducible rfl)
      (try simp only [Act.put, List.setIfInBounds_toArray, List.set_cons_zero, List.set_cons_succ])
      refine wpAnyH_take (i := 4) (oi := { dst := some 122, op := Op.pick (Operand.tmp 120) (Operand.tmp 121) (Operand.const (Value.bool false)), type := 4, pos := "law.go:68", after := #[{ on := 2, ground := Ground.data }, { on := 3, ground := Ground.data }], guard := none }) (v := ?_) rfl (by kernel_rfl) (by kernel_rfl) (by kernel_rfl) (fun _ _ _ h => h) (Or.inl ⟨by rfl, ?_⟩) (by assumption) ?_
      rotate_left
      · (intro w hSw; (try dsimp only at hSw); (try have hcs := hcells w hSw); (try go_split_ands); go_simp <;> with_reducible rfl)
      (try simp only [Act.put, List.setIfInBounds_toArray, List.set_cons_zero, List.set_cons_succ])
      refine wpAnyH_take (i := 5) (oi := { dst := some 123, op := Op.move (Operand.tmp 122), type := 4, pos := "law.go:68", after := #[{ on := 4, ground := Ground.data }, { on := 2, ground := Ground.chain }], guard := none }) (v := ?_) rfl (by kernel_rfl) (by kernel_rfl) (by kernel_rfl) (fun _ _ _ h => h) (Or.inl ⟨by rfl, ?_⟩) (by assumption) ?_
      rotate_left
      · (intro w hSw; (try dsimp only at hSw); (try have hcs := hcells w hSw); (try go_split_ands); go_simp <;> with_reducible rfl)
      (try simp only [Act.put, List.setIfInBounds_toArray, List.set_cons_zero, List.set_cons_succ])
      refine wpAnyH_take (i := 6) (oi := { dst := some 124, op := Op.load 29 (Operand.tmp 7), type := 29, pos := "law.go:68", after := #[{ on := 5, ground := Ground.guard }], guard := some (5, true) }) (v := ?_) rfl (by kernel_rfl) (by kernel_rfl) (by kernel_rfl) (fun _ _ _ h => h) (Or.inl ⟨by rfl, ?_⟩) (by assumption) ?_
      rotate_left
      · (intro w hSw; (try dsimp only at hSw); (try have hcs := hcells w hSw); (try go_split_ands); go_simp <;> with_reducible rfl)
      (try simp only [Act.put, List.setIfInBounds_toArray, List.set_cons_zero, List.set_cons_succ])
      refine wpAnyH_take (i := 7) (oi := { dst := some 125, op := Op.load 29 (Operand.tmp 11), type := 29, pos := "law.go:68", after := #[{ on := 5, ground := Ground.guard }], guard := some (5, true) }) (v := ?_) rfl (by kernel_rfl) (by kernel_rfl) (by kernel_rfl) (fun _ _ _ h => h) (Or.inl ⟨by rfl, ?_⟩) (by assumption) ?_
      rotate_left
      · (intro w hSw; (try dsimp only at hSw); (try have hcs := hcells w hSw); (try go_split_ands); go_simp <;> with_reducible rfl)
      (try simp only [Act.put, List.setIfInBounds_toArray, List.set_cons_zero, List.set_cons_succ])
      refine wpAnyH_ready (rs := [8]) (by kernel_rfl) (by simp) ?_
      refine AllReadyH.cons (o := { dst := some 126, op := Op.call { callee := Callee.value (Operand.func 15), args := #[Operand.tmp 124, Operand.tmp 125], argTypes := #[29, 29] }, type := 3, pos := "law.go:68", after := #[{ on := 6, ground := Ground.data }, { on := 7, ground := Ground.data }, { on := 5, ground := Ground.chain }, { on := 5, ground := Ground.guard }], guard := some (5, true) }) rfl (fun K hK => ?_) ?_
      · go_simp
        refine (BigCmp_any _ _ X (1099511627775 * Y) _ (HB2.out.1.gr (hgr _ hHeld)) (HB2.out.2.1.gr (hgr _ hHeld)) sX sM).mono ?_
        rintro e w10 ⟨rfl, hg10⟩
        (try go_wp2_with fail)
        refine hK.out _ _ (by (try dsimp only); exact hcl _ _ hHeld (by first | with_reducible assumption | with_reducible exact IsGr.refl _ | with_reducible exact (IsGr.refl _).alloc _ | with_reducible exact ((IsGr.refl _).alloc _).alloc _ | assumption)) (fun hHeld2 => ?_)
        clear hK K hHeld
        have hHeld := hHeld2
        clear hHeld2
        (try simp only [Act.put, List.setIfInBounds_toArray, List.set_cons_zero, List.set_cons_succ])
        refine wpAnyH_take (i := 9) (oi := { dst := some 127, op := Op.binOp BinOp.gtr 3 (Operand.tmp 126) (Operand.const (Value.int IntKind.i64 0)) 3, type := 4, pos := "law.go:68", after := #[{ on := 8, ground := Ground.data }, { on := 5, ground := Ground.guard }], guard := some (5, true) }) (v := ?_) rfl (by kernel_rfl) (by kernel_rfl) (by kernel_rfl) (fun _ _ _ h => h) (Or.inl ⟨by rfl, ?_⟩) (by assumption) ?_
        rotate_left
        · (intro w hSw; (try dsimp only at hSw); (try have hcs := hcells w hSw); (try go_split_ands); go_simp <;> with_reducible rfl)
        (try simp only [Act.put, List.setIfInBounds_toArray, List.set_cons_zero, List.set_cons_succ])
        refine wpAnyH_take (i := 10) (oi := { dst := some 128, op := Op.move (Operand.tmp 127), type := 4, pos := "law.go:68", after := #[{ on := 9, ground := Ground.data }, { on := 8, ground := Ground.chain }, { on := 5, ground := Ground.guard }], guard := some (5, true) }) (v := ?_) rfl (by kernel_rfl) (by kernel_rfl) (by kernel_rfl) (fun _ _ _ h => h) (Or.inl ⟨by rfl, ?_⟩) (by assumption) ?_
        rotate_left
        · (intro w hSw; (try dsimp only at hSw); (try have hcs := hcells w hSw); (try go_split_ands); go_simp <;> with_reducible rfl)
        (try simp only [Act.put, List.setIfInBounds_toArray, List.set_cons_zero, List.set_cons_succ])
        refine wpAnyH_take (i := 11) (oi := { dst := some 129, op := Op.load 29 (Operand.tmp 7), type := 29, pos := "law.go:68", after := #[{ on := 10, ground := Ground.guard }], guard := some (10, false) }) (v := undef) rfl (by kernel_rfl) (by kernel_rfl) (by kernel_rfl) (fun _ _ _ h => h) (Or.inr ⟨by rfl, rfl⟩) (by assumption) ?_
        (try simp only [Act.put, List.setIfInBounds_toArray, List.set_cons_zero, List.set_cons_succ])
        refine wpAnyH_take (i := 12) (oi := { dst := some 130, op := Op.load 29 (Operand.tmp 11), type := 29, pos := "law.go:68", after := #[{ on := 10, ground := Ground.guard }], guard := some (10, false) }) (v := undef) rfl (by kernel_rfl) (by kernel_rfl) (by kernel_rfl) (fun _ _ _ h => h) (Or.inr ⟨by rfl, rfl⟩) (by assumption) ?_
        (try simp only [Act.put, List.setIfInBounds_toArray, List.set_cons_zero, List.set_cons_succ])
        refine wpAnyH_take (i := 13) (oi := { dst := some 131, op := Op.call { callee := Callee.value (Operand.func 17), args := #[Operand.tmp 130], argTypes := #[29] }, type := 29, pos := "law.go:68", after := #[{ on := 12, ground := Ground.data }, { on := 10, ground := Ground.chain }, { on := 10, ground := Ground.guard }], guard := some (10, false) }) (v := undef) rfl (by kernel_rfl) (by kernel_rfl) (by kernel_rfl) (fun _ _ _ h => h) (Or.inr ⟨by rfl, rfl⟩) (by assumption) ?_
        (try simp only [Act.put, List.setIfInBounds_toArray, List.set_cons_zero, List.set_cons_succ])
        refine wpAnyH_take (i := 14) (oi := { dst := some 132, op := Op.call { callee := Callee.value (Operand.func 15), args := #[Operand.tmp 129, Operand.tmp 131], argTypes := #[29, 29] }, type := 3, pos := "law.go:68", after := #[{ on := 11, ground := Ground.data }, { on := 13, ground := Ground.data }, { on := 13, ground := Ground.chain }, { on := 10, ground := Ground.guard }], guard := some (10, false) }) (v := undef) rfl (by kernel_rfl) (by kernel_rfl) (by kernel_rfl) (fun _ _ _ h => h) (Or.inr ⟨by rfl, rfl⟩) (by assumption) ?_
        (try simp only [Act.put, List.setIfInBounds_toArray, List.set_cons_zero, List.set_cons_succ])
        refine wpAnyH_take (i := 15) (oi := { dst := some 133, op := Op.binOp BinOp.lss 3 (Operand.tmp 132) (Operand.const (Value.int IntKind.i64 0)) 3, type := 4, pos := "law.go:68", after := #[{ on := 14, ground := Ground.data }, { on := 10, ground := Ground.guard }], guard := some (10, false) }) (v := undef) rfl (by kernel_rfl) (by kernel_rfl) (by kernel_rfl) (fun _ _ _ h => h) (Or.inr ⟨by rfl, rfl⟩) (by assumption) ?_
        (try simp only [Act.put, List.setIfInBounds_toArray, List.set_cons_zero, List.set_cons_succ])
        refine wpAnyH_take (i := 16) (oi := { dst := some 134, op := Op.pick (Operand.tmp 128) (Operand.const (Value.bool true)) (Operand.tmp 133), type := 4, pos := "law.go:68", after := #[{ on := 10, ground := Ground.data }, { on := 15, ground := Ground.data }, { on := 5, ground := Ground.guard }], guard := some (5, true) }) (v := ?_) rfl (by kernel_rfl) (by kernel_rfl) (by kernel_rfl) (fun _ _ _ h => h) (Or.inl ⟨by rfl, ?_⟩) (by assumption) ?_
        rotate_left
        · (intro w hSw; (try dsimp only at hSw); (try have hcs := hcells w hSw); (try go_split_ands); go_simp <;> with_reducible rfl)
        (try simp only [Act.put, List.setIfInBounds_toArray, List.set_cons_zero, List.set_cons_succ])
        refine wpAnyH_take (i := 17) (oi := { dst := some 135, op := Op.pick (Operand.tmp 123) (Operand.tmp 134) (Operand.const (Value.bool false)), type := 4, pos := "law.go:68", after := #[{ on := 5, ground := Ground.data }, { on := 16, ground := Ground.data }], guard := none }) (v := ?_) rfl (by kernel_rfl) (by kernel_rfl) (by kernel_rfl) (fun _ _ _ h => h) (Or.inl ⟨by rfl, ?_⟩) (by assumption) ?_
        rotate_left
        · (intro w hSw; (try dsimp only at hSw); (try have hcs := hcells w hSw); (try go_split_ands); go_simp <;> with_reducible rfl)
        (try simp only [Act.put, List.setIfInBounds_toArray, List.set_cons_zero, List.set_cons_succ])
        refine wpAnyH_take (i := 18) (oi := { dst := some 136, op := Op.move (Operand.tmp 135), type := 4, pos := "law.go:68", after := #[{ on := 17, ground := Ground.data }, { on := 14, ground := Ground.chain }], guard := none }) (v := ?_) rfl (by kernel_rfl) (by kernel_rfl) (by kernel_rfl) (fun _ _ _ h => h) (Or.inl ⟨by rfl, ?_⟩) (by assumption) ?_
        rotate_left
        · (intro w hSw; (try dsimp only at hSw); (try have hcs := hcells w hSw); (try go_split_ands); go_simp <;> with_reducible rfl)
        (try simp only [Act.put, List.setIfInBounds_toArray, List.set_cons_zero, List.set_cons_succ])
        refine wpAnyH_ready (rs := [19]) (by kernel_rfl) (by simp) ?_
        refine AllReadyH.cons (o := { dst := some 137, op := Op.call { callee := Callee.value (Operand.func 7), args := #[], argTypes := #[] }, type := 4, pos := "law.go:68", after := #[{ on := 18, ground := Ground.chain }, { on := 18, ground := Ground.guard }], guard := some (18, true) }) rfl (fun K hK => ?_) ?_
        · go_simp
          refine (CA _ (HB2.out.2.2.trans (hgr _ hHeld))).mono ?_
          rintro e w12 ⟨rfl, hg12⟩
          (try go_wp2_with fail)
          refine hK.out _ _ (by (try dsimp only); exact hcl _ _ hHeld (by first | with_reducible assumption | with_reducible exact IsGr.refl _ | with_reducible exact (IsGr.refl _).alloc _ | with_reducible exact ((IsGr.refl _).alloc _).alloc _ | assumption)) (fun hHeld2 => ?_)
          clear hK K hHeld
          have hHeld := hHeld2
          clear hHeld2
          (try simp only [Act.put, List.setIfInBounds_toArray, List.set_cons_zero, List.set_cons_succ])
          refine wpAnyH_take (i := 20) (oi := { dst := some 138, op := Op.pick (Operand.tmp 136) (Operand.tmp 137) (Operand.const (Value.bool false)), type := 4, pos := "law.go:68", after := #[{ on := 18, ground := Ground.data }, { on := 19, ground := Ground.data }], guard := none }) (v := ?_) rfl (by kernel_rfl) (by kernel_rfl) (by kernel_rfl) (fun _ _ _ h => h) (Or.inl ⟨by rfl, ?_⟩) (by assumption) ?_
          rotate_left
          · (intro w hSw; (try dsimp only at hSw); (try have hcs := hcells w hSw); (try go_split_ands); go_simp <;> with_reducible rfl)
          (try simp only [Act.put, List.setIfInBounds_toArray, List.set_cons_zero, List.set_cons_succ])
          refine wpAnyH_take (i := 21) (oi := { dst := some 4, op := Op.assign (Operand.tmp 138), type := 4, pos := "law.go:68", after := #[{ on := 20, ground := Ground.data }, { on := 19, ground := Ground.chain }, { on := 0, ground := Ground.phase }, { on := 1, ground := Ground.phase }, { on := 2, ground := Ground.phase }, { on := 3, ground := Ground.phase }, { on := 4, ground := Ground.phase }, { on := 5, ground := Ground.phase }, { on := 6, ground := Ground.phase }, { on := 7, ground := Ground.phase }, { on := 8, ground := Ground.phase }, { on := 9, ground := Ground.phase }, { on := 10, ground := Ground.phase }, { on := 11, ground := Ground.phase }, { on := 12, ground := Ground.phase }, { on := 13, ground := Ground.phase }, { on := 14, ground := Ground.phase }, { on := 15, ground := Ground.phase }, { on := 16, ground := Ground.phase }, { on := 17, ground := Ground.phase }, { on := 18, ground := Ground.phase }, { on := 19, ground := Ground.phase }, { on := 20, ground := Ground.phase }], guard := none }) (v := ?_) rfl (by kernel_rfl) (by kernel_rfl) (by kernel_rfl) (fun _ _ _ h => h) (Or.inl ⟨by rfl, ?_⟩) (by assumption) ?_
          rotate_left
          · (intro w hSw; (try dsimp only at hSw); (try have hcs := hcells w hSw); (try go_split_ands); go_simp <;> with_reducible rfl)
          (try simp only [Act.put, List.setIfInBounds_toArray, List.set_cons_zero, List.set_cons_succ])
          refine wpAnyH_done (by kernel_rfl) ?_ _
          have hgF := hgr _ hHeld
          have HFG : Hid (IsGr w w12) := HB2.out.2.2.trans hgF
          clear hHeld hgr hin hcl hcells hgF
          go_wp2_with fail
          go_ret
          exact ⟨rfl, HFG.out⟩
        exact AllReadyH.nil
      exact AllReadyH.nil

set_option maxRecDepth 20000 in set_option maxHeartbeats 2000000 in
theorem scales_farn (C : DecC) (s : ByteArray) (fine : Int) (w : World) (neg : Bool) (sg l1 dt l2 ep : List Int) (p n X Y : Int) (hspl : Spl (bts s) neg sg l1 dt l2 ep p) (hf0 : 0 ≤ fine) (hf1 : fine ≤ 9) (hp : plB (bts s) = true)
    (hxy : SclI (sgI neg (dvl (l1 ++ l2))) (p - (l2.length : Nat) + fine) X Y) (hk : UnitIs (sgI neg (dvl (l1 ++ l2))) (p - (l2.length : Nat) + fine) n) (hk1 : n < -MxU)
    (CS : Calls Tryd.prog 8 #[.string s, .int .i64 fine] w fun e w' => e = .returned (.tuple #[.int .i64 0, .int .i64 23]) ∧ IsGr w w') (HTB : TabW w) : Calls Tryd.prog 3 #[.string s, .int .i64 fine] w fun e w' => e = .returned (.bool true) ∧ IsGr w w' := by
  obtain ⟨hb60, hep, hp0, hp1, hl⟩ := pl_spl hspl hp
  rw [bts_len] at hb60
  have hs' : ¬ (3000 : Int) < s.size := by omega
  have CA := fun w' (hg : IsGr w w') => dawake_any C w' (HTB.gr hg)
  have CR := fun w => RRight_any s w (by omega)
  have CP := fun w => plain_any s w
  have CN := fun w => Number_any s w neg sg l1 dt l2 ep p hspl hb60 hep
  have C1 := fun w => BigOf_any 1 (by omega) (by omega) w
  rw [hspl.right] at CR
  rw [hp] at CP
  obtain ⟨M, hM⟩ : ∃ M, sgI neg (dvl (l1 ++ l2)) = M := ⟨_, rfl⟩
  have hMb : -(10 ^ 60) ≤ M ∧ M ≤ 10 ^ 60 := by
    rw [← hM]
    exact sgI_bound (dvl_bound (hspl.d1.app hspl.d2)) (by rw [List.length_append]; exact hl)
  obtain ⟨E, hE⟩ : ∃ E, p - (l2.length : Nat) = E := ⟨_, rfl⟩
  have hEb : -160 ≤ E ∧ E ≤ 99 := by omega
  rw [hM, hE] at hxy
  rw [hM, hE] at CN
  have hbd := hxy.bound hMb (by omega) (by omega)
  have HXY : Hid (SclI M (E + fine) X Y ∧ (0 < Y ∧ Y ≤ 10 ^ 160 ∧ -(10 ^ 170) ≤ X ∧ X ≤ 10 ^ 170) ∧ (-160 ≤ E + fine ∧ E + fine ≤ 110) ∧ Sm M) := ⟨hxy, hbd, by omega, by
    have h3 : (10 : Int) ^ 60 ≤ 4149515568880992958512407863691161151012446232242436899995657329690652811412908146399707048947103794288197886611300789182395151075411775307886874834113963687061181803401509523685376 := by decide +kernel
    unfold Sm; omega⟩
  have hew : IntKind.i64.wrap (E + fine) = E + fine := by rw [IntKind.wrap_i64]; omega
  have hew2 : IntKind.i64.wrap (-(E + fine)) = -(E + fine) := by rw [IntKind.wrap_i64]; omega
  have hf0' : ¬ fine < 0 := by omega
  have hf1' : ¬ 9 < fine := by omega
  have HF : Hid (X % Y = 0 ∧ n * Y = X ∧ n < -1099511627775) := ⟨hxy.whole.1 ⟨n, by rw [← hM, ← hE]; exact hk⟩, hxy.unit.1 (by rw [← hM, ← hE]; exact hk), by unfold MxU at hk1; omega⟩
  clear hspl hb60 hep hp0 hp1 hl hp C HTB hf0 hf1 hM hMb hE hEb hxy hbd hk hk1
  go_enter Tryd.func3, Tryd.ntmps3
  go_wp2_with fail
  refine CS.mono ?_
  clear CS
  rintro e w1 ⟨rfl, hg1⟩
  go_wp2_with fail
  refine (CR _).mono ?_
  clear CR
  rintro e w2 ⟨rfl, hg2⟩
  obtain rfl := hg2.symm
  go_wp2_with fail
  refine (CP _).mono ?_
  clear CP
  rintro e w3 ⟨rfl, hg3⟩
  obtain rfl := hg3.symm
  go_wp2_with fail
  refine (CN _).mono ?_
  clear CN
  rintro e w4 ⟨v, rfl, hv, hg4⟩
  obtain ⟨vs, va, vn, vc, rfl⟩ := hv.shape
  have HX4 : Hid (BgB (w4.alloc (.cells #[.bool vs, .slice va vn vc] 29)) w4.heap.size M ∧ IsGr w (w4.alloc (.cells #[.bool vs, .slice va vn vc] 29)) ∧ w.heap.size ≤ w4.heap.size) := ⟨BgB.new hv, (hg1.trans hg4).trans ((IsGr.refl w4).alloc _), (hg1.trans hg4).size⟩
  clear hv hg1 hg4
  go_wp2_with fail
  refine (C1 _).mono ?_
  clear C1
  rintro e w5 ⟨o, rfl, ho, hg5⟩
  obtain ⟨os, oa, on, oc, rfl⟩ := ho.shape
  have HY5 : Hid (BgB (w5.alloc (.cells #[.bool os, .slice oa on oc] 29)) w4.heap.size M ∧ BgB (w5.alloc (.cells #[.bool os, .slice oa on oc] 29)) w5.heap.size 1 ∧ IsGr w (w5.alloc (.cells #[.bool os, .slice oa on oc] 29)) ∧ w.heap.size ≤ w4.heap.size ∧ w4.heap.size < w5.heap.size) := ⟨(HX4.out.1.gr hg5).gr ((IsGr.refl w5).alloc _), BgB.new ho, (HX4.out.2.1.trans hg5).trans ((IsGr.refl w5).alloc _), HX4.out.2.2, by have := hg5.size; simp at this; omega⟩
  clear ho hg5 HX4
  go_upto_if 71 with fail
  obtain ⟨PX, hPX⟩ : ∃ P, w4.heap.size = P := ⟨_, rfl⟩
  obtain ⟨PY, hPY⟩ : ∃ P, w5.heap.size = P := ⟨_, rfl⟩
  obtain ⟨w6, hw6⟩ : ∃ W, w5.alloc (.cells #[.bool os, .slice oa on oc] 29) = W := ⟨_, rfl⟩
  rw [hPX, hPY, hw6] at HY5
  rw [hPX, hPY, hw6]
  clear hPX hPY hw6
  go_cut [] from 67 to 82 (fun wx => Hid (BgB wx PX X ∧ BgB wx PY Y ∧ IsGr w wx))
  case first =>
    obtain ⟨xs, xa, xn, xc, hxb, hxB⟩ := HY5.out.1
    obtain ⟨ys, ya, yn, yc, hyb, hyB⟩ := HY5.out.2.1
    obtain ⟨c0, c1, f0, f1⟩ := block_two hxb
    obtain ⟨d0, d1, g0, g1⟩ := block_two hyb
    have HB6 : Hid (IsBig w6 (.agg #[.bool xs, .slice xa xn xc]) M ∧ w.heap.size ≤ PX ∧ PX < PY) := ⟨hxB, HY5.out.2.2.2⟩
    clear hxb hxB hyb hyB
    by_cases hq : 0 ≤ E + fine
    · obtain ⟨hX, hY⟩ := HXY.out.1.pos hq
      have CTT := fun w => Ten_any (E + fine) w (by have := HXY.out.2.2.1; omega)
      have s1 := HXY.out.2.2.2
      have s2 := ten_sm (E + fine).toNat (by have := HXY.out.2.2.1; omega)
      have HQ : Hid (X = M * 10 ^ (E + fine).toNat ∧ Y = 1) := ⟨hX, hY⟩
      clear hX hY
      go_upto_region 11 with fail
      obtain ⟨C, hin, hcl, hcells, hgr⟩ : ∃ C : World → Prop, (∀ w', IsGr w6 w' → C w') ∧ (∀ u u', C u → IsGr u u' → C u') ∧ (∀ w', C w' → (w'.cell? ⟨PX, 0, none⟩ = some (.bool xs)) ∧ (w'.cell? ⟨PX, 1, none⟩ = some (.slice xa xn xc)) ∧ (w'.frozen? ⟨PX, 0, none⟩ = false) ∧ (w'.frozen? ⟨PX, 1, none⟩ = false)) ∧ (∀ w', C w' → IsGr w6 w') := ⟨fun w' => IsGr w6 w', fun _ h => h, fun _ _ h k => h.trans k, fun w' hg => ⟨cellk c0 hg, cellk c1 hg, frzk c0 f0 hg, frzk c1 f1 hg⟩, fun _ h => h⟩
      refine wp_region_but (S := C) (k := 6) (n := 6) (by kernel_rfl) (by kernel_rfl) (by (try dsimp only); exact hin _ (by with_reducible repeat (first | exact IsGr.refl _ | refine IsGr.gr ?_ _ _ | refine IsGr.alloc ?_ _ | refine IsGr.drew ?_ | refine IsGr.drewN ?_ _))) (fun hHeld => ?_)
      refine wpAnyH_take (i := 0) (oi := { dst := some 72, op := Op.load 29 (Operand.tmp 7), type := 29, pos := "law.go:53", after := #[], guard := none }) (v := ?_) rfl (by kernel_rfl) (by kernel_rfl) (by kernel_rfl) (fun _ _ _ h => h) (Or.inl ⟨by rfl, ?_⟩) (by assumption) ?_
      rotate_left
      · (intro w hSw; (try dsimp only at hSw); (try have hcs := hcells w hSw); (try go_split_ands); go_simp <;> with_reducible rfl)
      (try simp only [Act.put, List.setIfInBounds_toArray, List.set_cons_zero, List.set_cons_succ])
      refine wpAnyH_take (i := 1) (oi := { dst := some 73, op := Op.move (Operand.tmp 8), type := 3, pos := "law.go:53", after := #[], guard := none }) (v := ?_) rfl (by kernel_rfl) (by kernel_rfl) (by kernel_rfl) (fun _ _ _ h => h) (Or.inl ⟨by rfl, ?_⟩) (by assumption) ?_
      rotate_left
      · (intro w hSw; (try dsimp only at hSw); (try have hcs := hcells w hSw); (try go_split_ands); go_simp <;> with_reducible rfl)
      (try simp only [Act.put, List.setIfInBounds_toArray, List.set_cons_zero, List.set_cons_succ])
      refine wpAnyH_take (i := 2) (oi := { dst := some 74, op := Op.move (Operand.tmp 1), type := 3, pos := "law.go:53", after := #[], guard := none }) (v := ?_) rfl (by kernel_rfl) (by kernel_rfl) (by kernel_rfl) (fun _ _ _ h => h) (Or.inl ⟨by rfl, ?_⟩) (by assumption) ?_
      rotate_left
      · (intro w hSw; (try dsimp only at hSw); (try have hcs := hcells w hSw); (try go_split_ands); go_simp <;> with_reducible rfl)
      (try simp only [Act.put, List.setIfInBounds_toArray, List.set_cons_zero, List.set_cons_succ])
      refine wpAnyH_take (i := 3) (oi := { dst := some 75, op := Op.binOp BinOp.add 3 (Operand.tmp 73) (Operand.tmp 74) 3, type := 3, pos := "law.go:53", after := #[{ on := 1, ground := Ground.data }, { on := 2, ground := Ground.data }], guard := none }) (v := ?_) rfl (by kernel_rfl) (by kernel_rfl) (by kernel_rfl) (fun _ _ _ h => h) (Or.inl ⟨by rfl, ?_⟩) (by assumption) ?_
      rotate_left
      · (intro w hSw; (try dsimp only at hSw); (try have hcs := hcells w hSw); (try go_split_ands); go_simp <;> with_reducible rfl)
      (try simp only [Act.put, List.setIfInBounds_toArray, List.set_cons_zero, List.set_cons_succ])
      refine wpAnyH_ready (rs := [4]) (by kernel_rfl) (by simp) ?_
      refine AllReadyH.cons (o := { dst := some 76, op := Op.call { callee := Callee.value (Operand.func 14), args := #[Operand.tmp 75], argTypes := #[3] }, type := 29, pos := "law.go:53", after := #[{ on := 3, ground := Ground.data }], guard := none }) rfl (fun K hK => ?_) ?_
      · go_simp
        refine (CTT _).mono ?_
        rintro e w7 ⟨T, rfl, hT, hg7⟩
        obtain ⟨Ts, Ta, Tn, Tc, rfl⟩ := hT.shape
        (try go_wp2_with fail)
        refine hK.out _ _ (by (try dsimp only); exact hcl _ _ hHeld (by first | with_reducible assumption | with_reducible exact IsGr.refl _ | with_reducible exact (IsGr.refl _).alloc _ | with_reducible exact ((IsGr.refl _).alloc _).alloc _ | assumption)) (fun hHeld2 => ?_)
        clear hK K hHeld
        have hHeld := hHeld2
        clear hHeld2
        (try simp only [Act.put, List.setIfInBounds_toArray, List.set_cons_zero, List.set_cons_succ])
        refine wpAnyH_ready (rs := [5]) (by kernel_rfl) (by simp) ?_
        refine AllReadyH.cons (o := { dst := some 77, op := Op.call { callee := Callee.value (Operand.func 13), args := #[Operand.tmp 72, Operand.tmp 76], argTypes := #[29, 29] }, type := 29, pos := "law.go:53", after := #[{ on := 0, ground := Ground.data }, { on := 4, ground := Ground.data }, { on := 4, ground := Ground.chain }], guard := none }) rfl (fun K hK => ?_) ?_
        · go_simp
          refine (BigMul_any _ _ M (10 ^ (E + fine).toNat) _ (HB6.out.1.gr (hgr _ hHeld)) (hT.gr (by first | with_reducible assumption | with_reducible exact IsGr.refl _ | with_reducible exact (IsGr.refl _).alloc _ | with_reducible exact ((IsGr.refl _).alloc _).alloc _ | assumption)) s1 s2).mono ?_
          rintro e w8 ⟨R, rfl, hR, hg8⟩
          obtain ⟨Rs, Ra, Rn, Rc, rfl⟩ := hR.shape
          (try go_wp2_with fail)
          refine hK.out _ _ (by (try dsimp only); exact hcl _ _ hHeld (by first | with_reducible assumption | with_reducible exact IsGr.refl _ | with_reducible exact (IsGr.refl _).alloc _ | with_reducible exact ((IsGr.refl _).alloc _).alloc _ | assumption)) (fun hHeld2 => ?_)
          clear hK K hHeld
          have hHeld := hHeld2
          clear hHeld2
          (try simp only [Act.put, List.setIfInBounds_toArray, List.set_cons_zero, List.set_cons_succ])
          refine wpAnyH_done (by kernel_rfl) ?_ _
          obtain ⟨q0, q1, q2, q3⟩ := hcells _ hHeld
          have hg := hgr _ hHeld
          refine butLast_step (o := { dst := none, op := Op.store 29 (Operand.tmp 7) (Operand.tmp 77), type := 0, pos := "law.go:53", after := #[{ on := 5, ground := Ground.data }, { on := 5, ground := Ground.chain }, { on := 0, ground := Ground.phase }, { on := 1, ground := Ground.phase }, { on := 2, ground := Ground.phase }, { on := 3, ground := Ground.phase }, { on := 4, ground := Ground.phase }, { on := 5, ground := Ground.phase }], guard := none }) rfl (fun K hK => ?_)
          go_simp
          refine hK.out _ _ ?_
          clear hK K
          (try simp only [Act.put, List.setIfInBounds_toArray, List.set_cons_zero, List.set_cons_succ])
          have HN : Hid (BgB ((w8.setCell ⟨PX, 0, none⟩ (.bool Rs)).setCell ⟨PX, 1, none⟩ (.slice Ra Rn Rc)) PX X ∧ BgB ((w8.setCell ⟨PX, 0, none⟩ (.bool Rs)).setCell ⟨PX, 1, none⟩ (.slice Ra Rn Rc)) PY Y ∧ IsGr w ((w8.setCell ⟨PX, 0, none⟩ (.bool Rs)).setCell ⟨PX, 1, none⟩ (.slice Ra Rn Rc))) := by
            have h1 := HY5.out.1.gr hg
            have h2 := HY5.out.2.1.gr hg
            rw [HQ.out.1, HQ.out.2]
            exact ⟨h1.put hR, h1.other h2 (by have := HB6.out; omega), IsGr.of_below (below_put (HY5.out.2.2.1.trans hg).below HB6.out.2.1)⟩
          clear hHeld hgr hin hcl hcells q0 q1 q2 q3 c0 c1 f0 f1 d0 d1 g0 g1 hg hR hT
          go_wp2_with fail
          go_meet
          exact HN.out
        exact AllReadyH.nil
      exact AllReadyH.nil
    · obtain ⟨hX, hY⟩ := HXY.out.1.neg (by omega)
      have CTT := fun w => Ten_any (-(E + fine)) w (by have := HXY.out.2.2.1; omega)
      have HQ : Hid (X = M ∧ Y = 10 ^ (-(E + fine)).toNat) := ⟨hX, hY⟩
      clear hX hY
      go_wp2_with fail
      refine (CTT _).mono ?_
      clear CTT
      rintro e w7 ⟨R, rfl, hR, hg7⟩
      obtain ⟨Rs, Ra, Rn, Rc, rfl⟩ := hR.shape
      have q0 := cellk d0 hg7
      have q1 := cellk d1 hg7
      have q2 := frzk d0 g0 hg7
      have q3 := frzk d1 g1 hg7
      have HN : Hid (BgB ((w7.setCell ⟨PY, 0, none⟩ (.bool Rs)).setCell ⟨PY, 1, none⟩ (.slice Ra Rn Rc)) PX X ∧ BgB ((w7.setCell ⟨PY, 0, none⟩ (.bool Rs)).setCell ⟨PY, 1, none⟩ (.slice Ra Rn Rc)) PY Y ∧ IsGr w ((w7.setCell ⟨PY, 0, none⟩ (.bool Rs)).setCell ⟨PY, 1, none⟩ (.slice Ra Rn Rc))) := by
        have h1 := HY5.out.1.gr hg7
        have h2 := HY5.out.2.1.gr hg7
        rw [HQ.out.1, HQ.out.2]
        exact ⟨h2.other h1 (by have := HB6.out; omega), h2.put hR, IsGr.of_below (below_put (HY5.out.2.2.1.trans hg7).below (by have := HB6.out; omega))⟩
      clear c0 c1 f0 f1 d0 d1 g0 g1 hg7 hR
      go_wp2_with fail
      go_meet
      exact HN.out
  case rest =>
    have HR : Hid (BgB wc PX X ∧ BgB wc PY Y ∧ IsGr w wc) := hcut.out
    clear hcut
    obtain ⟨xs, xa, xn, xc, hxb, hxB⟩ := HR.out.1
    obtain ⟨ys, ya, yn, yc, hyb, hyB⟩ := HR.out.2.1
    obtain ⟨c0, c1, f0, f1⟩ := block_two hxb
    obtain ⟨d0, d1, g0, g1⟩ := block_two hyb
    have HBX : Hid (IsBig wc (.agg #[.bool xs, .slice xa xn xc]) X ∧ IsBig wc (.agg #[.bool ys, .slice ya yn yc]) Y) := ⟨hxB, hyB⟩
    have hb175 : (10 : Int) ^ 170 ≤ 2 * 10 ^ 175 := by decide +kernel
    have hb160 : (10 : Int) ^ 160 ≤ 2 * 10 ^ 175 := by decide +kernel
    have sX : Sm X := big_175 (by have := HXY.out.2.1; omega)
    have sY : Sm Y := big_175 (by have := HXY.out.2.1; omega)
    clear hxb hxB hyb hyB hb175 hb160

    have hb5 : (10 : Int) ^ 170 ≤ 10 ^ 175 := by decide +kernel
    have hb6 : (10 : Int) ^ 160 ≤ 10 ^ 175 := by decide +kernel

    have CDV := divides_any _ _ X Y wc HBX.out.1 HBX.out.2 (by have := HXY.out.2.1; have := hb5; omega) (by have := HXY.out.2.1; have := hb5; omega) HXY.out.2.1.1 (by have := HXY.out.2.1; have := hb6; omega)
    rw [decide_eq_true HF.out.1] at CDV
    clear hb5 hb6
    go_wp2_with fail
    refine CDV.mono ?_
    clear CDV
    rintro e w7 ⟨rfl, hg7⟩

    have hm : (1099511627775 * Y : Int) ≤ 2 * 10 ^ 175 ∧ 0 ≤ 1099511627775 * Y := by
      have h9 : 1099511627775 * (10 : Int) ^ 160 ≤ 2 * 10 ^ 175 := by decide +kernel
      have := HXY.out.2.1
      omega
    have sM : Sm (1099511627775 * Y) := big_175 (by omega)
    have sM' : Sm (-(1099511627775 * Y)) := big_175 (by omega)
    have s9 : Sm 1099511627775 := by unfold Sm; omega
    have CT := fun w => BigOf_any 1099511627775 (by omega) (by omega) w
    have CM := fun w1 u (h : IsBig w1 u 1099511627775) (hg : IsGr w7 w1) => BigMul_any u _ 1099511627775 Y w1 h (HBX.out.2.gr (hg7.trans hg)) s9 sY
    have x0 := cellk c0 hg7
    have x1 := cellk c1 hg7
    have SO : ∀ w', IsGr w7 w' → (w'.cell? ⟨PY, 0, none⟩ = some (.bool ys)) ∧ (w'.cell? ⟨PY, 1, none⟩ = some (.slice ya yn yc)) := fun w' hg => ⟨cellk (cellk d0 hg7) hg, cellk (cellk d1 hg7) hg⟩
    have HG7 : Hid (IsGr w w7 ∧ IsGr wc w7) := ⟨HR.out.2.2.trans hg7, hg7⟩
    clear hm hg7 c0 c1 f0 f1 d0 d1 g0 g1
    go_upto_region 20 with fail
    go_cut [11] from 115 to 117 (fun t11 wr => BigAt wr t11 (1099511627775 * Y) ∧ IsGr w7 wr)
    case first => as_aux_lemma =>
      refine wp_region_held_drew (S := (fun w' => (w'.cell? ⟨PY, 0, none⟩ = some (.bool ys)) ∧ (w'.cell? ⟨PY, 1, none⟩ = some (.slice ya yn yc)))) (by kernel_rfl) (by (try dsimp only); exact SO _ (by with_reducible repeat (first | exact IsGr.refl _ | refine IsGr.gr ?_ _ _ | refine IsGr.alloc ?_ _ | refine IsGr.drew ?_ | refine IsGr.drewN ?_ _))) (fun hHeld => ?_)
      refine wpAnyH_take (i := 1) (oi := { dst := some 116, op := Op.load 29 (Operand.tmp 9), type := 29, pos := "law.go:67", after := #[], guard := none }) (v := ?_) rfl (by kernel_rfl) (by kernel_rfl) (by kernel_rfl) (fun _ _ _ h => h) (Or.inl ⟨by rfl, ?_⟩) (by assumption) ?_
      rotate_left
      · (intro w hSw; (try dsimp only at hSw); go_simp <;> with_reducible rfl)
      (try simp only [Act.put, List.setIfInBounds_toArray, List.set_cons_zero, List.set_cons_succ])
      refine wpAnyH_invA [0, 2, 3, 4] (fun A D a w => ∃ t0 t2 t3 : Value, a = (((A.put (some 115) t0).put (some 117) t2).put (some 11) t3) ∧ IsGr w7 w ∧ (D 0 → IsBig w t0 (1099511627775)) ∧ (D 2 → IsBig w t2 (1099511627775 * Y)) ∧ (D 3 → Bx w7 w 29 bigCells t3) ∧ (D 4 → D 3 ∧ D 2 ∧ ∃ c0 c1 : Value, t2 = .agg #[c0, c1] ∧ Hx w 29 t3 c0 c1)) (by kernel_rfl) (by assumption) ?_ ?_ ?_
      · exact ⟨_, _, _, by (simp only [Act.put, List.setIfInBounds_toArray, List.set_cons_zero, List.set_cons_succ]); try rfl, (by with_reducible repeat (first | exact IsGr.refl _ | refine IsGr.gr ?_ _ _ | refine IsGr.alloc ?_ _ | refine IsGr.drew ?_ | refine IsGr.drewN ?_ _)), fun h => h.elim, fun h => h.elim, fun h => h.elim, fun h => h.elim⟩
      · intro D a w hD hF hSw
        obtain ⟨t0, t2, t3, ha, hg, f0, f2, b3, h4⟩ := hF
        subst ha
        (try simp only [Act.put, List.setIfInBounds_toArray, List.set_cons_zero, List.set_cons_succ])
        have A1 := BigAt.of (h4 (hD 4 (by simp))).2.2 (f2 (hD 2 (by simp)))
        clear f0 f2 b3 h4 hD hSw
        go_wp2
        go_meet
        case rel => exact ⟨A1, hg⟩
      refine StepI.cons (i := 0) (o := { dst := some 115, op := Op.call { callee := Callee.value (Operand.func 12), args := #[Operand.const (Value.int IntKind.i64 1099511627775)], argTypes := #[3] }, type := 29, pos := "law.go:67", after := #[], guard := none }) (ns := []) rfl (by kernel_rfl) (fun D a w nD hn hF hSw K hK => ?_) ?_
      · obtain ⟨t0, t2, t3, ha, hg, f0, f2, b3, h4⟩ := hF
        subst ha
        (try simp only [Act.put, List.setIfInBounds_toArray, List.set_cons_zero, List.set_cons_succ])
        go_simp
        refine (CT _).mono ?_
        rintro e w1 ⟨q, rfl, hq, hg1⟩
        (try go_wp2_with fail)
        refine hK.out _ _ (SO _ (hg.trans hg1)) (fun _ => ?_)
        refine ⟨q, t2, t3, by (simp only [Act.put, List.setIfInBounds_toArray, List.set_cons_zero, List.set_cons_succ]); try rfl, (hg.trans hg1), ?_, ?_, ?_, ?_⟩
        · exact fun _ => hq
        · exact fun h => (f2 (Or.resolve_left h (by decide))).gr hg1
        · exact fun h => (b3 (Or.resolve_left h (by decide))).gr hg1
        · exact fun h => (h4 (Or.resolve_left h (by decide))).imp Or.inr (fun ⟨x1, c0, c1, x2, x3⟩ => ⟨Or.inr x1, c0, c1, x2, x3.gr hg1⟩)
      refine StepI.cons (i := 2) (o := { dst := some 117, op := Op.call { callee := Callee.value (Operand.func 13), args := #[Operand.tmp 115, Operand.tmp 116], argTypes := #[29, 29] }, type := 29, pos := "law.go:67", after := #[{ on := 0, ground := Ground.data }, { on := 1, ground := Ground.data }, { on := 0, ground := Ground.chain }], guard := none }) (ns := [0, 0]) rfl (by kernel_rfl) (fun D a w nD hn hF hSw K hK => ?_) ?_
      · obtain ⟨t0, t2, t3, ha, hg, f0, f2, b3, h4⟩ := hF
        have d0 : D 0 := hn 0 (by simp)
        have d0 : D 0 := hn 0 (by simp)
        subst ha
        (try simp only [Act.put, List.setIfInBounds_toArray, List.set_cons_zero, List.set_cons_succ])
        go_simp
        refine (CM _ _ (f0 d0) hg).mono ?_
        rintro e w1 ⟨q, rfl, hq, hg1⟩
        (try go_wp2_with fail)
        refine hK.out _ _ (SO _ (hg.trans hg1)) (fun _ => ?_)
        refine ⟨t0, q, t3, by (simp only [Act.put, List.setIfInBounds_toArray, List.set_cons_zero, List.set_cons_succ]); try rfl, (hg.trans hg1), ?_, ?_, ?_, ?_⟩
        · exact fun h => (f0 (Or.resolve_left h (by decide))).gr hg1
        · exact fun _ => hq
        · exact fun h => (b3 (Or.resolve_left h (by decide))).gr hg1
        · exact fun h => absurd (h4 (Or.resolve_left h (by decide))).2.1 nD
      refine StepI.cons (i := 3) (o := { dst := some 11, op := Op.alloc 29, type := 0, pos := "law.go:67", after := #[], guard := none }) (ns := []) rfl (by kernel_rfl) (fun D a w nD hn hF hSw K hK => ?_) ?_
      · obtain ⟨t0, t2, t3, ha, hg, f0, f2, b3, h4⟩ := hF
        subst ha
        (try simp only [Act.put, List.setIfInBounds_toArray, List.set_cons_zero, List.set_cons_succ])
        go_simp
        refine hK.out _ _ (SO _ (hg.alloc _)) (fun _ => ?_)
        refine ⟨t0, t2, _, by (simp only [Act.put, List.setIfInBounds_toArray, List.set_cons_zero, List.set_cons_succ]); try rfl, (hg.alloc _), ?_, ?_, ?_, ?_⟩
        · exact fun h => (f0 (Or.resolve_left h (by decide))).gr ((IsGr.refl _).alloc _)
        · exact fun h => (f2 (Or.resolve_left h (by decide))).gr ((IsGr.refl _).alloc _)
        · exact fun _ => Bx.lay hg (by simp [bigCells])
        · exact fun h => absurd (h4 (Or.resolve_left h (by decide))).1 nD
      refine StepI.cons (i := 4) (o := { dst := none, op := Op.store 29 (Operand.tmp 11) (Operand.tmp 117), type := 0, pos := "law.go:67", after := #[{ on := 3, ground := Ground.data }, { on := 2, ground := Ground.data }, { on := 2, ground := Ground.chain }, { on := 0, ground := Ground.phase }, { on := 1, ground := Ground.phase }, { on := 2, ground := Ground.phase }, { on := 3, ground := Ground.phase }], guard := none }) (ns := [3, 2, 2, 0, 2, 3]) rfl (by kernel_rfl) (fun D a w nD hn hF hSw K hK => ?_) ?_
      · obtain ⟨t0, t2, t3, ha, hg, f0, f2, b3, h4⟩ := hF
        have d3 : D 3 := hn 3 (by simp)
        have d2 : D 2 := hn 2 (by simp)
        have d2 : D 2 := hn 2 (by simp)
        have d0 : D 0 := hn 0 (by simp)
        have d2 : D 2 := hn 2 (by simp)
        have d3 : D 3 := hn 3 (by simp)
        obtain ⟨z0, z1, hz0⟩ : ∃ z0 z1 : Value, t2 = .agg #[z0, z1] ∧ bigCells z0 z1 := big_cells (f2 d2)
        obtain ⟨hz0, hz1⟩ := hz0
        obtain ⟨bb, y0, y1, hb0, hb1, hb2, hb3⟩ := b3 d3
        obtain ⟨k1, k2, k3, k4, k5⟩ := block_cells hb2
        have hz2 := hz1
        obtain ⟨zs, za, zn, zc, rfl, rfl⟩ := hz1
        subst hz0
        subst hb0
        subst ha
        (try simp only [Act.put, List.setIfInBounds_toArray, List.set_cons_zero, List.set_cons_succ])
        go_simp
        refine hK.out _ _ (SO _ (put2_gr hg hb1)) (fun _ => ?_)
        refine ⟨t0, (.agg #[.bool zs, .slice za zn zc]), (.pointer (some ⟨bb, 0, none⟩)), by (simp only [Act.put, List.setIfInBounds_toArray, List.set_cons_zero, List.set_cons_succ]); try rfl, (put2_gr hg hb1), ?_, ?_, ?_, ?_⟩
        · exact fun h => (f0 (Or.resolve_left h (by decide))).kb (put2_kb hb2 hb3)
        · exact fun h => (f2 (Or.resolve_left h (by decide))).kb (put2_kb hb2 hb3)
        · exact fun h => put2_bx hb2 hz2 (b3 (Or.resolve_left h (by decide)))
        · exact fun _ => ⟨Or.inr d3, Or.inr d2, _, _, rfl, put2_new hb2⟩
      exact StepI.nil
    case rest =>
      obtain ⟨A3, hgr9⟩ := hcut
      obtain ⟨W2, hW9⟩ : ∃ W2, W2 = wc := ⟨_, rfl⟩
      subst hW9
      obtain ⟨g3, s3, a3, n3, c3, rfl, k3, u3, u3', B3⟩ := A3
      replace x0 := cellk x0 hgr9
      replace x1 := cellk x1 hgr9
      have HB2 : Hid (IsBig W2 (.agg #[.bool xs, .slice xa xn xc]) X ∧ IsBig W2 (.agg #[.bool s3, .slice a3 n3 c3]) (1099511627775 * Y) ∧ IsGr w W2) := ⟨HBX.out.1.gr (HG7.out.2.trans hgr9), B3, HG7.out.1.trans hgr9⟩
      have hYp := HXY.out.2.1.1
      have hlt : X < -1099511627775 * Y := by rw [← HF.out.2.1]; exact Int.mul_lt_mul_of_pos_right HF.out.2.2 hYp
      rw [Int.neg_mul] at hlt
      have hm0 : 0 ≤ 1099511627775 * Y := by omega
      have hc1 : decide (0 < cmpI X (1099511627775 * Y)) = false := decide_eq_false (by unfold cmpI; repeat' split <;> omega)
      have hc2 : decide (cmpI X (-(1099511627775 * Y)) < 0) = true := decide_eq_true (by unfold cmpI; repeat' split <;> omega)
      clear hm0
      clear hlt hYp hgr9 B3 SO CT CM k3
      go_upto_region 21 with fail
      obtain ⟨C, hin, hcl, hcells, hgr⟩ : ∃ C : World → Prop, (∀ w', IsGr W2 w' → C w') ∧ (∀ u u', C u → IsGr u u' → C u') ∧ (∀ w', C w' → (w'.cell? ⟨PX, 0, none⟩ = some (.bool xs)) ∧ (w'.cell? ⟨PX, 1, none⟩ = some (.slice xa xn xc)) ∧ (w'.cell? ⟨g3, 0, none⟩ = some (.bool s3)) ∧ (w'.cell? ⟨g3, 1, none⟩ = some (.slice a3 n3 c3))) ∧ (∀ w', C w' → IsGr W2 w') := ⟨fun w' => IsGr W2 w', fun _ h => h, fun _ _ h k => h.trans k, fun w' hg => ⟨cellk x0 hg, cellk x1 hg, cellk u3 hg, cellk u3' hg⟩, fun _ h => h⟩
      refine wp_region_held_drew (S := C) (by kernel_rfl) (by (try dsimp only); exact hin _ (by with_reducible repeat (first | exact IsGr.refl _ | refine IsGr.gr ?_ _ _ | refine IsGr.alloc ?_ _ | refine IsGr.drew ?_ | refine IsGr.drewN ?_ _))) (fun hHeld => ?_)
      refine wpAnyH_take (i := 0) (oi := { dst := some 118, op := Op.move (Operand.tmp 6), type := 23, pos := "law.go:68", after := #[], guard := none }) (v := ?_) rfl (by kernel_rfl) (by kernel_rfl) (by kernel_rfl) (fun _ _ _ h => h) (Or.inl ⟨by rfl, ?_⟩) (by assumption) ?_
      rotate_left
      · (intro w hSw; (try dsimp only at hSw); (try have hcs := hcells w hSw); (try go_split_ands); go_simp <;> with_reducible rfl)
      (try simp only [Act.put, List.setIfInBounds_toArray, List.set_cons_zero, List.set_cons_succ])
      refine wpAnyH_take (i := 1) (oi := { dst := some 119, op := Op.binOp BinOp.eql 23 (Operand.tmp 118) (Operand.const (Value.int IntKind.i64 23)) 23, type := 4, pos := "law.go:68", after := #[{ on := 0, ground := Ground.data }], guard := none }) (v := ?_) rfl (by kernel_rfl) (by kernel_rfl) (by kernel_rfl) (fun _ _ _ h => h) (Or.inl ⟨by rfl, ?_⟩) (by assumption) ?_
      rotate_left
      · (intro w hSw; (try dsimp only at hSw); (try have hcs := hcells w hSw); (try go_split_ands); go_simp <;> with_reducible rfl)
      (try simp only [Act.put, List.setIfInBounds_toArray, List.set_cons_zero, List.set_cons_succ])
      refine wpAnyH_take (i := 2) (oi := { dst := some 120, op := Op.move (Operand.tmp 119), type := 4, pos := "law.go:68", after := #[{ on := 1, ground := Ground.data }], guard := none }) (v := ?_) rfl (by kernel_rfl) (by kernel_rfl) (by kernel_rfl) (fun _ _ _ h => h) (Or.inl ⟨by rfl, ?_⟩) (by assumption) ?_
      rotate_left
      · (intro w hSw; (try dsimp only at hSw); (try have hcs := hcells w hSw); (try go_split_ands); go_simp <;> with_reducible rfl)
      (try simp only [Act.put, List.setIfInBounds_toArray, List.set_cons_zero, List.set_cons_succ])
      refine wpAnyH_take (i := 3) (oi := { dst := some 121, op := Op.move (Operand.tmp 10), type := 4, pos := "law.go:68", after := #[{ on := 2, ground := Ground.guard }], guard := some (2, true) }) (v := ?_) rfl (by kernel_rfl) (by kernel_rfl) (by kernel_rfl) (fun _ _ _ h => h) (Or.inl ⟨by rfl, ?_⟩) (by assumption) ?_
      rotate_left
      · (intro w hSw; (try dsimp only at hSw); (try have hcs := hcells w hSw); (try go_split_ands); go_simp <;> with_reducible rfl)
      (try simp only [Act.put, List.setIfInBounds_toArray, List.set_cons_zero, List.set_cons_succ])
      refine wpAnyH_take (i := 4) (oi := { dst := some 122, op := Op.pick (Operand.tmp 120) (Operand.tmp 121) (Operand.const (Value.bool false)), type := 4, pos := "law.go:68", after := #[{ on := 2, ground := Ground.data }, { on := 3, ground := Ground.data }], guard := none }) (v := ?_) rfl (by kernel_rfl) (by kernel_rfl) (by kernel_rfl) (fun _ _ _ h => h) (Or.inl ⟨by rfl, ?_⟩) (by assumption) ?_
      rotate_left
      · (intro w hSw; (try dsimp only at hSw); (try have hcs := hcells w hSw); (try go_split_ands); go_simp <;> with_reducible rfl)
      (try simp only [Act.put, List.setIfInBounds_toArray, List.set_cons_zero, List.set_cons_succ])
      refine wpAnyH_take (i := 5) (oi := { dst := some 123, op := Op.move (Operand.tmp 122), type := 4, pos := "law.go:68", after := #[{ on := 4, ground := Ground.data }, { on := 2, ground := Ground.chain }], guard := none }) (v := ?_) rfl (by kernel_rfl) (by kernel_rfl) (by kernel_rfl) (fun _ _ _ h => h) (Or.inl ⟨by rfl, ?_⟩) (by assumption) ?_
      rotate_left
      · (intro w hSw; (try dsimp only at hSw); (try have hcs := hcells w hSw); (try go_split_ands); go_simp <;> with_reducible rfl)
      (try simp only [Act.put, List.setIfInBounds_toArray, List.set_cons_zero, List.set_cons_succ])
      refine wpAnyH_take (i := 6) (oi := { dst := some 124, op := Op.load 29 (Operand.tmp 7), type := 29, pos := "law.go:68", after := #[{ on := 5, ground := Ground.guard }], guard := some (5, true) }) (v := ?_) rfl (by kernel_rfl) (by kernel_rfl) (by kernel_rfl) (fun _ _ _ h => h) (Or.inl ⟨by rfl, ?_⟩) (by assumption) ?_
      rotate_left
      · (intro w hSw; (try dsimp only at hSw); (try have hcs := hcells w hSw); (try go_split_ands); go_simp <;> with_reducible rfl)
      (try simp only [Act.put, List.setIfInBounds_toArray, List.set_cons_zero, List.set_cons_succ])
      refine wpAnyH_take (i := 7) (oi := { dst := some 125, op := Op.load 29 (Operand.tmp 11), type := 29, pos := "law.go:68", after := #[{ on := 5, ground := Ground.guard }], guard := some (5, true) }) (v := ?_) rfl (by kernel_rfl) (by kernel_rfl) (by kernel_rfl) (fun _ _ _ h => h) (Or.inl ⟨by rfl, ?_⟩) (by assumption) ?_
      rotate_left
      · (intro w hSw; (try dsimp only at hSw); (try have hcs := hcells w hSw); (try go_split_ands); go_simp <;> with_reducible rfl)
      (try simp only [Act.put, List.setIfInBounds_toArray, List.set_cons_zero, List.set_cons_succ])
      refine wpAnyH_ready (rs := [8]) (by kernel_rfl) (by simp) ?_
      refine AllReadyH.cons (o := { dst := some 126, op := Op.call { callee := Callee.value (Operand.func 15), args := #[Operand.tmp 124, Operand.tmp 125], argTypes := #[29, 29] }, type := 3, pos := "law.go:68", after := #[{ on := 6, ground := Ground.data }, { on := 7, ground := Ground.data }, { on := 5, ground := Ground.chain }, { on := 5, ground := Ground.guard }], guard := some (5, true) }) rfl (fun K hK => ?_) ?_
      · go_simp
        refine (BigCmp_any _ _ X (1099511627775 * Y) _ (HB2.out.1.gr (hgr _ hHeld)) (HB2.out.2.1.gr (hgr _ hHeld)) sX sM).mono ?_
        rintro e w10 ⟨rfl, hg10⟩
        (try go_wp2_with fail)
        refine hK.out _ _ (by (try dsimp only); exact hcl _ _ hHeld (by first | with_reducible assumption | with_reducible exact IsGr.refl _ | with_reducible exact (IsGr.refl _).alloc _ | with_reducible exact ((IsGr.refl _).alloc _).alloc _ | assumption)) (fun hHeld2 => ?_)
        clear hK K hHeld
        have hHeld := hHeld2
        clear hHeld2
        (try simp only [Act.put, List.setIfInBounds_toArray, List.set_cons_zero, List.set_cons_succ])
        refine wpAnyH_take (i := 9) (oi := { dst := some 127, op := Op.binOp BinOp.gtr 3 (Operand.tmp 126) (Operand.const (Value.int IntKind.i64 0)) 3, type := 4, pos := "law.go:68", after := #[{ on := 8, ground := Ground.data }, { on := 5, ground := Ground.guard }], guard := some (5, true) }) (v := ?_) rfl (by kernel_rfl) (by kernel_rfl) (by kernel_rfl) (fun _ _ _ h => h) (Or.inl ⟨by rfl, ?_⟩) (by assumption) ?_
        rotate_left
        · (intro w hSw; (try dsimp only at hSw); (try have hcs := hcells w hSw); (try go_split_ands); go_simp <;> with_reducible rfl)
        (try simp only [Act.put, List.setIfInBounds_toArray, List.set_cons_zero, List.set_cons_succ])
        refine wpAnyH_take (i := 10) (oi := { dst := some 128, op := Op.move (Operand.tmp 127), type := 4, pos := "law.go:68", after := #[{ on := 9, ground := Ground.data }, { on := 8, ground := Ground.chain }, { on := 5, ground := Ground.guard }], guard := some (5, true) }) (v := ?_) rfl (by kernel_rfl) (by kernel_rfl) (by kernel_rfl) (fun _ _ _ h => h) (Or.inl ⟨by rfl, ?_⟩) (by assumption) ?_
        rotate_left
        · (intro w hSw; (try dsimp only at hSw); (try have hcs := hcells w hSw); (try go_split_ands); go_simp <;> with_reducible rfl)
        (try simp only [Act.put, List.setIfInBounds_toArray, List.set_cons_zero, List.set_cons_succ])
        refine wpAnyH_take (i := 11) (oi := { dst := some 129, op := Op.load 29 (Operand.tmp 7), type := 29, pos := "law.go:68", after := #[{ on := 10, ground := Ground.guard }], guard := some (10, false) }) (v := ?_) rfl (by kernel_rfl) (by kernel_rfl) (by kernel_rfl) (fun _ _ _ h => h) (Or.inl ⟨by rfl, ?_⟩) (by assumption) ?_
        rotate_left
        · (intro w hSw; (try dsimp only at hSw); (try have hcs := hcells w hSw); (try go_split_ands); go_simp <;> with_reducible rfl)
        (try simp only [Act.put, List.setIfInBounds_toArray, List.set_cons_zero, List.set_cons_succ])
        refine wpAnyH_take (i := 12) (oi := { dst := some 130, op := Op.load 29 (Operand.tmp 11), type := 29, pos := "law.go:68", after := #[{ on := 10, ground := Ground.guard }], guard := some (10, false) }) (v := ?_) rfl (by kernel_rfl) (by kernel_rfl) (by kernel_rfl) (fun _ _ _ h => h) (Or.inl ⟨by rfl, ?_⟩) (by assumption) ?_
        rotate_left
        · (intro w hSw; (try dsimp only at hSw); (try have hcs := hcells w hSw); (try go_split_ands); go_simp <;> with_reducible rfl)
        (try simp only [Act.put, List.setIfInBounds_toArray, List.set_cons_zero, List.set_cons_succ])
        refine wpAnyH_ready (rs := [13]) (by kernel_rfl) (by simp) ?_
        refine AllReadyH.cons (o := { dst := some 131, op := Op.call { callee := Callee.value (Operand.func 17), args := #[Operand.tmp 130], argTypes := #[29] }, type := 29, pos := "law.go:68", after := #[{ on := 12, ground := Ground.data }, { on := 10, ground := Ground.chain }, { on := 10, ground := Ground.guard }], guard := some (10, false) }) rfl (fun K hK => ?_) ?_
        · go_simp
          refine (Minus_any _ _ _ (HB2.out.2.1.gr (hgr _ hHeld)) sM).mono ?_
          rintro e w11 ⟨N, rfl, hN, hg11⟩
          rw [Int.zero_sub] at hN
          obtain ⟨Ns, Na, Nn, Nc, rfl⟩ := hN.shape
          (try go_wp2_with fail)
          refine hK.out _ _ (by (try dsimp only); exact hcl _ _ hHeld (by first | with_reducible assumption | with_reducible exact IsGr.refl _ | with_reducible exact (IsGr.refl _).alloc _ | with_reducible exact ((IsGr.refl _).alloc _).alloc _ | assumption)) (fun hHeld2 => ?_)
          clear hK K hHeld
          have hHeld := hHeld2
          clear hHeld2
          (try simp only [Act.put, List.setIfInBounds_toArray, List.set_cons_zero, List.set_cons_succ])
          refine wpAnyH_ready (rs := [14]) (by kernel_rfl) (by simp) ?_
          refine AllReadyH.cons (o := { dst := some 132, op := Op.call { callee := Callee.value (Operand.func 15), args := #[Operand.tmp 129, Operand.tmp 131], argTypes := #[29, 29] }, type := 3, pos := "law.go:68", after := #[{ on := 11, ground := Ground.data }, { on := 13, ground := Ground.data }, { on := 13, ground := Ground.chain }, { on := 10, ground := Ground.guard }], guard := some (10, false) }) rfl (fun K hK => ?_) ?_
          · go_simp
            refine (BigCmp_any _ _ X (-(1099511627775 * Y)) _ (HB2.out.1.gr (hgr _ hHeld)) hN sX sM').mono ?_
            rintro e w13 ⟨rfl, hg13⟩
            (try go_wp2_with fail)
            refine hK.out _ _ (by (try dsimp only); exact hcl _ _ hHeld (by first | with_reducible assumption | with_reducible exact IsGr.refl _ | with_reducible exact (IsGr.refl _).alloc _ | with_reducible exact ((IsGr.refl _).alloc _).alloc _ | assumption)) (fun hHeld2 => ?_)
            clear hK K hHeld
            have hHeld := hHeld2
            clear hHeld2
            (try simp only [Act.put, List.setIfInBounds_toArray, List.set_cons_zero, List.set_cons_succ])
            refine wpAnyH_take (i := 15) (oi := { dst := some 133, op := Op.binOp BinOp.lss 3 (Operand.tmp 132) (Operand.const (Value.int IntKind.i64 0)) 3, type := 4, pos := "law.go:68", after := #[{ on := 14, ground := Ground.data }, { on := 10, ground := Ground.guard }], guard := some (10, false) }) (v := ?_) rfl (by kernel_rfl) (by kernel_rfl) (by kernel_rfl) (fun _ _ _ h => h) (Or.inl ⟨by rfl, ?_⟩) (by assumption) ?_
            rotate_left
            · (intro w hSw; (try dsimp only at hSw); (try have hcs := hcells w hSw); (try go_split_ands); go_simp <;> with_reducible rfl)
            (try simp only [Act.put, List.setIfInBounds_toArray, List.set_cons_zero, List.set_cons_succ])
            refine wpAnyH_take (i := 16) (oi := { dst := some 134, op := Op.pick (Operand.tmp 128) (Operand.const (Value.bool true)) (Operand.tmp 133), type := 4, pos := "law.go:68", after := #[{ on := 10, ground := Ground.data }, { on := 15, ground := Ground.data }, { on := 5, ground := Ground.guard }], guard := some (5, true) }) (v := ?_) rfl (by kernel_rfl) (by kernel_rfl) (by kernel_rfl) (fun _ _ _ h => h) (Or.inl ⟨by rfl, ?_⟩) (by assumption) ?_
            rotate_left
            · (intro w hSw; (try dsimp only at hSw); (try have hcs := hcells w hSw); (try go_split_ands); go_simp <;> with_reducible rfl)
            (try simp only [Act.put, List.setIfInBounds_toArray, List.set_cons_zero, List.set_cons_succ])
            refine wpAnyH_take (i := 17) (oi := { dst := some 135, op := Op.pick (Operand.tmp 123) (Operand.tmp 134) (Operand.const (Value.bool false)), type := 4, pos := "law.go:68", after := #[{ on := 5, ground := Ground.data }, { on := 16, ground := Ground.data }], guard := none }) (v := ?_) rfl (by kernel_rfl) (by kernel_rfl) (by kernel_rfl) (fun _ _ _ h => h) (Or.inl ⟨by rfl, ?_⟩) (by assumption) ?_
            rotate_left
            · (intro w hSw; (try dsimp only at hSw); (try have hcs := hcells w hSw); (try go_split_ands); go_simp <;> with_reducible rfl)
            (try simp only [Act.put, List.setIfInBounds_toArray, List.set_cons_zero, List.set_cons_succ])
            refine wpAnyH_take (i := 18) (oi := { dst := some 136, op := Op.move (Operand.tmp 135), type := 4, pos := "law.go:68", after := #[{ on := 17, ground := Ground.data }, { on := 14, ground := Ground.chain }], guard := none }) (v := ?_) rfl (by kernel_rfl) (by kernel_rfl) (by kernel_rfl) (fun _ _ _ h => h) (Or.inl ⟨by rfl, ?_⟩) (by assumption) ?_
            rotate_left
            · (intro w hSw; (try dsimp only at hSw); (try have hcs := hcells w hSw); (try go_split_ands); go_simp <;> with_reducible rfl)
            (try simp only [Act.put, List.setIfInBounds_toArray, List.set_cons_zero, List.set_cons_succ])
            refine wpAnyH_ready (rs := [19]) (by kernel_rfl) (by simp) ?_
            refine AllReadyH.cons (o := { dst := some 137, op := Op.call { callee := Callee.value (Operand.func 7), args := #[], argTypes := #[] }, type := 4, pos := "law.go:68", after := #[{ on := 18, ground := Ground.chain }, { on := 18, ground := Ground.guard }], guard := some (18, true) }) rfl (fun K hK => ?_) ?_
            · go_simp
              refine (CA _ (HB2.out.2.2.trans (hgr _ hHeld))).mono ?_
              rintro e w12 ⟨rfl, hg12⟩
              (try go_wp2_with fail)
              refine hK.out _ _ (by (try dsimp only); exact hcl _ _ hHeld (by first | with_reducible assumption | with_reducible exact IsGr.refl _ | with_reducible exact (IsGr.refl _).alloc _ | with_reducible exact ((IsGr.refl _).alloc _).alloc _ | assumption)) (fun hHeld2 => ?_)
              clear hK K hHeld
              have hHeld := hHeld2
              clear hHeld2
              (try simp only [Act.put, List.setIfInBounds_toArray, List.set_cons_zero, List.set_cons_succ])
              refine wpAnyH_take (i := 20) (oi := { dst := some 138, op := Op.pick (Operand.tmp 136) (Operand.tmp 137) (Operand.const (Value.bool false)), type := 4, pos := "law.go:68", after := #[{ on := 18, ground := Ground.data }, { on := 19, ground := Ground.data }], guard := none }) (v := ?_) rfl (by kernel_rfl) (by kernel_rfl) (by kernel_rfl) (fun _ _ _ h => h) (Or.inl ⟨by rfl, ?_⟩) (by assumption) ?_
              rotate_left
              · (intro w hSw; (try dsimp only at hSw); (try have hcs := hcells w hSw); (try go_split_ands); go_simp <;> with_reducible rfl)
              (try simp only [Act.put, List.setIfInBounds_toArray, List.set_cons_zero, List.set_cons_succ])
              refine wpAnyH_take (i := 21) (oi := { dst := some 4, op := Op.assign (Operand.tmp 138), type := 4, pos := "law.go:68", after := #[{ on := 20, ground := Ground.data }, { on := 19, ground := Ground.chain }, { on := 0, ground := Ground.phase }, { on := 1, ground := Ground.phase }, { on := 2, ground := Ground.phase }, { on := 3, ground := Ground.phase }, { on := 4, ground := Ground.phase }, { on := 5, ground := Ground.phase }, { on := 6, ground := Ground.phase }, { on := 7, ground := Ground.phase }, { on := 8, ground := Ground.phase }, { on := 9, ground := Ground.phase }, { on := 10, ground := Ground.phase }, { on := 11, ground := Ground.phase }, { on := 12, ground := Ground.phase }, { on := 13, ground := Ground.phase }, { on := 14, ground := Ground.phase }, { on := 15, ground := Ground.phase }, { on := 16, ground := Ground.phase }, { on := 17, ground := Ground.phase }, { on := 18, ground := Ground.phase }, { on := 19, ground := Ground.phase }, { on := 20, ground := Ground.phase }], guard := none }) (v := ?_) rfl (by kernel_rfl) (by kernel_rfl) (by kernel_rfl) (fun _ _ _ h => h) (Or.inl ⟨by rfl, ?_⟩) (by assumption) ?_
              rotate_left
              · (intro w hSw; (try dsimp only at hSw); (try have hcs := hcells w hSw); (try go_split_ands); go_simp <;> with_reducible rfl)
              (try simp only [Act.put, List.setIfInBounds_toArray, List.set_cons_zero, List.set_cons_succ])
              refine wpAnyH_done (by kernel_rfl) ?_ _
              have hgF := hgr _ hHeld
              have HFG : Hid (IsGr w w12) := HB2.out.2.2.trans hgF
              clear hHeld hgr hin hcl hcells hgF
              go_wp2_with fail
              go_ret
              exact ⟨rfl, HFG.out⟩
            exact AllReadyH.nil
          exact AllReadyH.nil
        exact AllReadyH.nil
      exact AllReadyH.nil
end Go.Proofs.YtfpifbfnebfdaaaDoor
