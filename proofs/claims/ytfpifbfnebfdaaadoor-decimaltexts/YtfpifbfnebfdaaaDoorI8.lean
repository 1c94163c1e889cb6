/- gromaref10.Number. -/
import Derived.Test.YtfpifbfnebfdaaaDoorI7
import Derived.Deep.CutRange
import Derived.Deep.LoopGhost
namespace Go.Proofs.YtfpifbfnebfdaaaDoor
open Go.RowKit Go.Shelf
attribute [local go_sem] Gr.size Gr.cell? Gr.frozen? Gr.setCell Gr.drew Gr.drewN Gr.of_drew Gr.of_drewN Gr.gr Gr.lt_of1 Gr.le_of1 Gr.lt_of2 Gr.le_of2 Gr.lt_of3 Gr.le_of3 Gr.lt_of4 Gr.le_of4 Gr.lt_of5 Gr.le_of5 Gr.lt_of6 Gr.le_of6 Gr.lt_of7 Gr.le_of7 Gr.lt_of8 Gr.le_of8 Gr.lt_of9 Gr.le_of9 Gr.lt_of10 Gr.le_of10 Gr.lt_of11 Gr.le_of11 Gr.lt_of12 Gr.le_of12 Gr.lt_of13 Gr.le_of13 Gr.lt_of14 Gr.le_of14 Gr.lt_of15 Gr.le_of15 Gr.lt_of16 Gr.le_of16 Gr.lt_of17 Gr.le_of17 Gr.lt_of18 Gr.le_of18 Gr.lt_of19 Gr.le_of19 Gr.lt_of20 Gr.le_of20 Gr.lt_of21 Gr.le_of21 Gr.lt_of22 Gr.le_of22 Gr.lt_of23 Gr.le_of23 Gr.lt_of24 Gr.le_of24
theorem bts_pos {s : ByteArray} {a m r : List Int} (h : bts s = a ++ (m ++ r)) : s.size = a.length + m.length + r.length := by
  rw [← bts_len, h, List.length_append, List.length_append]; omega
theorem ten_60 {z : Int} {k : Nat} (h0 : 0 ≤ z) (h : z < 10 ^ k) (hk : k ≤ 60) : Sm z ∧ Sm (z * 10) := by
  have h1 := pow_le_pow' (by decide : (1 : Int) ≤ 10) hk
  have h3 : (10 : Int) ^ 60 * 10 ≤ 4149515568880992958512407863691161151012446232242436899995657329690652811412908146399707048947103794288197886611300789182395151075411775307886874834113963687061181803401509523685376 := by decide +kernel
  unfold Sm; omega

set_option maxRecDepth 20000 in set_option maxHeartbeats 2000000 in
theorem Number_0 (s : ByteArray) (w : World) (neg : Bool) (sg l1 dt l2 ep : List Int) (p : Int) (h : Spl (bts s) neg sg l1 dt l2 ep p) (hs : s.size ≤ 60) (hep : ep.length ≤ 17) (hq : sg = [] ∧ neg = false) :
    Calls Tryd.prog 11 #[.string s] w fun e w' => ∃ v, e = .returned (.tuple #[v, .int .i64 (p - (l2.length : Nat))]) ∧ IsBig w' v (sgI neg (dvl (l1 ++ l2))) ∧ IsGr w w' := by
  obtain ⟨hb, hsg, hd1, hdt, hd2, hsome, hpow⟩ := h
  obtain ⟨dd0, hfin⟩ := mst_all hd1 hd2 hdt
  have hdps := dps_of hd1 hd2 hdt
  obtain ⟨mt, hmt⟩ : ∃ m, l1 ++ (dt ++ l2) = m := ⟨_, rfl⟩
  have hb2 : bts s = sg ++ (mt ++ ep) := by rw [hb, ← hmt, List.append_assoc, List.append_assoc]
  rw [hmt] at hfin hdps
  have hsz := bts_pos hb2
  obtain ⟨n0, hn0⟩ : ∃ n, sg.length = n := ⟨_, rfl⟩
  obtain ⟨N, hN⟩ : ∃ n, mt.length = n := ⟨_, rfl⟩
  obtain ⟨D, hD⟩ : ∃ d, dvl (l1 ++ l2) = d := ⟨_, rfl⟩
  obtain ⟨L2, hL2⟩ : ∃ d, l2.length = d := ⟨_, rfl⟩
  have hN0 : 0 < N := by
    rw [← hN, ← hmt]
    rcases Nat.eq_zero_or_pos (l1 ++ (dt ++ l2)).length with h | h
    · exfalso
      have := List.length_eq_zero_iff.1 h
      simp at this
      exact hsome (by rw [this.1, this.2.2]; rfl)
    · exact h
  rw [hD, hL2] at hfin
  rw [hD, hL2]
  have HS : Hid (bts s = sg ++ (mt ++ ep) ∧ s.size = n0 + N + ep.length ∧ s.size ≤ 60 ∧ sg.length = n0 ∧ mt.length = N ∧ 0 < N) := ⟨hb2, by rw [← hn0, ← hN]; exact hsz, hs, hn0, hN, hN0⟩
  have HM : Hid (mstF mt = (D, dd0, -((L2 : Nat) : Int)) ∧ Dps mt) := ⟨hfin, hdps⟩
  have HP : Hid (((ep = [] ∧ p = 0) ∨ ∃ e es l3, (e = 101 ∨ e = 69) ∧ ep = e :: (es ++ l3) ∧ l3 ≠ [] ∧ Dgs l3 ∧ (((es = [] ∨ es = [43]) ∧ p = dvl l3) ∨ (es = [45] ∧ p = - dvl l3))) ∧ ep.length ≤ 17) := ⟨hpow, hep⟩
  have CT := fun w => BigOf_any 10 (by omega) (by omega) w
  clear hb hd1 hd2 hdt hsome hpow hfin hdps hb2 hsz hs hep hn0 hN hD hL2 hN0 hmt hsg
  have hR0 := BgB.new (IsBig.zero w)
  have hX0 := BgB.new (IsBig.zero (w.alloc (.cells #[.bool false, .slice none 0 0] 29)))
  simp only [World.size_alloc] at hX0
  have hR1 := hR0.gr ((IsGr.refl (w.alloc (.cells #[.bool false, .slice none 0 0] 29))).alloc (.cells #[.bool false, .slice none 0 0] 29))
  have hBl := (((IsGr.refl w).alloc (.cells #[.bool false, .slice none 0 0] 29)).alloc (.cells #[.bool false, .slice none 0 0] 29)).below
  have H0 : Hid (BgB ((w.alloc (.cells #[.bool false, .slice none 0 0] 29)).alloc (.cells #[.bool false, .slice none 0 0] 29)) w.heap.size 0 ∧ BgB ((w.alloc (.cells #[.bool false, .slice none 0 0] 29)).alloc (.cells #[.bool false, .slice none 0 0] 29)) (w.heap.size + 1) 0 ∧ Below w.heap.size w ((w.alloc (.cells #[.bool false, .slice none 0 0] 29)).alloc (.cells #[.bool false, .slice none 0 0] 29))) := ⟨hR1, hX0, hBl⟩
  clear hR0 hX0 hR1 hBl
  go_enter Tryd.func11, Tryd.ntmps11
  have hs0 : 0 < s.size := by have := HS.out; omega
  have hat := bts_at hs0
  obtain ⟨c, hc⟩ : ∃ c : Int, ((s[0]'hs0).toNat : Int) = c := ⟨_, rfl⟩
  rw [hc] at hat
  have hs0' : (0 : Int) < s.size := by omega
  obtain ⟨h1, h2⟩ := hq
  have hc2 : (c == 43) = false ∧ (c == 45) = false := by
    have h3 : (bts s).getD 0 0 = mt.getD 0 0 := by
      have := getD_mid (a := sg) (m := mt) (r := ep) (k := 0) (by have := HS.out; omega)
      rw [HS.out.1]
      rw [h1] at this ⊢
      exact this
    have h4 := HM.out.2 (mt.getD 0 0) (by rw [List.getD_eq_getElem?_getD, List.getElem?_eq_getElem (by have := HS.out; omega)]; simp)
    rw [← h3, hat] at h4
    rcases h4 with rfl | h4
    · exact ⟨rfl, rfl⟩
    · have := dg_range h4
      simp; omega
  obtain ⟨q1, q2⟩ := hc2
  obtain rfl := h2
  obtain rfl : n0 = 0 := by have := HS.out.2.2.2.1; rw [h1] at this; exact this.symm
  clear hat h1
  go_wp2_with fail
  obtain ⟨wA, hwA⟩ : ∃ W, ((w.alloc (.cells #[.bool false, .slice none 0 0] 29)).alloc (.cells #[.bool false, .slice none 0 0] 29)) = W := ⟨_, rfl⟩
  rw [hwA] at H0 ⊢
  clear hwA
  go_loopg [5, 7, 8] N (fun r p5 p7 p8 wr => ∃ (i k : Nat) (Z : Int) (dd : Bool) (ee : Int), (i = 0 + k ∧ k + r = N) ∧ p7 = .int .i64 i ∧ p8 = .bool dd ∧ p5 = .int .i64 ee ∧ Hid (mstF (mt.take k) = (Z, dd, ee) ∧ BgB wr w.heap.size 0 ∧ BgB wr (w.heap.size + 1) Z ∧ Below w.heap.size w wr))
  case atStart => exact ⟨0, 0, 0, false, 0, by omega, by simp, rfl, rfl, rfl, H0.out⟩
  case round =>
    obtain ⟨i, k, Z, dd, ee, hik, rfl, rfl, rfl, HR⟩ := hrel
    have HI : Hid (i = 0 + k ∧ k + _ = N) := hik
    clear hik
    by_cases hk : k < N
    · have hi : i < s.size := by have := HS.out; have := HI.out; omega
      have hat2 := bts_at hi
      obtain ⟨c2, hc2⟩ : ∃ c : Int, ((s[i]'hi).toNat : Int) = c := ⟨_, rfl⟩
      rw [hc2] at hat2
      have hm : mt.getD k 0 = c2 := by
        rw [← hat2, HS.out.1, HI.out.1, ← HS.out.2.2.2.1]
        exact (getD_mid (by rw [HS.out.2.2.2.2.1]; exact hk)).symm
      have hdc := HM.out.2 c2 (by rw [← hm, List.getD_eq_getElem?_getD, List.getElem?_eq_getElem (by have := HS.out; omega)]; simp)
      have HT : Hid (mstF (mt.take (k + 1)) = mstep (Z, dd, ee) c2) := by
        show _ = _
        rw [takeS (by have := HS.out; omega), mstF_snoc, hm, HR.out.1]
      have hbd := mst_take HM.out.2 (k := k) (by have := HS.out; omega)
      rw [HR.out.1] at hbd
      simp only at hbd
      have hi' : (i : Int) < s.size := by omega
      have hi0 : (0 : Int) ≤ i := by omega
      have e1 : IntKind.i64.wrap ((i : Int) + 1) = (i : Int) + 1 := by rw [IntKind.wrap_i64]; have := HS.out; omega
      clear hat2 hm
      by_cases h46 : c2 = 46
      · subst h46
        have HN : Hid (mstF (mt.take (k + 1)) = (Z, true, ee)) := HT.out.trans rfl
        clear HT hbd hdc
        go_wp2_with fail
        go_roundg (N - (k + 1))
        case measure => have := HI.out; omega
        case rel => exact ⟨i + 1, k + 1, Z, true, ee, ⟨by have := HI.out; omega, by omega⟩, by simp, rfl, rfl, HN.out, HR.out.2⟩
      · have hdr := dg_range (hdc.resolve_left h46)
        have q1 : (c2 == 46) = false := by simpa using h46
        have q2 : (c2 != 101) = true := by simp; omega
        have q3 : (c2 != 69) = true := by simp; omega
        have e2 : IntKind.u8.wrap (c2 - 48) = c2 - 48 := by rw [IntKind.wrap_u8]; omega
        have e3 : IntKind.i64.wrap (c2 - 48) = c2 - 48 := by rw [IntKind.wrap_i64]; omega
        have e4 : IntKind.i64.wrap (ee - 1) = ee - 1 := by rw [IntKind.wrap_i64]; have := HS.out; omega
        obtain ⟨sZ, sZ10⟩ := ten_60 hbd.1 hbd.2.1 (by have := HS.out; omega)
        have s10 : Sm 10 := by unfold Sm; omega
        have sc : Sm (c2 - 48) := by unfold Sm; omega
        have CD := fun w => BigOf_any (c2 - 48) (by omega) (by omega) w
        have HN : Hid (mstF (mt.take (k + 1)) = (Z * 10 + (c2 - 48), dd, if dd = true then ee - 1 else ee)) := HT.out.trans (by unfold mstep; rw [if_neg h46])
        obtain ⟨zs, za, zn, zc, hzb, hzB⟩ := HR.out.2.2.1
        obtain ⟨c0, c1, f0, f1⟩ := block_two hzb
        have HZ : Hid (IsBig wr (.agg #[.bool zs, .slice za zn zc]) Z) := hzB
        clear HT hbd hdc hdr h46 hzb hzB
        go_upto_region 12 with fail
        obtain ⟨C, hin, hcl, hcells, hgr⟩ : ∃ C : World → Prop, (∀ w', IsGr wr w' → C w') ∧ (∀ u u', C u → IsGr u u' → C u') ∧ (∀ w', C w' → (w'.cell? ⟨w.heap.size + 1, 0, none⟩ = some (.bool zs)) ∧ (w'.cell? ⟨w.heap.size + 1, 1, none⟩ = some (.slice za zn zc)) ∧ (w'.frozen? ⟨w.heap.size + 1, 0, none⟩ = false) ∧ (w'.frozen? ⟨w.heap.size + 1, 1, none⟩ = false)) ∧ (∀ w', C w' → IsGr wr w') := ⟨fun w' => IsGr wr w', fun _ h => h, fun _ _ h k => h.trans k, fun w' hg => ⟨cellk c0 hg, cellk c1 hg, frzk c0 f0 hg, frzk c1 f1 hg⟩, fun _ h => h⟩
        refine wp_region_but (S := C) (k := 10) (n := 10) (by kernel_rfl) (by kernel_rfl) (by (try dsimp only); exact hin _ (by with_reducible repeat (first | exact IsGr.refl _ | refine IsGr.gr ?_ _ _ | refine IsGr.alloc ?_ _ | refine IsGr.drew ?_ | refine IsGr.drewN ?_ _))) (fun hHeld => ?_)
        refine wpAnyH_take (i := 0) (oi := { dst := some 53, op := Op.load 29 (Operand.tmp 4), type := 29, pos := "ref.go:32", after := #[], guard := none }) (v := ?_) rfl (by kernel_rfl) (by kernel_rfl) (by kernel_rfl) (fun _ _ _ h => h) (Or.inl ⟨by rfl, ?_⟩) (by assumption) ?_
        rotate_left
        · (intro w hSw; (try dsimp only at hSw); (try have hcs := hcells w hSw); (try go_split_ands); go_simp <;> with_reducible rfl)
        (try simp only [Act.put, List.setIfInBounds_toArray, List.set_cons_zero, List.set_cons_succ])
        refine wpAnyH_take (i := 3) (oi := { dst := some 56, op := Op.move (Operand.tmp 0), type := 9, pos := "ref.go:32", after := #[], guard := none }) (v := ?_) rfl (by kernel_rfl) (by kernel_rfl) (by kernel_rfl) (fun _ _ _ h => h) (Or.inl ⟨by rfl, ?_⟩) (by assumption) ?_
        rotate_left
        · (intro w hSw; (try dsimp only at hSw); (try have hcs := hcells w hSw); (try go_split_ands); go_simp <;> with_reducible rfl)
        (try simp only [Act.put, List.setIfInBounds_toArray, List.set_cons_zero, List.set_cons_succ])
        refine wpAnyH_take (i := 4) (oi := { dst := some 57, op := Op.move (Operand.tmp 7), type := 3, pos := "ref.go:32", after := #[], guard := none }) (v := ?_) rfl (by kernel_rfl) (by kernel_rfl) (by kernel_rfl) (fun _ _ _ h => h) (Or.inl ⟨by rfl, ?_⟩) (by assumption) ?_
        rotate_left
        · (intro w hSw; (try dsimp only at hSw); (try have hcs := hcells w hSw); (try go_split_ands); go_simp <;> with_reducible rfl)
        (try simp only [Act.put, List.setIfInBounds_toArray, List.set_cons_zero, List.set_cons_succ])
        refine wpAnyH_take (i := 5) (oi := { dst := some 58, op := Op.index 9 (Operand.tmp 56) (Operand.tmp 57), type := 5, pos := "ref.go:32", after := #[{ on := 3, ground := Ground.data }, { on := 4, ground := Ground.data }], guard := none }) (v := ?_) rfl (by kernel_rfl) (by kernel_rfl) (by kernel_rfl) (fun _ _ _ h => h) (Or.inl ⟨by rfl, ?_⟩) (by assumption) ?_
        rotate_left
        · (intro w hSw; (try dsimp only at hSw); (try have hcs := hcells w hSw); (try go_split_ands); go_simp <;> with_reducible rfl)
        (try simp only [Act.put, List.setIfInBounds_toArray, List.set_cons_zero, List.set_cons_succ])
        refine wpAnyH_take (i := 6) (oi := { dst := some 59, op := Op.binOp BinOp.sub 5 (Operand.tmp 58) (Operand.const (Value.int IntKind.u8 48)) 5, type := 5, pos := "ref.go:32", after := #[{ on := 5, ground := Ground.data }], guard := none }) (v := ?_) rfl (by kernel_rfl) (by kernel_rfl) (by kernel_rfl) (fun _ _ _ h => h) (Or.inl ⟨by rfl, ?_⟩) (by assumption) ?_
        rotate_left
        · (intro w hSw; (try dsimp only at hSw); (try have hcs := hcells w hSw); (try go_split_ands); go_simp <;> with_reducible rfl)
        (try simp only [Act.put, List.setIfInBounds_toArray, List.set_cons_zero, List.set_cons_succ])
        refine wpAnyH_take (i := 7) (oi := { dst := some 60, op := Op.convert 5 3 (Operand.tmp 59), type := 3, pos := "ref.go:32", after := #[{ on := 6, ground := Ground.data }], guard := none }) (v := ?_) rfl (by kernel_rfl) (by kernel_rfl) (by kernel_rfl) (fun _ _ _ h => h) (Or.inl ⟨by rfl, ?_⟩) (by assumption) ?_
        rotate_left
        · (intro w hSw; (try dsimp only at hSw); (try have hcs := hcells w hSw); (try go_split_ands); go_simp <;> with_reducible rfl)
        (try simp only [Act.put, List.setIfInBounds_toArray, List.set_cons_zero, List.set_cons_succ])
        refine wpAnyH_ready (rs := [1]) (by kernel_rfl) (by simp) ?_
        refine AllReadyH.cons (o := { dst := some 54, op := Op.call { callee := Callee.value (Operand.func 12), args := #[Operand.const (Value.int IntKind.i64 10)], argTypes := #[3] }, type := 29, pos := "ref.go:32", after := #[], guard := none }) rfl (fun K hK => ?_) ?_
        · go_simp
          refine (CT _).mono ?_
          rintro e w2 ⟨T, rfl, hT, hg2⟩
          obtain ⟨Ts, Ta, Tn, Tc, rfl⟩ := hT.shape
          (try go_wp2_with fail)
          refine hK.out _ _ (by (try dsimp only); exact hcl _ _ hHeld (by first | with_reducible assumption | with_reducible exact IsGr.refl _ | with_reducible exact (IsGr.refl _).alloc _ | with_reducible exact ((IsGr.refl _).alloc _).alloc _ | assumption)) (fun hHeld2 => ?_)
          clear hK K hHeld
          have hHeld := hHeld2
          clear hHeld2
          (try simp only [Act.put, List.setIfInBounds_toArray, List.set_cons_zero, List.set_cons_succ])
          refine wpAnyH_ready (rs := [2]) (by kernel_rfl) (by simp) ?_
          refine AllReadyH.cons (o := { dst := some 55, op := Op.call { callee := Callee.value (Operand.func 13), args := #[Operand.tmp 53, Operand.tmp 54], argTypes := #[29, 29] }, type := 29, pos := "ref.go:32", after := #[{ on := 0, ground := Ground.data }, { on := 1, ground := Ground.data }, { on := 1, ground := Ground.chain }], guard := none }) rfl (fun K hK => ?_) ?_
          · go_simp
            refine (BigMul_any _ _ Z 10 _ (HZ.out.gr (hgr _ hHeld)) hT sZ s10).mono ?_
            rintro e w3 ⟨M, rfl, hM, hg3⟩
            obtain ⟨Ms, Ma, Mn, Mc, rfl⟩ := hM.shape
            (try go_wp2_with fail)
            refine hK.out _ _ (by (try dsimp only); exact hcl _ _ hHeld (by first | with_reducible assumption | with_reducible exact IsGr.refl _ | with_reducible exact (IsGr.refl _).alloc _ | with_reducible exact ((IsGr.refl _).alloc _).alloc _ | assumption)) (fun hHeld2 => ?_)
            clear hK K hHeld
            have hHeld := hHeld2
            clear hHeld2
            (try simp only [Act.put, List.setIfInBounds_toArray, List.set_cons_zero, List.set_cons_succ])
            refine wpAnyH_ready (rs := [8]) (by kernel_rfl) (by simp) ?_
            refine AllReadyH.cons (o := { dst := some 61, op := Op.call { callee := Callee.value (Operand.func 12), args := #[Operand.tmp 60], argTypes := #[3] }, type := 29, pos := "ref.go:32", after := #[{ on := 7, ground := Ground.data }, { on := 2, ground := Ground.chain }], guard := none }) rfl (fun K hK => ?_) ?_
            · go_simp
              refine (CD _).mono ?_
              rintro e w4 ⟨D, rfl, hD, hg4⟩
              obtain ⟨Ds, Da, Dn, Dc, rfl⟩ := hD.shape
              (try go_wp2_with fail)
              refine hK.out _ _ (by (try dsimp only); exact hcl _ _ hHeld (by first | with_reducible assumption | with_reducible exact IsGr.refl _ | with_reducible exact (IsGr.refl _).alloc _ | with_reducible exact ((IsGr.refl _).alloc _).alloc _ | assumption)) (fun hHeld2 => ?_)
              clear hK K hHeld
              have hHeld := hHeld2
              clear hHeld2
              (try simp only [Act.put, List.setIfInBounds_toArray, List.set_cons_zero, List.set_cons_succ])
              refine wpAnyH_ready (rs := [9]) (by kernel_rfl) (by simp) ?_
              refine AllReadyH.cons (o := { dst := some 62, op := Op.call { callee := Callee.value (Operand.func 25), args := #[Operand.tmp 55, Operand.tmp 61], argTypes := #[29, 29] }, type := 29, pos := "ref.go:32", after := #[{ on := 2, ground := Ground.data }, { on := 8, ground := Ground.data }, { on := 8, ground := Ground.chain }], guard := none }) rfl (fun K hK => ?_) ?_
              · go_simp
                refine (BigAdd_any _ _ (Z * 10) (c2 - 48) _ (hM.gr (by first | with_reducible assumption | with_reducible exact IsGr.refl _ | with_reducible exact (IsGr.refl _).alloc _ | with_reducible exact ((IsGr.refl _).alloc _).alloc _ | assumption)) (hD.gr (by first | with_reducible assumption | with_reducible exact IsGr.refl _ | with_reducible exact (IsGr.refl _).alloc _ | with_reducible exact ((IsGr.refl _).alloc _).alloc _ | assumption)) sZ10 sc).mono ?_
                rintro e w5 ⟨R, rfl, hR, hg5⟩
                obtain ⟨Rs, Ra, Rn, Rc, rfl⟩ := hR.shape
                (try go_wp2_with fail)
                refine hK.out _ _ (by (try dsimp only); exact hcl _ _ hHeld (by first | with_reducible assumption | with_reducible exact IsGr.refl _ | with_reducible exact (IsGr.refl _).alloc _ | with_reducible exact ((IsGr.refl _).alloc _).alloc _ | assumption)) (fun hHeld2 => ?_)
                clear hK K hHeld
                have hHeld := hHeld2
                clear hHeld2
                (try simp only [Act.put, List.setIfInBounds_toArray, List.set_cons_zero, List.set_cons_succ])
                refine wpAnyH_done (by kernel_rfl) ?_ _
                obtain ⟨q0, q1', q2', q3'⟩ := hcells _ hHeld
                have hg := hgr _ hHeld
                refine butLast_step (o := { dst := none, op := Op.store 29 (Operand.tmp 4) (Operand.tmp 62), type := 0, pos := "ref.go:32", after := #[{ on := 9, ground := Ground.data }, { on := 9, ground := Ground.chain }, { on := 0, ground := Ground.phase }, { on := 1, ground := Ground.phase }, { on := 2, ground := Ground.phase }, { on := 3, ground := Ground.phase }, { on := 4, ground := Ground.phase }, { on := 5, ground := Ground.phase }, { on := 6, ground := Ground.phase }, { on := 7, ground := Ground.phase }, { on := 8, ground := Ground.phase }, { on := 9, ground := Ground.phase }], guard := none }) rfl (fun K hK => ?_)
                go_simp
                refine hK.out _ _ ?_
                clear hK K
                (try simp only [Act.put, List.setIfInBounds_toArray, List.set_cons_zero, List.set_cons_succ])
                have HQ : Hid (BgB w5 w.heap.size 0 ∧ BgB w5 (w.heap.size + 1) Z ∧ Below w.heap.size w w5) := ⟨HR.out.2.1.gr hg, HR.out.2.2.1.gr hg, HR.out.2.2.2.trans (hg.below.mono HR.out.2.2.2.size)⟩
                have HM2 : Hid (BgB ((w5.setCell ⟨w.heap.size + 1, 0, none⟩ (.bool Rs)).setCell ⟨w.heap.size + 1, 1, none⟩ (.slice Ra Rn Rc)) w.heap.size 0 ∧ BgB ((w5.setCell ⟨w.heap.size + 1, 0, none⟩ (.bool Rs)).setCell ⟨w.heap.size + 1, 1, none⟩ (.slice Ra Rn Rc)) (w.heap.size + 1) (Z * 10 + (c2 - 48)) ∧ Below w.heap.size w ((w5.setCell ⟨w.heap.size + 1, 0, none⟩ (.bool Rs)).setCell ⟨w.heap.size + 1, 1, none⟩ (.slice Ra Rn Rc))) := ⟨HQ.out.2.1.other HQ.out.1 (by omega), HQ.out.2.1.put hR, below_put HQ.out.2.2 (by omega)⟩
                clear hHeld hgr hin hcl hcells q0 q1' q2' q3' c0 c1 f0 f1 hg hR hM hD hT HQ
                cases dd with
                | true =>
                  go_wp2_with fail
                  go_roundg (N - (k + 1))
                  case measure => have := HI.out; omega
                  case rel => exact ⟨i + 1, k + 1, _, true, ee - 1, ⟨by have := HI.out; omega, by omega⟩, by simp, rfl, rfl, HN.out, HM2.out⟩
                | false =>
                  go_wp2_with fail
                  go_roundg (N - (k + 1))
                  case measure => have := HI.out; omega
                  case rel => exact ⟨i + 1, k + 1, _, false, ee, ⟨by have := HI.out; omega, by omega⟩, by simp, rfl, rfl, HN.out, HM2.out⟩
              exact AllReadyH.nil
            exact AllReadyH.nil
          exact AllReadyH.nil
        exact AllReadyH.nil
    · have HB : Hid (0 ≤ D ∧ D < 10 ^ N) := by
        have := mst_bound HM.out.2
        rw [HM.out.1, HS.out.2.2.2.2.1] at this
        exact ⟨this.1, this.2.1⟩
      have hkN : k = N := by have := HI.out; omega
      have hst := HR.out.1
      rw [hkN, List.take_of_length_le (by have := HS.out; omega), HM.out.1] at hst
      simp only [Prod.mk.injEq] at hst
      obtain ⟨rfl, rfl, hee⟩ := hst
      have HEE : Hid (ee = -((L2 : Nat) : Int) ∧ L2 ≤ 60) := ⟨hee.symm, by have h1 := mst_bound HM.out.2; rw [HM.out.1, HS.out.2.2.2.2.1] at h1; have h2 := HS.out; simp only at h1; omega⟩
      have HI2 : Hid (i = 0 + N) := by have := HI.out; show _ = _; omega
      have HW : Hid (BgB wr w.heap.size 0 ∧ BgB wr (w.heap.size + 1) D ∧ Below w.heap.size w wr) := HR.out.2
      clear hkN hee HR HI hk
      rcases HP.out.1 with ⟨hep2, hp0⟩ | ⟨e0, es, l3, he, hep2, hne3, hd3, hes⟩
      · have hi' : ¬ (i : Int) < s.size := by have h1 := HS.out; rw [hep2, List.length_nil] at h1; have h2 := HI2.out; omega
        have HE : Hid (ee = p - (L2 : Nat)) := by show _ = _; rw [HEE.out.1, hp0]; omega
        clear hep2 hp0
        obtain ⟨zs, za, zn, zc, hzb, hzB⟩ := HW.out.2.1
        obtain ⟨c0, c1, f0, f1⟩ := block_two hzb
        obtain ⟨r0s, r0a, r0n, r0c, hrb, hrB⟩ := HW.out.1
        obtain ⟨d0, d1, g0, g1⟩ := block_two hrb
        have HF : Hid (IsBig ((wr.setCell ⟨w.heap.size, 0, none⟩ (.bool zs)).setCell ⟨w.heap.size, 1, none⟩ (.slice za zn zc)) (.agg #[.bool zs, .slice za zn zc]) D ∧ IsGr w ((wr.setCell ⟨w.heap.size, 0, none⟩ (.bool zs)).setCell ⟨w.heap.size, 1, none⟩ (.slice za zn zc))) := ⟨hzB.stored hrb _ _, IsGr.of_below (below_put HW.out.2.2 (Nat.le_refl _))⟩
        obtain ⟨y0, y1, -, -⟩ := block_two (put_two (s' := zs) (a' := za) (n' := zn) (c' := zc) hrb)
        have HY : Hid (_ ∧ _) := And.intro y0 y1
        clear hzb hzB hrb hrB y0 y1
        go_wp2_with fail
        obtain ⟨y0, y1⟩ := HY.out
        exact bodyPost_ret (v := .tuple #[.agg #[.bool zs, .slice za zn zc], .int .i64 (ee)]) (by simp [results, Tryd.results11, go_sem, y0, y1]) rfl ⟨_, by rw [HE.out], HF.out.1, HF.out.2⟩

      · have hi : i < s.size := by have h1 := HS.out; rw [hep2, List.length_cons] at h1; have h2 := HI2.out; omega
        have hat2 := bts_at hi
        obtain ⟨c2, hc2⟩ : ∃ c : Int, ((s[i]'hi).toNat : Int) = c := ⟨_, rfl⟩
        rw [hc2] at hat2
        have hce : c2 = e0 := by
          rw [← hat2, HS.out.1, hep2, show i = sg.length + mt.length by have := HS.out; have := HI2.out; omega]
          exact getD_end
        subst hce
        have hi' : (i : Int) < s.size := by omega
        have hi0 : (0 : Int) ≤ i := by omega
        clear hat2
        go_upto_region 9 with fail
        go_cut [48] from 33 to 67 (fun t48 wx => t48 = .bool false ∧ wx = wr)
        case first =>
          rcases he with rfl | rfl
          · go_wp2_with fail
            go_meet
            exact ⟨rfl, rfl⟩
          · go_wp2_with fail
            go_meet
            exact ⟨rfl, rfl⟩
        case rest =>
          obtain ⟨rfl, hw9⟩ := hcut
          obtain rfl := hw9.symm
          rcases hes with ⟨rfl | rfl, hp⟩ | ⟨rfl, hp⟩
          · have HPW : Hid (p = dvl l3) := hp
            clear hp
            have hsp : bts s = (sg ++ (mt ++ [c2])) ++ (l3 ++ []) := by rw [HS.out.1, hep2]; simp
            have hln : (sg ++ (mt ++ [c2])).length = i + 1 + 0 := by simp; have := HS.out; have := HI2.out; omega
            obtain ⟨n3, hn3⟩ : ∃ n, l3.length = n := ⟨_, rfl⟩
            have HL3 : Hid (l3.length = n3 ∧ Dgs l3 ∧ n3 ≤ 16 ∧ (∀ m, m < n3 → (bts s).getD (i + 1 + 0 + m) 0 = l3.getD m 0) ∧ s.size = i + 1 + 0 + n3) := ⟨hn3, hd3, by have := HP.out.2; rw [hep2] at this; simp at this; omega, fun m hm => by rw [hsp, ← hln]; exact getD_mid (by omega), by have := bts_pos hsp; rw [hln, hn3] at this; simpa using this⟩
            have h3p : 0 < n3 := by
              rw [← hn3]
              exact List.length_pos_iff.2 hne3
            have hi1 : i + 1 < s.size := by have := HL3.out.2.2.2.2; omega
            have hat5 := bts_at hi1
            obtain ⟨c5, hc5⟩ : ∃ c : Int, ((s[i + 1]'hi1).toNat : Int) = c := ⟨_, rfl⟩
            rw [hc5] at hat5
            have hi1' : (i : Int) + 1 < s.size := by omega
            have hi10 : (0 : Int) ≤ (i : Int) + 1 := by omega
            have hto : ((i : Int) + 1).toNat = i + 1 := by omega
            have e1 : IntKind.i64.wrap ((i : Int) + 1) = (i : Int) + 1 := by rw [IntKind.wrap_i64]; have := HS.out; omega
            have e2 : IntKind.i64.wrap ((i : Int) + 1 + 1) = (i : Int) + 1 + 1 := by rw [IntKind.wrap_i64]; have := HS.out; omega

            have hc6 : (c5 == 43) = false ∧ (c5 == 45) = false := by
              have h6 := HL3.out.2.2.2.1 0 h3p
              rw [Nat.add_zero, Nat.add_zero, hat5] at h6
              have := dg_range (HL3.out.2.1 c5 (by rw [h6, List.getD_eq_getElem?_getD, List.getElem?_eq_getElem (by omega)]; simp))
              simp; omega
            obtain ⟨q5, q6⟩ := hc6
            clear hsp hln hn3 hat5 h3p hep2

            have hl3 := HL3.out.1
            go_wp2_with fail
            go_loopg [7, 10] n3 (fun r p7 p10 wx => wx = wr ∧ ∃ (j m : Nat) (P : Int), (j = (i + 1 + 0) + m ∧ m + r = n3) ∧ p7 = .int .i64 j ∧ p10 = .int .i64 P ∧ Hid (P = dvl (l3.take m)))
            case atStart => exact ⟨rfl, (i + 1 + 0), 0, 0, by omega, by simp, rfl, rfl⟩
            case round =>
              obtain ⟨hww, j, m, P, hj, rfl, rfl, HPm⟩ := hrel
              obtain rfl := hww.symm
              have HJ : Hid (j = (i + 1 + 0) + m ∧ m + _ = n3) := hj
              clear hj
              have hpb := dvl_bound (HL3.out.2.1.take m)
              rw [← HPm.out] at hpb
              have hpm := pow_le_pow' (by decide : (1 : Int) ≤ 10) (show (l3.take m).length ≤ 16 by rw [List.length_take]; have := HL3.out.2.2.1; omega)
              by_cases hm : m < n3
              · have hjs : j < s.size := by have := HJ.out; have := HL3.out.2.2.2.2; omega
                have hat3 := bts_at hjs
                obtain ⟨c4, hc4⟩ : ∃ c : Int, ((s[j]'hjs).toNat : Int) = c := ⟨_, rfl⟩
                rw [hc4] at hat3
                have hm4 : l3.getD m 0 = c4 := by rw [← hat3, HJ.out.1]; exact (HL3.out.2.2.2.1 m (by omega)).symm
                have hd4 := dg_range (HL3.out.2.1 c4 (by rw [← hm4, List.getD_eq_getElem?_getD, List.getElem?_eq_getElem (by omega)]; simp))
                have HN4 : Hid (P * 10 + (c4 - 48) = dvl (l3.take (m + 1))) := by show _ = _; rw [takeS (by omega), dvl_snoc, hm4, ← HPm.out]
                have hjs' : (j : Int) < s.size := by omega
                have hj0 : (0 : Int) ≤ j := by omega
                have w1 : IntKind.i64.wrap ((j : Int) + 1) = (j : Int) + 1 := by rw [IntKind.wrap_i64]; have := HS.out; omega
                have w2 : IntKind.u8.wrap (c4 - 48) = c4 - 48 := by rw [IntKind.wrap_u8]; omega
                have w3 : IntKind.i64.wrap (c4 - 48) = c4 - 48 := by rw [IntKind.wrap_i64]; omega
                have w4 : IntKind.i64.wrap (P * 10) = P * 10 := by rw [IntKind.wrap_i64]; omega
                have w5 : IntKind.i64.wrap (P * 10 + (c4 - 48)) = P * 10 + (c4 - 48) := by rw [IntKind.wrap_i64]; omega
                clear hat3 hm4 hd4 hpb hpm hl3
                go_wp2_with fail
                go_roundg (n3 - (m + 1))
                case measure => have := HJ.out; omega
                case rel => exact ⟨rfl, j + 1, m + 1, _, ⟨by have := HJ.out; omega, by omega⟩, by simp, rfl, HN4.out⟩
              · have hjs' : ¬ (j : Int) < s.size := by have := HJ.out; have := HL3.out.2.2.2.2; omega
                have HPV : Hid (P = dvl l3) := by show _ = _; rw [HPm.out, List.take_of_length_le (by omega)]
                have w1 : IntKind.i64.wrap (ee + P) = ee + P := by rw [IntKind.wrap_i64]; have := HS.out; have := HEE.out; omega
                have HE : Hid (ee + P = p - (L2 : Nat)) := by
                  show _ = _
                  rw [HEE.out.1, HPW.out, HPV.out]; omega
                clear hpb hpm hl3 hm
                obtain ⟨zs, za, zn, zc, hzb, hzB⟩ := HW.out.2.1
                obtain ⟨c0, c1, f0, f1⟩ := block_two hzb
                obtain ⟨r0s, r0a, r0n, r0c, hrb, hrB⟩ := HW.out.1
                obtain ⟨d0, d1, g0, g1⟩ := block_two hrb
                have HF : Hid (IsBig ((wr.setCell ⟨w.heap.size, 0, none⟩ (.bool zs)).setCell ⟨w.heap.size, 1, none⟩ (.slice za zn zc)) (.agg #[.bool zs, .slice za zn zc]) D ∧ IsGr w ((wr.setCell ⟨w.heap.size, 0, none⟩ (.bool zs)).setCell ⟨w.heap.size, 1, none⟩ (.slice za zn zc))) := ⟨hzB.stored hrb _ _, IsGr.of_below (below_put HW.out.2.2 (Nat.le_refl _))⟩
                obtain ⟨y0, y1, -, -⟩ := block_two (put_two (s' := zs) (a' := za) (n' := zn) (c' := zc) hrb)
                have HY : Hid (_ ∧ _) := And.intro y0 y1
                clear hzb hzB hrb hrB y0 y1
                go_wp2_with fail
                obtain ⟨y0, y1⟩ := HY.out
                exact bodyPost_ret (v := .tuple #[.agg #[.bool zs, .slice za zn zc], .int .i64 (ee + P)]) (by simp [results, Tryd.results11, go_sem, y0, y1]) rfl ⟨_, by rw [HE.out], HF.out.1, HF.out.2⟩
          · have HPW : Hid (p = dvl l3) := hp
            clear hp
            have hsp : bts s = (sg ++ (mt ++ [c2, 43])) ++ (l3 ++ []) := by rw [HS.out.1, hep2]; simp
            have hln : (sg ++ (mt ++ [c2, 43])).length = i + 1 + 1 := by simp; have := HS.out; have := HI2.out; omega
            obtain ⟨n3, hn3⟩ : ∃ n, l3.length = n := ⟨_, rfl⟩
            have HL3 : Hid (l3.length = n3 ∧ Dgs l3 ∧ n3 ≤ 16 ∧ (∀ m, m < n3 → (bts s).getD (i + 1 + 1 + m) 0 = l3.getD m 0) ∧ s.size = i + 1 + 1 + n3) := ⟨hn3, hd3, by have := HP.out.2; rw [hep2] at this; simp at this; omega, fun m hm => by rw [hsp, ← hln]; exact getD_mid (by omega), by have := bts_pos hsp; rw [hln, hn3] at this; simpa using this⟩
            have h3p : 0 < n3 := by
              rw [← hn3]
              exact List.length_pos_iff.2 hne3
            have hi1 : i + 1 < s.size := by have := HL3.out.2.2.2.2; omega
            have hat5 := bts_at hi1
            obtain ⟨c5, hc5⟩ : ∃ c : Int, ((s[i + 1]'hi1).toNat : Int) = c := ⟨_, rfl⟩
            rw [hc5] at hat5
            have hi1' : (i : Int) + 1 < s.size := by omega
            have hi10 : (0 : Int) ≤ (i : Int) + 1 := by omega
            have hto : ((i : Int) + 1).toNat = i + 1 := by omega
            have e1 : IntKind.i64.wrap ((i : Int) + 1) = (i : Int) + 1 := by rw [IntKind.wrap_i64]; have := HS.out; omega
            have e2 : IntKind.i64.wrap ((i : Int) + 1 + 1) = (i : Int) + 1 + 1 := by rw [IntKind.wrap_i64]; have := HS.out; omega

            have hc6 : c5 = 43 := by
              rw [← hat5, HS.out.1, hep2]
              have := getD_mid (a := sg ++ (mt ++ [c2])) (m := [(43 : Int)]) (r := l3) (k := 0) (by simp)
              simp only [List.append_assoc, List.length_append, List.length_cons, List.length_nil, List.cons_append, List.nil_append, Nat.add_zero] at this
              rw [show i + 1 = sg.length + (mt.length + (0 + 1)) by have := HS.out; have := HI2.out; omega]
              exact this
            subst hc6
            clear hsp hln hn3 hat5 h3p hep2

            have hl3 := HL3.out.1
            go_wp2_with fail
            go_loopg [7, 10] n3 (fun r p7 p10 wx => wx = wr ∧ ∃ (j m : Nat) (P : Int), (j = (i + 1 + 1) + m ∧ m + r = n3) ∧ p7 = .int .i64 j ∧ p10 = .int .i64 P ∧ Hid (P = dvl (l3.take m)))
            case atStart => exact ⟨rfl, (i + 1 + 1), 0, 0, by omega, by simp, rfl, rfl⟩
            case round =>
              obtain ⟨hww, j, m, P, hj, rfl, rfl, HPm⟩ := hrel
              obtain rfl := hww.symm
              have HJ : Hid (j = (i + 1 + 1) + m ∧ m + _ = n3) := hj
              clear hj
              have hpb := dvl_bound (HL3.out.2.1.take m)
              rw [← HPm.out] at hpb
              have hpm := pow_le_pow' (by decide : (1 : Int) ≤ 10) (show (l3.take m).length ≤ 16 by rw [List.length_take]; have := HL3.out.2.2.1; omega)
              by_cases hm : m < n3
              · have hjs : j < s.size := by have := HJ.out; have := HL3.out.2.2.2.2; omega
                have hat3 := bts_at hjs
                obtain ⟨c4, hc4⟩ : ∃ c : Int, ((s[j]'hjs).toNat : Int) = c := ⟨_, rfl⟩
                rw [hc4] at hat3
                have hm4 : l3.getD m 0 = c4 := by rw [← hat3, HJ.out.1]; exact (HL3.out.2.2.2.1 m (by omega)).symm
                have hd4 := dg_range (HL3.out.2.1 c4 (by rw [← hm4, List.getD_eq_getElem?_getD, List.getElem?_eq_getElem (by omega)]; simp))
                have HN4 : Hid (P * 10 + (c4 - 48) = dvl (l3.take (m + 1))) := by show _ = _; rw [takeS (by omega), dvl_snoc, hm4, ← HPm.out]
                have hjs' : (j : Int) < s.size := by omega
                have hj0 : (0 : Int) ≤ j := by omega
                have w1 : IntKind.i64.wrap ((j : Int) + 1) = (j : Int) + 1 := by rw [IntKind.wrap_i64]; have := HS.out; omega
                have w2 : IntKind.u8.wrap (c4 - 48) = c4 - 48 := by rw [IntKind.wrap_u8]; omega
                have w3 : IntKind.i64.wrap (c4 - 48) = c4 - 48 := by rw [IntKind.wrap_i64]; omega
                have w4 : IntKind.i64.wrap (P * 10) = P * 10 := by rw [IntKind.wrap_i64]; omega
                have w5 : IntKind.i64.wrap (P * 10 + (c4 - 48)) = P * 10 + (c4 - 48) := by rw [IntKind.wrap_i64]; omega
                clear hat3 hm4 hd4 hpb hpm hl3
                go_wp2_with fail
                go_roundg (n3 - (m + 1))
                case measure => have := HJ.out; omega
                case rel => exact ⟨rfl, j + 1, m + 1, _, ⟨by have := HJ.out; omega, by omega⟩, by simp, rfl, HN4.out⟩
              · have hjs' : ¬ (j : Int) < s.size := by have := HJ.out; have := HL3.out.2.2.2.2; omega
                have HPV : Hid (P = dvl l3) := by show _ = _; rw [HPm.out, List.take_of_length_le (by omega)]
                have w1 : IntKind.i64.wrap (ee + P) = ee + P := by rw [IntKind.wrap_i64]; have := HS.out; have := HEE.out; omega
                have HE : Hid (ee + P = p - (L2 : Nat)) := by
                  show _ = _
                  rw [HEE.out.1, HPW.out, HPV.out]; omega
                clear hpb hpm hl3 hm
                obtain ⟨zs, za, zn, zc, hzb, hzB⟩ := HW.out.2.1
                obtain ⟨c0, c1, f0, f1⟩ := block_two hzb
                obtain ⟨r0s, r0a, r0n, r0c, hrb, hrB⟩ := HW.out.1
                obtain ⟨d0, d1, g0, g1⟩ := block_two hrb
                have HF : Hid (IsBig ((wr.setCell ⟨w.heap.size, 0, none⟩ (.bool zs)).setCell ⟨w.heap.size, 1, none⟩ (.slice za zn zc)) (.agg #[.bool zs, .slice za zn zc]) D ∧ IsGr w ((wr.setCell ⟨w.heap.size, 0, none⟩ (.bool zs)).setCell ⟨w.heap.size, 1, none⟩ (.slice za zn zc))) := ⟨hzB.stored hrb _ _, IsGr.of_below (below_put HW.out.2.2 (Nat.le_refl _))⟩
                obtain ⟨y0, y1, -, -⟩ := block_two (put_two (s' := zs) (a' := za) (n' := zn) (c' := zc) hrb)
                have HY : Hid (_ ∧ _) := And.intro y0 y1
                clear hzb hzB hrb hrB y0 y1
                go_wp2_with fail
                obtain ⟨y0, y1⟩ := HY.out
                exact bodyPost_ret (v := .tuple #[.agg #[.bool zs, .slice za zn zc], .int .i64 (ee + P)]) (by simp [results, Tryd.results11, go_sem, y0, y1]) rfl ⟨_, by rw [HE.out], HF.out.1, HF.out.2⟩
          · have HPW : Hid (p = -dvl l3) := hp
            clear hp
            have hsp : bts s = (sg ++ (mt ++ [c2, 45])) ++ (l3 ++ []) := by rw [HS.out.1, hep2]; simp
            have hln : (sg ++ (mt ++ [c2, 45])).length = i + 1 + 1 := by simp; have := HS.out; have := HI2.out; omega
            obtain ⟨n3, hn3⟩ : ∃ n, l3.length = n := ⟨_, rfl⟩
            have HL3 : Hid (l3.length = n3 ∧ Dgs l3 ∧ n3 ≤ 16 ∧ (∀ m, m < n3 → (bts s).getD (i + 1 + 1 + m) 0 = l3.getD m 0) ∧ s.size = i + 1 + 1 + n3) := ⟨hn3, hd3, by have := HP.out.2; rw [hep2] at this; simp at this; omega, fun m hm => by rw [hsp, ← hln]; exact getD_mid (by omega), by have := bts_pos hsp; rw [hln, hn3] at this; simpa using this⟩
            have h3p : 0 < n3 := by
              rw [← hn3]
              exact List.length_pos_iff.2 hne3
            have hi1 : i + 1 < s.size := by have := HL3.out.2.2.2.2; omega
            have hat5 := bts_at hi1
            obtain ⟨c5, hc5⟩ : ∃ c : Int, ((s[i + 1]'hi1).toNat : Int) = c := ⟨_, rfl⟩
            rw [hc5] at hat5
            have hi1' : (i : Int) + 1 < s.size := by omega
            have hi10 : (0 : Int) ≤ (i : Int) + 1 := by omega
            have hto : ((i : Int) + 1).toNat = i + 1 := by omega
            have e1 : IntKind.i64.wrap ((i : Int) + 1) = (i : Int) + 1 := by rw [IntKind.wrap_i64]; have := HS.out; omega
            have e2 : IntKind.i64.wrap ((i : Int) + 1 + 1) = (i : Int) + 1 + 1 := by rw [IntKind.wrap_i64]; have := HS.out; omega

            have hc6 : c5 = 45 := by
              rw [← hat5, HS.out.1, hep2]
              have := getD_mid (a := sg ++ (mt ++ [c2])) (m := [(45 : Int)]) (r := l3) (k := 0) (by simp)
              simp only [List.append_assoc, List.length_append, List.length_cons, List.length_nil, List.cons_append, List.nil_append, Nat.add_zero] at this
              rw [show i + 1 = sg.length + (mt.length + (0 + 1)) by have := HS.out; have := HI2.out; omega]
              exact this
            subst hc6
            clear hsp hln hn3 hat5 h3p hep2

            have hl3 := HL3.out.1
            go_wp2_with fail
            go_loopg [7, 10] n3 (fun r p7 p10 wx => wx = wr ∧ ∃ (j m : Nat) (P : Int), (j = (i + 1 + 1) + m ∧ m + r = n3) ∧ p7 = .int .i64 j ∧ p10 = .int .i64 P ∧ Hid (P = dvl (l3.take m)))
            case atStart => exact ⟨rfl, (i + 1 + 1), 0, 0, by omega, by simp, rfl, rfl⟩
            case round =>
              obtain ⟨hww, j, m, P, hj, rfl, rfl, HPm⟩ := hrel
              obtain rfl := hww.symm
              have HJ : Hid (j = (i + 1 + 1) + m ∧ m + _ = n3) := hj
              clear hj
              have hpb := dvl_bound (HL3.out.2.1.take m)
              rw [← HPm.out] at hpb
              have hpm := pow_le_pow' (by decide : (1 : Int) ≤ 10) (show (l3.take m).length ≤ 16 by rw [List.length_take]; have := HL3.out.2.2.1; omega)
              by_cases hm : m < n3
              · have hjs : j < s.size := by have := HJ.out; have := HL3.out.2.2.2.2; omega
                have hat3 := bts_at hjs
                obtain ⟨c4, hc4⟩ : ∃ c : Int, ((s[j]'hjs).toNat : Int) = c := ⟨_, rfl⟩
                rw [hc4] at hat3
                have hm4 : l3.getD m 0 = c4 := by rw [← hat3, HJ.out.1]; exact (HL3.out.2.2.2.1 m (by omega)).symm
                have hd4 := dg_range (HL3.out.2.1 c4 (by rw [← hm4, List.getD_eq_getElem?_getD, List.getElem?_eq_getElem (by omega)]; simp))
                have HN4 : Hid (P * 10 + (c4 - 48) = dvl (l3.take (m + 1))) := by show _ = _; rw [takeS (by omega), dvl_snoc, hm4, ← HPm.out]
                have hjs' : (j : Int) < s.size := by omega
                have hj0 : (0 : Int) ≤ j := by omega
                have w1 : IntKind.i64.wrap ((j : Int) + 1) = (j : Int) + 1 := by rw [IntKind.wrap_i64]; have := HS.out; omega
                have w2 : IntKind.u8.wrap (c4 - 48) = c4 - 48 := by rw [IntKind.wrap_u8]; omega
                have w3 : IntKind.i64.wrap (c4 - 48) = c4 - 48 := by rw [IntKind.wrap_i64]; omega
                have w4 : IntKind.i64.wrap (P * 10) = P * 10 := by rw [IntKind.wrap_i64]; omega
                have w5 : IntKind.i64.wrap (P * 10 + (c4 - 48)) = P * 10 + (c4 - 48) := by rw [IntKind.wrap_i64]; omega
                clear hat3 hm4 hd4 hpb hpm hl3
                go_wp2_with fail
                go_roundg (n3 - (m + 1))
                case measure => have := HJ.out; omega
                case rel => exact ⟨rfl, j + 1, m + 1, _, ⟨by have := HJ.out; omega, by omega⟩, by simp, rfl, HN4.out⟩
              · have hjs' : ¬ (j : Int) < s.size := by have := HJ.out; have := HL3.out.2.2.2.2; omega
                have HPV : Hid (P = dvl l3) := by show _ = _; rw [HPm.out, List.take_of_length_le (by omega)]
                have w1 : IntKind.i64.wrap (ee + -P) = ee + -P := by rw [IntKind.wrap_i64]; have := HS.out; have := HEE.out; omega
                have w2 : IntKind.i64.wrap (-P) = -P := by rw [IntKind.wrap_i64]; omega
                have HE : Hid (ee + -P = p - (L2 : Nat)) := by
                  show _ = _
                  rw [HEE.out.1, HPW.out, HPV.out]; omega
                clear hpb hpm hl3 hm
                obtain ⟨zs, za, zn, zc, hzb, hzB⟩ := HW.out.2.1
                obtain ⟨c0, c1, f0, f1⟩ := block_two hzb
                obtain ⟨r0s, r0a, r0n, r0c, hrb, hrB⟩ := HW.out.1
                obtain ⟨d0, d1, g0, g1⟩ := block_two hrb
                have HF : Hid (IsBig ((wr.setCell ⟨w.heap.size, 0, none⟩ (.bool zs)).setCell ⟨w.heap.size, 1, none⟩ (.slice za zn zc)) (.agg #[.bool zs, .slice za zn zc]) D ∧ IsGr w ((wr.setCell ⟨w.heap.size, 0, none⟩ (.bool zs)).setCell ⟨w.heap.size, 1, none⟩ (.slice za zn zc))) := ⟨hzB.stored hrb _ _, IsGr.of_below (below_put HW.out.2.2 (Nat.le_refl _))⟩
                obtain ⟨y0, y1, -, -⟩ := block_two (put_two (s' := zs) (a' := za) (n' := zn) (c' := zc) hrb)
                have HY : Hid (_ ∧ _) := And.intro y0 y1
                clear hzb hzB hrb hrB y0 y1
                go_wp2_with fail
                obtain ⟨y0, y1⟩ := HY.out
                exact bodyPost_ret (v := .tuple #[.agg #[.bool zs, .slice za zn zc], .int .i64 (ee + -P)]) (by simp [results, Tryd.results11, go_sem, y0, y1]) rfl ⟨_, by rw [HE.out], HF.out.1, HF.out.2⟩

set_option maxRecDepth 20000 in set_option maxHeartbeats 2000000 in
theorem Number_1 (s : ByteArray) (w : World) (neg : Bool) (sg l1 dt l2 ep : List Int) (p : Int) (h : Spl (bts s) neg sg l1 dt l2 ep p) (hs : s.size ≤ 60) (hep : ep.length ≤ 17) (hq : sg = [43] ∧ neg = false) :
    Calls Tryd.prog 11 #[.string s] w fun e w' => ∃ v, e = .returned (.tuple #[v, .int .i64 (p - (l2.length : Nat))]) ∧ IsBig w' v (sgI neg (dvl (l1 ++ l2))) ∧ IsGr w w' := by
  obtain ⟨hb, hsg, hd1, hdt, hd2, hsome, hpow⟩ := h
  obtain ⟨dd0, hfin⟩ := mst_all hd1 hd2 hdt
  have hdps := dps_of hd1 hd2 hdt
  obtain ⟨mt, hmt⟩ : ∃ m, l1 ++ (dt ++ l2) = m := ⟨_, rfl⟩
  have hb2 : bts s = sg ++ (mt ++ ep) := by rw [hb, ← hmt, List.append_assoc, List.append_assoc]
  rw [hmt] at hfin hdps
  have hsz := bts_pos hb2
  obtain ⟨n0, hn0⟩ : ∃ n, sg.length = n := ⟨_, rfl⟩
  obtain ⟨N, hN⟩ : ∃ n, mt.length = n := ⟨_, rfl⟩
  obtain ⟨D, hD⟩ : ∃ d, dvl (l1 ++ l2) = d := ⟨_, rfl⟩
  obtain ⟨L2, hL2⟩ : ∃ d, l2.length = d := ⟨_, rfl⟩
  have hN0 : 0 < N := by
    rw [← hN, ← hmt]
    rcases Nat.eq_zero_or_pos (l1 ++ (dt ++ l2)).length with h | h
    · exfalso
      have := List.length_eq_zero_iff.1 h
      simp at this
      exact hsome (by rw [this.1, this.2.2]; rfl)
    · exact h
  rw [hD, hL2] at hfin
  rw [hD, hL2]
  have HS : Hid (bts s = sg ++ (mt ++ ep) ∧ s.size = n0 + N + ep.length ∧ s.size ≤ 60 ∧ sg.length = n0 ∧ mt.length = N ∧ 0 < N) := ⟨hb2, by rw [← hn0, ← hN]; exact hsz, hs, hn0, hN, hN0⟩
  have HM : Hid (mstF mt = (D, dd0, -((L2 : Nat) : Int)) ∧ Dps mt) := ⟨hfin, hdps⟩
  have HP : Hid (((ep = [] ∧ p = 0) ∨ ∃ e es l3, (e = 101 ∨ e = 69) ∧ ep = e :: (es ++ l3) ∧ l3 ≠ [] ∧ Dgs l3 ∧ (((es = [] ∨ es = [43]) ∧ p = dvl l3) ∨ (es = [45] ∧ p = - dvl l3))) ∧ ep.length ≤ 17) := ⟨hpow, hep⟩
  have CT := fun w => BigOf_any 10 (by omega) (by omega) w
  clear hb hd1 hd2 hdt hsome hpow hfin hdps hb2 hsz hs hep hn0 hN hD hL2 hN0 hmt hsg
  have hR0 := BgB.new (IsBig.zero w)
  have hX0 := BgB.new (IsBig.zero (w.alloc (.cells #[.bool false, .slice none 0 0] 29)))
  simp only [World.size_alloc] at hX0
  have hR1 := hR0.gr ((IsGr.refl (w.alloc (.cells #[.bool false, .slice none 0 0] 29))).alloc (.cells #[.bool false, .slice none 0 0] 29))
  have hBl := (((IsGr.refl w).alloc (.cells #[.bool false, .slice none 0 0] 29)).alloc (.cells #[.bool false, .slice none 0 0] 29)).below
  have H0 : Hid (BgB ((w.alloc (.cells #[.bool false, .slice none 0 0] 29)).alloc (.cells #[.bool false, .slice none 0 0] 29)) w.heap.size 0 ∧ BgB ((w.alloc (.cells #[.bool false, .slice none 0 0] 29)).alloc (.cells #[.bool false, .slice none 0 0] 29)) (w.heap.size + 1) 0 ∧ Below w.heap.size w ((w.alloc (.cells #[.bool false, .slice none 0 0] 29)).alloc (.cells #[.bool false, .slice none 0 0] 29))) := ⟨hR1, hX0, hBl⟩
  clear hR0 hX0 hR1 hBl
  go_enter Tryd.func11, Tryd.ntmps11
  have hs0 : 0 < s.size := by have := HS.out; omega
  have hat := bts_at hs0
  obtain ⟨c, hc⟩ : ∃ c : Int, ((s[0]'hs0).toNat : Int) = c := ⟨_, rfl⟩
  rw [hc] at hat
  have hs0' : (0 : Int) < s.size := by omega
  obtain ⟨h1, h2⟩ := hq
  have hc2 : c = 43 := by rw [← hat, HS.out.1, h1]; rfl
  subst hc2
  obtain rfl := h2
  obtain rfl : n0 = 1 := by have := HS.out.2.2.2.1; rw [h1] at this; exact this.symm
  clear hat h1
  go_wp2_with fail
  obtain ⟨wA, hwA⟩ : ∃ W, ((w.alloc (.cells #[.bool false, .slice none 0 0] 29)).alloc (.cells #[.bool false, .slice none 0 0] 29)) = W := ⟨_, rfl⟩
  rw [hwA] at H0 ⊢
  clear hwA
  go_loopg [5, 7, 8] N (fun r p5 p7 p8 wr => ∃ (i k : Nat) (Z : Int) (dd : Bool) (ee : Int), (i = 1 + k ∧ k + r = N) ∧ p7 = .int .i64 i ∧ p8 = .bool dd ∧ p5 = .int .i64 ee ∧ Hid (mstF (mt.take k) = (Z, dd, ee) ∧ BgB wr w.heap.size 0 ∧ BgB wr (w.heap.size + 1) Z ∧ Below w.heap.size w wr))
  case atStart => exact ⟨1, 0, 0, false, 0, by omega, by simp, rfl, rfl, rfl, H0.out⟩
  case round =>
    obtain ⟨i, k, Z, dd, ee, hik, rfl, rfl, rfl, HR⟩ := hrel
    have HI : Hid (i = 1 + k ∧ k + _ = N) := hik
    clear hik
    by_cases hk : k < N
    · have hi : i < s.size := by have := HS.out; have := HI.out; omega
      have hat2 := bts_at hi
      obtain ⟨c2, hc2⟩ : ∃ c : Int, ((s[i]'hi).toNat : Int) = c := ⟨_, rfl⟩
      rw [hc2] at hat2
      have hm : mt.getD k 0 = c2 := by
        rw [← hat2, HS.out.1, HI.out.1, ← HS.out.2.2.2.1]
        exact (getD_mid (by rw [HS.out.2.2.2.2.1]; exact hk)).symm
      have hdc := HM.out.2 c2 (by rw [← hm, List.getD_eq_getElem?_getD, List.getElem?_eq_getElem (by have := HS.out; omega)]; simp)
      have HT : Hid (mstF (mt.take (k + 1)) = mstep (Z, dd, ee) c2) := by
        show _ = _
        rw [takeS (by have := HS.out; omega), mstF_snoc, hm, HR.out.1]
      have hbd := mst_take HM.out.2 (k := k) (by have := HS.out; omega)
      rw [HR.out.1] at hbd
      simp only at hbd
      have hi' : (i : Int) < s.size := by omega
      have hi0 : (0 : Int) ≤ i := by omega
      have e1 : IntKind.i64.wrap ((i : Int) + 1) = (i : Int) + 1 := by rw [IntKind.wrap_i64]; have := HS.out; omega
      clear hat2 hm
      by_cases h46 : c2 = 46
      · subst h46
        have HN : Hid (mstF (mt.take (k + 1)) = (Z, true, ee)) := HT.out.trans rfl
        clear HT hbd hdc
        go_wp2_with fail
        go_roundg (N - (k + 1))
        case measure => have := HI.out; omega
        case rel => exact ⟨i + 1, k + 1, Z, true, ee, ⟨by have := HI.out; omega, by omega⟩, by simp, rfl, rfl, HN.out, HR.out.2⟩
      · have hdr := dg_range (hdc.resolve_left h46)
        have q1 : (c2 == 46) = false := by simpa using h46
        have q2 : (c2 != 101) = true := by simp; omega
        have q3 : (c2 != 69) = true := by simp; omega
        have e2 : IntKind.u8.wrap (c2 - 48) = c2 - 48 := by rw [IntKind.wrap_u8]; omega
        have e3 : IntKind.i64.wrap (c2 - 48) = c2 - 48 := by rw [IntKind.wrap_i64]; omega
        have e4 : IntKind.i64.wrap (ee - 1) = ee - 1 := by rw [IntKind.wrap_i64]; have := HS.out; omega
        obtain ⟨sZ, sZ10⟩ := ten_60 hbd.1 hbd.2.1 (by have := HS.out; omega)
        have s10 : Sm 10 := by unfold Sm; omega
        have sc : Sm (c2 - 48) := by unfold Sm; omega
        have CD := fun w => BigOf_any (c2 - 48) (by omega) (by omega) w
        have HN : Hid (mstF (mt.take (k + 1)) = (Z * 10 + (c2 - 48), dd, if dd = true then ee - 1 else ee)) := HT.out.trans (by unfold mstep; rw [if_neg h46])
        obtain ⟨zs, za, zn, zc, hzb, hzB⟩ := HR.out.2.2.1
        obtain ⟨c0, c1, f0, f1⟩ := block_two hzb
        have HZ : Hid (IsBig wr (.agg #[.bool zs, .slice za zn zc]) Z) := hzB
        clear HT hbd hdc hdr h46 hzb hzB
        go_upto_region 12 with fail
        obtain ⟨C, hin, hcl, hcells, hgr⟩ : ∃ C : World → Prop, (∀ w', IsGr wr w' → C w') ∧ (∀ u u', C u → IsGr u u' → C u') ∧ (∀ w', C w' → (w'.cell? ⟨w.heap.size + 1, 0, none⟩ = some (.bool zs)) ∧ (w'.cell? ⟨w.heap.size + 1, 1, none⟩ = some (.slice za zn zc)) ∧ (w'.frozen? ⟨w.heap.size + 1, 0, none⟩ = false) ∧ (w'.frozen? ⟨w.heap.size + 1, 1, none⟩ = false)) ∧ (∀ w', C w' → IsGr wr w') := ⟨fun w' => IsGr wr w', fun _ h => h, fun _ _ h k => h.trans k, fun w' hg => ⟨cellk c0 hg, cellk c1 hg, frzk c0 f0 hg, frzk c1 f1 hg⟩, fun _ h => h⟩
        refine wp_region_but (S := C) (k := 10) (n := 10) (by kernel_rfl) (by kernel_rfl) (by (try dsimp only); exact hin _ (by with_reducible repeat (first | exact IsGr.refl _ | refine IsGr.gr ?_ _ _ | refine IsGr.alloc ?_ _ | refine IsGr.drew ?_ | refine IsGr.drewN ?_ _))) (fun hHeld => ?_)
        refine wpAnyH_take (i := 0) (oi := { dst := some 53, op := Op.load 29 (Operand.tmp 4), type := 29, pos := "ref.go:32", after := #[], guard := none }) (v := ?_) rfl (by kernel_rfl) (by kernel_rfl) (by kernel_rfl) (fun _ _ _ h => h) (Or.inl ⟨by rfl, ?_⟩) (by assumption) ?_
        rotate_left
        · (intro w hSw; (try dsimp only at hSw); (try have hcs := hcells w hSw); (try go_split_ands); go_simp <;> with_reducible rfl)
        (try simp only [Act.put, List.setIfInBounds_toArray, List.set_cons_zero, List.set_cons_succ])
        refine wpAnyH_take (i := 3) (oi := { dst := some 56, op := Op.move (Operand.tmp 0), type := 9, pos := "ref.go:32", after := #[], guard := none }) (v := ?_) rfl (by kernel_rfl) (by kernel_rfl) (by kernel_rfl) (fun _ _ _ h => h) (Or.inl ⟨by rfl, ?_⟩) (by assumption) ?_
        rotate_left
        · (intro w hSw; (try dsimp only at hSw); (try have hcs := hcells w hSw); (try go_split_ands); go_simp <;> with_reducible rfl)
        (try simp only [Act.put, List.setIfInBounds_toArray, List.set_cons_zero, List.set_cons_succ])
        refine wpAnyH_take (i := 4) (oi := { dst := some 57, op := Op.move (Operand.tmp 7), type := 3, pos := "ref.go:32", after := #[], guard := none }) (v := ?_) rfl (by kernel_rfl) (by kernel_rfl) (by kernel_rfl) (fun _ _ _ h => h) (Or.inl ⟨by rfl, ?_⟩) (by assumption) ?_
        rotate_left
        · (intro w hSw; (try dsimp only at hSw); (try have hcs := hcells w hSw); (try go_split_ands); go_simp <;> with_reducible rfl)
        (try simp only [Act.put, List.setIfInBounds_toArray, List.set_cons_zero, List.set_cons_succ])
        refine wpAnyH_take (i := 5) (oi := { dst := some 58, op := Op.index 9 (Operand.tmp 56) (Operand.tmp 57), type := 5, pos := "ref.go:32", after := #[{ on := 3, ground := Ground.data }, { on := 4, ground := Ground.data }], guard := none }) (v := ?_) rfl (by kernel_rfl) (by kernel_rfl) (by kernel_rfl) (fun _ _ _ h => h) (Or.inl ⟨by rfl, ?_⟩) (by assumption) ?_
        rotate_left
        · (intro w hSw; (try dsimp only at hSw); (try have hcs := hcells w hSw); (try go_split_ands); go_simp <;> with_reducible rfl)
        (try simp only [Act.put, List.setIfInBounds_toArray, List.set_cons_zero, List.set_cons_succ])
        refine wpAnyH_take (i := 6) (oi := { dst := some 59, op := Op.binOp BinOp.sub 5 (Operand.tmp 58) (Operand.const (Value.int IntKind.u8 48)) 5, type := 5, pos := "ref.go:32", after := #[{ on := 5, ground := Ground.data }], guard := none }) (v := ?_) rfl (by kernel_rfl) (by kernel_rfl) (by kernel_rfl) (fun _ _ _ h => h) (Or.inl ⟨by rfl, ?_⟩) (by assumption) ?_
        rotate_left
        · (intro w hSw; (try dsimp only at hSw); (try have hcs := hcells w hSw); (try go_split_ands); go_simp <;> with_reducible rfl)
        (try simp only [Act.put, List.setIfInBounds_toArray, List.set_cons_zero, List.set_cons_succ])
        refine wpAnyH_take (i := 7) (oi := { dst := some 60, op := Op.convert 5 3 (Operand.tmp 59), type := 3, pos := "ref.go:32", after := #[{ on := 6, ground := Ground.data }], guard := none }) (v := ?_) rfl (by kernel_rfl) (by kernel_rfl) (by kernel_rfl) (fun _ _ _ h => h) (Or.inl ⟨by rfl, ?_⟩) (by assumption) ?_
        rotate_left
        · (intro w hSw; (try dsimp only at hSw); (try have hcs := hcells w hSw); (try go_split_ands); go_simp <;> with_reducible rfl)
        (try simp only [Act.put, List.setIfInBounds_toArray, List.set_cons_zero, List.set_cons_succ])
        refine wpAnyH_ready (rs := [1]) (by kernel_rfl) (by simp) ?_
        refine AllReadyH.cons (o := { dst := some 54, op := Op.call { callee := Callee.value (Operand.func 12), args := #[Operand.const (Value.int IntKind.i64 10)], argTypes := #[3] }, type := 29, pos := "ref.go:32", after := #[], guard := none }) rfl (fun K hK => ?_) ?_
        · go_simp
          refine (CT _).mono ?_
          rintro e w2 ⟨T, rfl, hT, hg2⟩
          obtain ⟨Ts, Ta, Tn, Tc, rfl⟩ := hT.shape
          (try go_wp2_with fail)
          refine hK.out _ _ (by (try dsimp only); exact hcl _ _ hHeld (by first | with_reducible assumption | with_reducible exact IsGr.refl _ | with_reducible exact (IsGr.refl _).alloc _ | with_reducible exact ((IsGr.refl _).alloc _).alloc _ | assumption)) (fun hHeld2 => ?_)
          clear hK K hHeld
          have hHeld := hHeld2
          clear hHeld2
          (try simp only [Act.put, List.setIfInBounds_toArray, List.set_cons_zero, List.set_cons_succ])
          refine wpAnyH_ready (rs := [2]) (by kernel_rfl) (by simp) ?_
          refine AllReadyH.cons (o := { dst := some 55, op := Op.call { callee := Callee.value (Operand.func 13), args := #[Operand.tmp 53, Operand.tmp 54], argTypes := #[29, 29] }, type := 29, pos := "ref.go:32", after := #[{ on := 0, ground := Ground.data }, { on := 1, ground := Ground.data }, { on := 1, ground := Ground.chain }], guard := none }) rfl (fun K hK => ?_) ?_
          · go_simp
            refine (BigMul_any _ _ Z 10 _ (HZ.out.gr (hgr _ hHeld)) hT sZ s10).mono ?_
            rintro e w3 ⟨M, rfl, hM, hg3⟩
            obtain ⟨Ms, Ma, Mn, Mc, rfl⟩ := hM.shape
            (try go_wp2_with fail)
            refine hK.out _ _ (by (try dsimp only); exact hcl _ _ hHeld (by first | with_reducible assumption | with_reducible exact IsGr.refl _ | with_reducible exact (IsGr.refl _).alloc _ | with_reducible exact ((IsGr.refl _).alloc _).alloc _ | assumption)) (fun hHeld2 => ?_)
            clear hK K hHeld
            have hHeld := hHeld2
            clear hHeld2
            (try simp only [Act.put, List.setIfInBounds_toArray, List.set_cons_zero, List.set_cons_succ])
            refine wpAnyH_ready (rs := [8]) (by kernel_rfl) (by simp) ?_
            refine AllReadyH.cons (o := { dst := some 61, op := Op.call { callee := Callee.value (Operand.func 12), args := #[Operand.tmp 60], argTypes := #[3] }, type := 29, pos := "ref.go:32", after := #[{ on := 7, ground := Ground.data }, { on := 2, ground := Ground.chain }], guard := none }) rfl (fun K hK => ?_) ?_
            · go_simp
              refine (CD _).mono ?_
              rintro e w4 ⟨D, rfl, hD, hg4⟩
              obtain ⟨Ds, Da, Dn, Dc, rfl⟩ := hD.shape
              (try go_wp2_with fail)
              refine hK.out _ _ (by (try dsimp only); exact hcl _ _ hHeld (by first | with_reducible assumption | with_reducible exact IsGr.refl _ | with_reducible exact (IsGr.refl _).alloc _ | with_reducible exact ((IsGr.refl _).alloc _).alloc _ | assumption)) (fun hHeld2 => ?_)
              clear hK K hHeld
              have hHeld := hHeld2
              clear hHeld2
              (try simp only [Act.put, List.setIfInBounds_toArray, List.set_cons_zero, List.set_cons_succ])
              refine wpAnyH_ready (rs := [9]) (by kernel_rfl) (by simp) ?_
              refine AllReadyH.cons (o := { dst := some 62, op := Op.call { callee := Callee.value (Operand.func 25), args := #[Operand.tmp 55, Operand.tmp 61], argTypes := #[29, 29] }, type := 29, pos := "ref.go:32", after := #[{ on := 2, ground := Ground.data }, { on := 8, ground := Ground.data }, { on := 8, ground := Ground.chain }], guard := none }) rfl (fun K hK => ?_) ?_
              · go_simp
                refine (BigAdd_any _ _ (Z * 10) (c2 - 48) _ (hM.gr (by first | with_reducible assumption | with_reducible exact IsGr.refl _ | with_reducible exact (IsGr.refl _).alloc _ | with_reducible exact ((IsGr.refl _).alloc _).alloc _ | assumption)) (hD.gr (by first | with_reducible assumption | with_reducible exact IsGr.refl _ | with_reducible exact (IsGr.refl _).alloc _ | with_reducible exact ((IsGr.refl _).alloc _).alloc _ | assumption)) sZ10 sc).mono ?_
                rintro e w5 ⟨R, rfl, hR, hg5⟩
                obtain ⟨Rs, Ra, Rn, Rc, rfl⟩ := hR.shape
                (try go_wp2_with fail)
                refine hK.out _ _ (by (try dsimp only); exact hcl _ _ hHeld (by first | with_reducible assumption | with_reducible exact IsGr.refl _ | with_reducible exact (IsGr.refl _).alloc _ | with_reducible exact ((IsGr.refl _).alloc _).alloc _ | assumption)) (fun hHeld2 => ?_)
                clear hK K hHeld
                have hHeld := hHeld2
                clear hHeld2
                (try simp only [Act.put, List.setIfInBounds_toArray, List.set_cons_zero, List.set_cons_succ])
                refine wpAnyH_done (by kernel_rfl) ?_ _
                obtain ⟨q0, q1', q2', q3'⟩ := hcells _ hHeld
                have hg := hgr _ hHeld
                refine butLast_step (o := { dst := none, op := Op.store 29 (Operand.tmp 4) (Operand.tmp 62), type := 0, pos := "ref.go:32", after := #[{ on := 9, ground := Ground.data }, { on := 9, ground := Ground.chain }, { on := 0, ground := Ground.phase }, { on := 1, ground := Ground.phase }, { on := 2, ground := Ground.phase }, { on := 3, ground := Ground.phase }, { on := 4, ground := Ground.phase }, { on := 5, ground := Ground.phase }, { on := 6, ground := Ground.phase }, { on := 7, ground := Ground.phase }, { on := 8, ground := Ground.phase }, { on := 9, ground := Ground.phase }], guard := none }) rfl (fun K hK => ?_)
                go_simp
                refine hK.out _ _ ?_
                clear hK K
                (try simp only [Act.put, List.setIfInBounds_toArray, List.set_cons_zero, List.set_cons_succ])
                have HQ : Hid (BgB w5 w.heap.size 0 ∧ BgB w5 (w.heap.size + 1) Z ∧ Below w.heap.size w w5) := ⟨HR.out.2.1.gr hg, HR.out.2.2.1.gr hg, HR.out.2.2.2.trans (hg.below.mono HR.out.2.2.2.size)⟩
                have HM2 : Hid (BgB ((w5.setCell ⟨w.heap.size + 1, 0, none⟩ (.bool Rs)).setCell ⟨w.heap.size + 1, 1, none⟩ (.slice Ra Rn Rc)) w.heap.size 0 ∧ BgB ((w5.setCell ⟨w.heap.size + 1, 0, none⟩ (.bool Rs)).setCell ⟨w.heap.size + 1, 1, none⟩ (.slice Ra Rn Rc)) (w.heap.size + 1) (Z * 10 + (c2 - 48)) ∧ Below w.heap.size w ((w5.setCell ⟨w.heap.size + 1, 0, none⟩ (.bool Rs)).setCell ⟨w.heap.size + 1, 1, none⟩ (.slice Ra Rn Rc))) := ⟨HQ.out.2.1.other HQ.out.1 (by omega), HQ.out.2.1.put hR, below_put HQ.out.2.2 (by omega)⟩
                clear hHeld hgr hin hcl hcells q0 q1' q2' q3' c0 c1 f0 f1 hg hR hM hD hT HQ
                cases dd with
                | true =>
                  go_wp2_with fail
                  go_roundg (N - (k + 1))
                  case measure => have := HI.out; omega
                  case rel => exact ⟨i + 1, k + 1, _, true, ee - 1, ⟨by have := HI.out; omega, by omega⟩, by simp, rfl, rfl, HN.out, HM2.out⟩
                | false =>
                  go_wp2_with fail
                  go_roundg (N - (k + 1))
                  case measure => have := HI.out; omega
                  case rel => exact ⟨i + 1, k + 1, _, false, ee, ⟨by have := HI.out; omega, by omega⟩, by simp, rfl, rfl, HN.out, HM2.out⟩
              exact AllReadyH.nil
            exact AllReadyH.nil
          exact AllReadyH.nil
        exact AllReadyH.nil
    · have HB : Hid (0 ≤ D ∧ D < 10 ^ N) := by
        have := mst_bound HM.out.2
        rw [HM.out.1, HS.out.2.2.2.2.1] at this
        exact ⟨this.1, this.2.1⟩
      have hkN : k = N := by have := HI.out; omega
      have hst := HR.out.1
      rw [hkN, List.take_of_length_le (by have := HS.out; omega), HM.out.1] at hst
      simp only [Prod.mk.injEq] at hst
      obtain ⟨rfl, rfl, hee⟩ := hst
      have HEE : Hid (ee = -((L2 : Nat) : Int) ∧ L2 ≤ 60) := ⟨hee.symm, by have h1 := mst_bound HM.out.2; rw [HM.out.1, HS.out.2.2.2.2.1] at h1; have h2 := HS.out; simp only at h1; omega⟩
      have HI2 : Hid (i = 1 + N) := by have := HI.out; show _ = _; omega
      have HW : Hid (BgB wr w.heap.size 0 ∧ BgB wr (w.heap.size + 1) D ∧ Below w.heap.size w wr) := HR.out.2
      clear hkN hee HR HI hk
      rcases HP.out.1 with ⟨hep2, hp0⟩ | ⟨e0, es, l3, he, hep2, hne3, hd3, hes⟩
      · have hi' : ¬ (i : Int) < s.size := by have h1 := HS.out; rw [hep2, List.length_nil] at h1; have h2 := HI2.out; omega
        have HE : Hid (ee = p - (L2 : Nat)) := by show _ = _; rw [HEE.out.1, hp0]; omega
        clear hep2 hp0
        obtain ⟨zs, za, zn, zc, hzb, hzB⟩ := HW.out.2.1
        obtain ⟨c0, c1, f0, f1⟩ := block_two hzb
        obtain ⟨r0s, r0a, r0n, r0c, hrb, hrB⟩ := HW.out.1
        obtain ⟨d0, d1, g0, g1⟩ := block_two hrb
        have HF : Hid (IsBig ((wr.setCell ⟨w.heap.size, 0, none⟩ (.bool zs)).setCell ⟨w.heap.size, 1, none⟩ (.slice za zn zc)) (.agg #[.bool zs, .slice za zn zc]) D ∧ IsGr w ((wr.setCell ⟨w.heap.size, 0, none⟩ (.bool zs)).setCell ⟨w.heap.size, 1, none⟩ (.slice za zn zc))) := ⟨hzB.stored hrb _ _, IsGr.of_below (below_put HW.out.2.2 (Nat.le_refl _))⟩
        obtain ⟨y0, y1, -, -⟩ := block_two (put_two (s' := zs) (a' := za) (n' := zn) (c' := zc) hrb)
        have HY : Hid (_ ∧ _) := And.intro y0 y1
        clear hzb hzB hrb hrB y0 y1
        go_wp2_with fail
        obtain ⟨y0, y1⟩ := HY.out
        exact bodyPost_ret (v := .tuple #[.agg #[.bool zs, .slice za zn zc], .int .i64 (ee)]) (by simp [results, Tryd.results11, go_sem, y0, y1]) rfl ⟨_, by rw [HE.out], HF.out.1, HF.out.2⟩

      · have hi : i < s.size := by have h1 := HS.out; rw [hep2, List.length_cons] at h1; have h2 := HI2.out; omega
        have hat2 := bts_at hi
        obtain ⟨c2, hc2⟩ : ∃ c : Int, ((s[i]'hi).toNat : Int) = c := ⟨_, rfl⟩
        rw [hc2] at hat2
        have hce : c2 = e0 := by
          rw [← hat2, HS.out.1, hep2, show i = sg.length + mt.length by have := HS.out; have := HI2.out; omega]
          exact getD_end
        subst hce
        have hi' : (i : Int) < s.size := by omega
        have hi0 : (0 : Int) ≤ i := by omega
        clear hat2
        go_upto_region 9 with fail
        go_cut [48] from 33 to 67 (fun t48 wx => t48 = .bool false ∧ wx = wr)
        case first =>
          rcases he with rfl | rfl
          · go_wp2_with fail
            go_meet
            exact ⟨rfl, rfl⟩
          · go_wp2_with fail
            go_meet
            exact ⟨rfl, rfl⟩
        case rest =>
          obtain ⟨rfl, hw9⟩ := hcut
          obtain rfl := hw9.symm
          rcases hes with ⟨rfl | rfl, hp⟩ | ⟨rfl, hp⟩
          · have HPW : Hid (p = dvl l3) := hp
            clear hp
            have hsp : bts s = (sg ++ (mt ++ [c2])) ++ (l3 ++ []) := by rw [HS.out.1, hep2]; simp
            have hln : (sg ++ (mt ++ [c2])).length = i + 1 + 0 := by simp; have := HS.out; have := HI2.out; omega
            obtain ⟨n3, hn3⟩ : ∃ n, l3.length = n := ⟨_, rfl⟩
            have HL3 : Hid (l3.length = n3 ∧ Dgs l3 ∧ n3 ≤ 16 ∧ (∀ m, m < n3 → (bts s).getD (i + 1 + 0 + m) 0 = l3.getD m 0) ∧ s.size = i + 1 + 0 + n3) := ⟨hn3, hd3, by have := HP.out.2; rw [hep2] at this; simp at this; omega, fun m hm => by rw [hsp, ← hln]; exact getD_mid (by omega), by have := bts_pos hsp; rw [hln, hn3] at this; simpa using this⟩
            have h3p : 0 < n3 := by
              rw [← hn3]
              exact List.length_pos_iff.2 hne3
            have hi1 : i + 1 < s.size := by have := HL3.out.2.2.2.2; omega
            have hat5 := bts_at hi1
            obtain ⟨c5, hc5⟩ : ∃ c : Int, ((s[i + 1]'hi1).toNat : Int) = c := ⟨_, rfl⟩
            rw [hc5] at hat5
            have hi1' : (i : Int) + 1 < s.size := by omega
            have hi10 : (0 : Int) ≤ (i : Int) + 1 := by omega
            have hto : ((i : Int) + 1).toNat = i + 1 := by omega
            have e1 : IntKind.i64.wrap ((i : Int) + 1) = (i : Int) + 1 := by rw [IntKind.wrap_i64]; have := HS.out; omega
            have e2 : IntKind.i64.wrap ((i : Int) + 1 + 1) = (i : Int) + 1 + 1 := by rw [IntKind.wrap_i64]; have := HS.out; omega

            have hc6 : (c5 == 43) = false ∧ (c5 == 45) = false := by
              have h6 := HL3.out.2.2.2.1 0 h3p
              rw [Nat.add_zero, Nat.add_zero, hat5] at h6
              have := dg_range (HL3.out.2.1 c5 (by rw [h6, List.getD_eq_getElem?_getD, List.getElem?_eq_getElem (by omega)]; simp))
              simp; omega
            obtain ⟨q5, q6⟩ := hc6
            clear hsp hln hn3 hat5 h3p hep2

            have hl3 := HL3.out.1
            go_wp2_with fail
            go_loopg [7, 10] n3 (fun r p7 p10 wx => wx = wr ∧ ∃ (j m : Nat) (P : Int), (j = (i + 1 + 0) + m ∧ m + r = n3) ∧ p7 = .int .i64 j ∧ p10 = .int .i64 P ∧ Hid (P = dvl (l3.take m)))
            case atStart => exact ⟨rfl, (i + 1 + 0), 0, 0, by omega, by simp, rfl, rfl⟩
            case round =>
              obtain ⟨hww, j, m, P, hj, rfl, rfl, HPm⟩ := hrel
              obtain rfl := hww.symm
              have HJ : Hid (j = (i + 1 + 0) + m ∧ m + _ = n3) := hj
              clear hj
              have hpb := dvl_bound (HL3.out.2.1.take m)
              rw [← HPm.out] at hpb
              have hpm := pow_le_pow' (by decide : (1 : Int) ≤ 10) (show (l3.take m).length ≤ 16 by rw [List.length_take]; have := HL3.out.2.2.1; omega)
              by_cases hm : m < n3
              · have hjs : j < s.size := by have := HJ.out; have := HL3.out.2.2.2.2; omega
                have hat3 := bts_at hjs
                obtain ⟨c4, hc4⟩ : ∃ c : Int, ((s[j]'hjs).toNat : Int) = c := ⟨_, rfl⟩
                rw [hc4] at hat3
                have hm4 : l3.getD m 0 = c4 := by rw [← hat3, HJ.out.1]; exact (HL3.out.2.2.2.1 m (by omega)).symm
                have hd4 := dg_range (HL3.out.2.1 c4 (by rw [← hm4, List.getD_eq_getElem?_getD, List.getElem?_eq_getElem (by omega)]; simp))
                have HN4 : Hid (P * 10 + (c4 - 48) = dvl (l3.take (m + 1))) := by show _ = _; rw [takeS (by omega), dvl_snoc, hm4, ← HPm.out]
                have hjs' : (j : Int) < s.size := by omega
                have hj0 : (0 : Int) ≤ j := by omega
                have w1 : IntKind.i64.wrap ((j : Int) + 1) = (j : Int) + 1 := by rw [IntKind.wrap_i64]; have := HS.out; omega
                have w2 : IntKind.u8.wrap (c4 - 48) = c4 - 48 := by rw [IntKind.wrap_u8]; omega
                have w3 : IntKind.i64.wrap (c4 - 48) = c4 - 48 := by rw [IntKind.wrap_i64]; omega
                have w4 : IntKind.i64.wrap (P * 10) = P * 10 := by rw [IntKind.wrap_i64]; omega
                have w5 : IntKind.i64.wrap (P * 10 + (c4 - 48)) = P * 10 + (c4 - 48) := by rw [IntKind.wrap_i64]; omega
                clear hat3 hm4 hd4 hpb hpm hl3
                go_wp2_with fail
                go_roundg (n3 - (m + 1))
                case measure => have := HJ.out; omega
                case rel => exact ⟨rfl, j + 1, m + 1, _, ⟨by have := HJ.out; omega, by omega⟩, by simp, rfl, HN4.out⟩
              · have hjs' : ¬ (j : Int) < s.size := by have := HJ.out; have := HL3.out.2.2.2.2; omega
                have HPV : Hid (P = dvl l3) := by show _ = _; rw [HPm.out, List.take_of_length_le (by omega)]
                have w1 : IntKind.i64.wrap (ee + P) = ee + P := by rw [IntKind.wrap_i64]; have := HS.out; have := HEE.out; omega
                have HE : Hid (ee + P = p - (L2 : Nat)) := by
                  show _ = _
                  rw [HEE.out.1, HPW.out, HPV.out]; omega
                clear hpb hpm hl3 hm
                obtain ⟨zs, za, zn, zc, hzb, hzB⟩ := HW.out.2.1
                obtain ⟨c0, c1, f0, f1⟩ := block_two hzb
                obtain ⟨r0s, r0a, r0n, r0c, hrb, hrB⟩ := HW.out.1
                obtain ⟨d0, d1, g0, g1⟩ := block_two hrb
                have HF : Hid (IsBig ((wr.setCell ⟨w.heap.size, 0, none⟩ (.bool zs)).setCell ⟨w.heap.size, 1, none⟩ (.slice za zn zc)) (.agg #[.bool zs, .slice za zn zc]) D ∧ IsGr w ((wr.setCell ⟨w.heap.size, 0, none⟩ (.bool zs)).setCell ⟨w.heap.size, 1, none⟩ (.slice za zn zc))) := ⟨hzB.stored hrb _ _, IsGr.of_below (below_put HW.out.2.2 (Nat.le_refl _))⟩
                obtain ⟨y0, y1, -, -⟩ := block_two (put_two (s' := zs) (a' := za) (n' := zn) (c' := zc) hrb)
                have HY : Hid (_ ∧ _) := And.intro y0 y1
                clear hzb hzB hrb hrB y0 y1
                go_wp2_with fail
                obtain ⟨y0, y1⟩ := HY.out
                exact bodyPost_ret (v := .tuple #[.agg #[.bool zs, .slice za zn zc], .int .i64 (ee + P)]) (by simp [results, Tryd.results11, go_sem, y0, y1]) rfl ⟨_, by rw [HE.out], HF.out.1, HF.out.2⟩
          · have HPW : Hid (p = dvl l3) := hp
            clear hp
            have hsp : bts s = (sg ++ (mt ++ [c2, 43])) ++ (l3 ++ []) := by rw [HS.out.1, hep2]; simp
            have hln : (sg ++ (mt ++ [c2, 43])).length = i + 1 + 1 := by simp; have := HS.out; have := HI2.out; omega
            obtain ⟨n3, hn3⟩ : ∃ n, l3.length = n := ⟨_, rfl⟩
            have HL3 : Hid (l3.length = n3 ∧ Dgs l3 ∧ n3 ≤ 16 ∧ (∀ m, m < n3 → (bts s).getD (i + 1 + 1 + m) 0 = l3.getD m 0) ∧ s.size = i + 1 + 1 + n3) := ⟨hn3, hd3, by have := HP.out.2; rw [hep2] at this; simp at this; omega, fun m hm => by rw [hsp, ← hln]; exact getD_mid (by omega), by have := bts_pos hsp; rw [hln, hn3] at this; simpa using this⟩
            have h3p : 0 < n3 := by
              rw [← hn3]
              exact List.length_pos_iff.2 hne3
            have hi1 : i + 1 < s.size := by have := HL3.out.2.2.2.2; omega
            have hat5 := bts_at hi1
            obtain ⟨c5, hc5⟩ : ∃ c : Int, ((s[i + 1]'hi1).toNat : Int) = c := ⟨_, rfl⟩
            rw [hc5] at hat5
            have hi1' : (i : Int) + 1 < s.size := by omega
            have hi10 : (0 : Int) ≤ (i : Int) + 1 := by omega
            have hto : ((i : Int) + 1).toNat = i + 1 := by omega
            have e1 : IntKind.i64.wrap ((i : Int) + 1) = (i : Int) + 1 := by rw [IntKind.wrap_i64]; have := HS.out; omega
            have e2 : IntKind.i64.wrap ((i : Int) + 1 + 1) = (i : Int) + 1 + 1 := by rw [IntKind.wrap_i64]; have := HS.out; omega

            have hc6 : c5 = 43 := by
              rw [← hat5, HS.out.1, hep2]
              have := getD_mid (a := sg ++ (mt ++ [c2])) (m := [(43 : Int)]) (r := l3) (k := 0) (by simp)
              simp only [List.append_assoc, List.length_append, List.length_cons, List.length_nil, List.cons_append, List.nil_append, Nat.add_zero] at this
              rw [show i + 1 = sg.length + (mt.length + (0 + 1)) by have := HS.out; have := HI2.out; omega]
              exact this
            subst hc6
            clear hsp hln hn3 hat5 h3p hep2

            have hl3 := HL3.out.1
            go_wp2_with fail
            go_loopg [7, 10] n3 (fun r p7 p10 wx => wx = wr ∧ ∃ (j m : Nat) (P : Int), (j = (i + 1 + 1) + m ∧ m + r = n3) ∧ p7 = .int .i64 j ∧ p10 = .int .i64 P ∧ Hid (P = dvl (l3.take m)))
            case atStart => exact ⟨rfl, (i + 1 + 1), 0, 0, by omega, by simp, rfl, rfl⟩
            case round =>
              obtain ⟨hww, j, m, P, hj, rfl, rfl, HPm⟩ := hrel
              obtain rfl := hww.symm
              have HJ : Hid (j = (i + 1 + 1) + m ∧ m + _ = n3) := hj
              clear hj
              have hpb := dvl_bound (HL3.out.2.1.take m)
              rw [← HPm.out] at hpb
              have hpm := pow_le_pow' (by decide : (1 : Int) ≤ 10) (show (l3.take m).length ≤ 16 by rw [List.length_take]; have := HL3.out.2.2.1; omega)
              by_cases hm : m < n3
              · have hjs : j < s.size := by have := HJ.out; have := HL3.out.2.2.2.2; omega
                have hat3 := bts_at hjs
                obtain ⟨c4, hc4⟩ : ∃ c : Int, ((s[j]'hjs).toNat : Int) = c := ⟨_, rfl⟩
                rw [hc4] at hat3
                have hm4 : l3.getD m 0 = c4 := by rw [← hat3, HJ.out.1]; exact (HL3.out.2.2.2.1 m (by omega)).symm
                have hd4 := dg_range (HL3.out.2.1 c4 (by rw [← hm4, List.getD_eq_getElem?_getD, List.getElem?_eq_getElem (by omega)]; simp))
                have HN4 : Hid (P * 10 + (c4 - 48) = dvl (l3.take (m + 1))) := by show _ = _; rw [takeS (by omega), dvl_snoc, hm4, ← HPm.out]
                have hjs' : (j : Int) < s.size := by omega
                have hj0 : (0 : Int) ≤ j := by omega
                have w1 : IntKind.i64.wrap ((j : Int) + 1) = (j : Int) + 1 := by rw [IntKind.wrap_i64]; have := HS.out; omega
                have w2 : IntKind.u8.wrap (c4 - 48) = c4 - 48 := by rw [IntKind.wrap_u8]; omega
                have w3 : IntKind.i64.wrap (c4 - 48) = c4 - 48 := by rw [IntKind.wrap_i64]; omega
                have w4 : IntKind.i64.wrap (P * 10) = P * 10 := by rw [IntKind.wrap_i64]; omega
                have w5 : IntKind.i64.wrap (P * 10 + (c4 - 48)) = P * 10 + (c4 - 48) := by rw [IntKind.wrap_i64]; omega
                clear hat3 hm4 hd4 hpb hpm hl3
                go_wp2_with fail
                go_roundg (n3 - (m + 1))
                case measure => have := HJ.out; omega
                case rel => exact ⟨rfl, j + 1, m + 1, _, ⟨by have := HJ.out; omega, by omega⟩, by simp, rfl, HN4.out⟩
              · have hjs' : ¬ (j : Int) < s.size := by have := HJ.out; have := HL3.out.2.2.2.2; omega
                have HPV : Hid (P = dvl l3) := by show _ = _; rw [HPm.out, List.take_of_length_le (by omega)]
                have w1 : IntKind.i64.wrap (ee + P) = ee + P := by rw [IntKind.wrap_i64]; have := HS.out; have := HEE.out; omega
                have HE : Hid (ee + P = p - (L2 : Nat)) := by
                  show _ = _
                  rw [HEE.out.1, HPW.out, HPV.out]; omega
                clear hpb hpm hl3 hm
                obtain ⟨zs, za, zn, zc, hzb, hzB⟩ := HW.out.2.1
                obtain ⟨c0, c1, f0, f1⟩ := block_two hzb
                obtain ⟨r0s, r0a, r0n, r0c, hrb, hrB⟩ := HW.out.1
                obtain ⟨d0, d1, g0, g1⟩ := block_two hrb
                have HF : Hid (IsBig ((wr.setCell ⟨w.heap.size, 0, none⟩ (.bool zs)).setCell ⟨w.heap.size, 1, none⟩ (.slice za zn zc)) (.agg #[.bool zs, .slice za zn zc]) D ∧ IsGr w ((wr.setCell ⟨w.heap.size, 0, none⟩ (.bool zs)).setCell ⟨w.heap.size, 1, none⟩ (.slice za zn zc))) := ⟨hzB.stored hrb _ _, IsGr.of_below (below_put HW.out.2.2 (Nat.le_refl _))⟩
                obtain ⟨y0, y1, -, -⟩ := block_two (put_two (s' := zs) (a' := za) (n' := zn) (c' := zc) hrb)
                have HY : Hid (_ ∧ _) := And.intro y0 y1
                clear hzb hzB hrb hrB y0 y1
                go_wp2_with fail
                obtain ⟨y0, y1⟩ := HY.out
                exact bodyPost_ret (v := .tuple #[.agg #[.bool zs, .slice za zn zc], .int .i64 (ee + P)]) (by simp [results, Tryd.results11, go_sem, y0, y1]) rfl ⟨_, by rw [HE.out], HF.out.1, HF.out.2⟩
          · have HPW : Hid (p = -dvl l3) := hp
            clear hp
            have hsp : bts s = (sg ++ (mt ++ [c2, 45])) ++ (l3 ++ []) := by rw [HS.out.1, hep2]; simp
            have hln : (sg ++ (mt ++ [c2, 45])).length = i + 1 + 1 := by simp; have := HS.out; have := HI2.out; omega
            obtain ⟨n3, hn3⟩ : ∃ n, l3.length = n := ⟨_, rfl⟩
            have HL3 : Hid (l3.length = n3 ∧ Dgs l3 ∧ n3 ≤ 16 ∧ (∀ m, m < n3 → (bts s).getD (i + 1 + 1 + m) 0 = l3.getD m 0) ∧ s.size = i + 1 + 1 + n3) := ⟨hn3, hd3, by have := HP.out.2; rw [hep2] at this; simp at this; omega, fun m hm => by rw [hsp, ← hln]; exact getD_mid (by omega), by have := bts_pos hsp; rw [hln, hn3] at this; simpa using this⟩
            have h3p : 0 < n3 := by
              rw [← hn3]
              exact List.length_pos_iff.2 hne3
            have hi1 : i + 1 < s.size := by have := HL3.out.2.2.2.2; omega
            have hat5 := bts_at hi1
            obtain ⟨c5, hc5⟩ : ∃ c : Int, ((s[i + 1]'hi1).toNat : Int) = c := ⟨_, rfl⟩
            rw [hc5] at hat5
            have hi1' : (i : Int) + 1 < s.size := by omega
            have hi10 : (0 : Int) ≤ (i : Int) + 1 := by omega
            have hto : ((i : Int) + 1).toNat = i + 1 := by omega
            have e1 : IntKind.i64.wrap ((i : Int) + 1) = (i : Int) + 1 := by rw [IntKind.wrap_i64]; have := HS.out; omega
            have e2 : IntKind.i64.wrap ((i : Int) + 1 + 1) = (i : Int) + 1 + 1 := by rw [IntKind.wrap_i64]; have := HS.out; omega

            have hc6 : c5 = 45 := by
              rw [← hat5, HS.out.1, hep2]
              have := getD_mid (a := sg ++ (mt ++ [c2])) (m := [(45 : Int)]) (r := l3) (k := 0) (by simp)
              simp only [List.append_assoc, List.length_append, List.length_cons, List.length_nil, List.cons_append, List.nil_append, Nat.add_zero] at this
              rw [show i + 1 = sg.length + (mt.length + (0 + 1)) by have := HS.out; have := HI2.out; omega]
              exact this
            subst hc6
            clear hsp hln hn3 hat5 h3p hep2

            have hl3 := HL3.out.1
            go_wp2_with fail
            go_loopg [7, 10] n3 (fun r p7 p10 wx => wx = wr ∧ ∃ (j m : Nat) (P : Int), (j = (i + 1 + 1) + m ∧ m + r = n3) ∧ p7 = .int .i64 j ∧ p10 = .int .i64 P ∧ Hid (P = dvl (l3.take m)))
            case atStart => exact ⟨rfl, (i + 1 + 1), 0, 0, by omega, by simp, rfl, rfl⟩
            case round =>
              obtain ⟨hww, j, m, P, hj, rfl, rfl, HPm⟩ := hrel
              obtain rfl := hww.symm
              have HJ : Hid (j = (i + 1 + 1) + m ∧ m + _ = n3) := hj
              clear hj
              have hpb := dvl_bound (HL3.out.2.1.take m)
              rw [← HPm.out] at hpb
              have hpm := pow_le_pow' (by decide : (1 : Int) ≤ 10) (show (l3.take m).length ≤ 16 by rw [List.length_take]; have := HL3.out.2.2.1; omega)
              by_cases hm : m < n3
              · have hjs : j < s.size := by have := HJ.out; have := HL3.out.2.2.2.2; omega
                have hat3 := bts_at hjs
                obtain ⟨c4, hc4⟩ : ∃ c : Int, ((s[j]'hjs).toNat : Int) = c := ⟨_, rfl⟩
                rw [hc4] at hat3
                have hm4 : l3.getD m 0 = c4 := by rw [← hat3, HJ.out.1]; exact (HL3.out.2.2.2.1 m (by omega)).symm
                have hd4 := dg_range (HL3.out.2.1 c4 (by rw [← hm4, List.getD_eq_getElem?_getD, List.getElem?_eq_getElem (by omega)]; simp))
                have HN4 : Hid (P * 10 + (c4 - 48) = dvl (l3.take (m + 1))) := by show _ = _; rw [takeS (by omega), dvl_snoc, hm4, ← HPm.out]
                have hjs' : (j : Int) < s.size := by omega
                have hj0 : (0 : Int) ≤ j := by omega
                have w1 : IntKind.i64.wrap ((j : Int) + 1) = (j : Int) + 1 := by rw [IntKind.wrap_i64]; have := HS.out; omega
                have w2 : IntKind.u8.wrap (c4 - 48) = c4 - 48 := by rw [IntKind.wrap_u8]; omega
                have w3 : IntKind.i64.wrap (c4 - 48) = c4 - 48 := by rw [IntKind.wrap_i64]; omega
                have w4 : IntKind.i64.wrap (P * 10) = P * 10 := by rw [IntKind.wrap_i64]; omega
                have w5 : IntKind.i64.wrap (P * 10 + (c4 - 48)) = P * 10 + (c4 - 48) := by rw [IntKind.wrap_i64]; omega
                clear hat3 hm4 hd4 hpb hpm hl3
                go_wp2_with fail
                go_roundg (n3 - (m + 1))
                case measure => have := HJ.out; omega
                case rel => exact ⟨rfl, j + 1, m + 1, _, ⟨by have := HJ.out; omega, by omega⟩, by simp, rfl, HN4.out⟩
              · have hjs' : ¬ (j : Int) < s.size := by have := HJ.out; have := HL3.out.2.2.2.2; omega
                have HPV : Hid (P = dvl l3) := by show _ = _; rw [HPm.out, List.take_of_length_le (by omega)]
                have w1 : IntKind.i64.wrap (ee + -P) = ee + -P := by rw [IntKind.wrap_i64]; have := HS.out; have := HEE.out; omega
                have w2 : IntKind.i64.wrap (-P) = -P := by rw [IntKind.wrap_i64]; omega
                have HE : Hid (ee + -P = p - (L2 : Nat)) := by
                  show _ = _
                  rw [HEE.out.1, HPW.out, HPV.out]; omega
                clear hpb hpm hl3 hm
                obtain ⟨zs, za, zn, zc, hzb, hzB⟩ := HW.out.2.1
                obtain ⟨c0, c1, f0, f1⟩ := block_two hzb
                obtain ⟨r0s, r0a, r0n, r0c, hrb, hrB⟩ := HW.out.1
                obtain ⟨d0, d1, g0, g1⟩ := block_two hrb
                have HF : Hid (IsBig ((wr.setCell ⟨w.heap.size, 0, none⟩ (.bool zs)).setCell ⟨w.heap.size, 1, none⟩ (.slice za zn zc)) (.agg #[.bool zs, .slice za zn zc]) D ∧ IsGr w ((wr.setCell ⟨w.heap.size, 0, none⟩ (.bool zs)).setCell ⟨w.heap.size, 1, none⟩ (.slice za zn zc))) := ⟨hzB.stored hrb _ _, IsGr.of_below (below_put HW.out.2.2 (Nat.le_refl _))⟩
                obtain ⟨y0, y1, -, -⟩ := block_two (put_two (s' := zs) (a' := za) (n' := zn) (c' := zc) hrb)
                have HY : Hid (_ ∧ _) := And.intro y0 y1
                clear hzb hzB hrb hrB y0 y1
                go_wp2_with fail
                obtain ⟨y0, y1⟩ := HY.out
                exact bodyPost_ret (v := .tuple #[.agg #[.bool zs, .slice za zn zc], .int .i64 (ee + -P)]) (by simp [results, Tryd.results11, go_sem, y0, y1]) rfl ⟨_, by rw [HE.out], HF.out.1, HF.out.2⟩

set_option maxRecDepth 20000 in set_option maxHeartbeats 2000000 in
theorem Number_2 (s : ByteArray) (w : World) (neg : Bool) (sg l1 dt l2 ep : List Int) (p : Int) (h : Spl (bts s) neg sg l1 dt l2 ep p) (hs : s.size ≤ 60) (hep : ep.length ≤ 17) (hq : sg = [45] ∧ neg = true) :
    Calls Tryd.prog 11 #[.string s] w fun e w' => ∃ v, e = .returned (.tuple #[v, .int .i64 (p - (l2.length : Nat))]) ∧ IsBig w' v (sgI neg (dvl (l1 ++ l2))) ∧ IsGr w w' := by
  obtain ⟨hb, hsg, hd1, hdt, hd2, hsome, hpow⟩ := h
  obtain ⟨dd0, hfin⟩ := mst_all hd1 hd2 hdt
  have hdps := dps_of hd1 hd2 hdt
  obtain ⟨mt, hmt⟩ : ∃ m, l1 ++ (dt ++ l2) = m := ⟨_, rfl⟩
  have hb2 : bts s = sg ++ (mt ++ ep) := by rw [hb, ← hmt, List.append_assoc, List.append_assoc]
  rw [hmt] at hfin hdps
  have hsz := bts_pos hb2
  obtain ⟨n0, hn0⟩ : ∃ n, sg.length = n := ⟨_, rfl⟩
  obtain ⟨N, hN⟩ : ∃ n, mt.length = n := ⟨_, rfl⟩
  obtain ⟨D, hD⟩ : ∃ d, dvl (l1 ++ l2) = d := ⟨_, rfl⟩
  obtain ⟨L2, hL2⟩ : ∃ d, l2.length = d := ⟨_, rfl⟩
  have hN0 : 0 < N := by
    rw [← hN, ← hmt]
    rcases Nat.eq_zero_or_pos (l1 ++ (dt ++ l2)).length with h | h
    · exfalso
      have := List.length_eq_zero_iff.1 h
      simp at this
      exact hsome (by rw [this.1, this.2.2]; rfl)
    · exact h
  rw [hD, hL2] at hfin
  rw [hD, hL2]
  have HS : Hid (bts s = sg ++ (mt ++ ep) ∧ s.size = n0 + N + ep.length ∧ s.size ≤ 60 ∧ sg.length = n0 ∧ mt.length = N ∧ 0 < N) := ⟨hb2, by rw [← hn0, ← hN]; exact hsz, hs, hn0, hN, hN0⟩
  have HM : Hid (mstF mt = (D, dd0, -((L2 : Nat) : Int)) ∧ Dps mt) := ⟨hfin, hdps⟩
  have HP : Hid (((ep = [] ∧ p = 0) ∨ ∃ e es l3, (e = 101 ∨ e = 69) ∧ ep = e :: (es ++ l3) ∧ l3 ≠ [] ∧ Dgs l3 ∧ (((es = [] ∨ es = [43]) ∧ p = dvl l3) ∨ (es = [45] ∧ p = - dvl l3))) ∧ ep.length ≤ 17) := ⟨hpow, hep⟩
  have CT := fun w => BigOf_any 10 (by omega) (by omega) w
  clear hb hd1 hd2 hdt hsome hpow hfin hdps hb2 hsz hs hep hn0 hN hD hL2 hN0 hmt hsg
  have hR0 := BgB.new (IsBig.zero w)
  have hX0 := BgB.new (IsBig.zero (w.alloc (.cells #[.bool false, .slice none 0 0] 29)))
  simp only [World.size_alloc] at hX0
  have hR1 := hR0.gr ((IsGr.refl (w.alloc (.cells #[.bool false, .slice none 0 0] 29))).alloc (.cells #[.bool false, .slice none 0 0] 29))
  have hBl := (((IsGr.refl w).alloc (.cells #[.bool false, .slice none 0 0] 29)).alloc (.cells #[.bool false, .slice none 0 0] 29)).below
  have H0 : Hid (BgB ((w.alloc (.cells #[.bool false, .slice none 0 0] 29)).alloc (.cells #[.bool false, .slice none 0 0] 29)) w.heap.size 0 ∧ BgB ((w.alloc (.cells #[.bool false, .slice none 0 0] 29)).alloc (.cells #[.bool false, .slice none 0 0] 29)) (w.heap.size + 1) 0 ∧ Below w.heap.size w ((w.alloc (.cells #[.bool false, .slice none 0 0] 29)).alloc (.cells #[.bool false, .slice none 0 0] 29))) := ⟨hR1, hX0, hBl⟩
  clear hR0 hX0 hR1 hBl
  go_enter Tryd.func11, Tryd.ntmps11
  have hs0 : 0 < s.size := by have := HS.out; omega
  have hat := bts_at hs0
  obtain ⟨c, hc⟩ : ∃ c : Int, ((s[0]'hs0).toNat : Int) = c := ⟨_, rfl⟩
  rw [hc] at hat
  have hs0' : (0 : Int) < s.size := by omega
  obtain ⟨h1, h2⟩ := hq
  have hc2 : c = 45 := by rw [← hat, HS.out.1, h1]; rfl
  subst hc2
  obtain rfl := h2
  obtain rfl : n0 = 1 := by have := HS.out.2.2.2.1; rw [h1] at this; exact this.symm
  clear hat h1
  go_wp2_with fail
  obtain ⟨wA, hwA⟩ : ∃ W, ((w.alloc (.cells #[.bool false, .slice none 0 0] 29)).alloc (.cells #[.bool false, .slice none 0 0] 29)) = W := ⟨_, rfl⟩
  rw [hwA] at H0 ⊢
  clear hwA
  go_loopg [5, 7, 8] N (fun r p5 p7 p8 wr => ∃ (i k : Nat) (Z : Int) (dd : Bool) (ee : Int), (i = 1 + k ∧ k + r = N) ∧ p7 = .int .i64 i ∧ p8 = .bool dd ∧ p5 = .int .i64 ee ∧ Hid (mstF (mt.take k) = (Z, dd, ee) ∧ BgB wr w.heap.size 0 ∧ BgB wr (w.heap.size + 1) Z ∧ Below w.heap.size w wr))
  case atStart => exact ⟨1, 0, 0, false, 0, by omega, by simp, rfl, rfl, rfl, H0.out⟩
  case round =>
    obtain ⟨i, k, Z, dd, ee, hik, rfl, rfl, rfl, HR⟩ := hrel
    have HI : Hid (i = 1 + k ∧ k + _ = N) := hik
    clear hik
    by_cases hk : k < N
    · have hi : i < s.size := by have := HS.out; have := HI.out; omega
      have hat2 := bts_at hi
      obtain ⟨c2, hc2⟩ : ∃ c : Int, ((s[i]'hi).toNat : Int) = c := ⟨_, rfl⟩
      rw [hc2] at hat2
      have hm : mt.getD k 0 = c2 := by
        rw [← hat2, HS.out.1, HI.out.1, ← HS.out.2.2.2.1]
        exact (getD_mid (by rw [HS.out.2.2.2.2.1]; exact hk)).symm
      have hdc := HM.out.2 c2 (by rw [← hm, List.getD_eq_getElem?_getD, List.getElem?_eq_getElem (by have := HS.out; omega)]; simp)
      have HT : Hid (mstF (mt.take (k + 1)) = mstep (Z, dd, ee) c2) := by
        show _ = _
        rw [takeS (by have := HS.out; omega), mstF_snoc, hm, HR.out.1]
      have hbd := mst_take HM.out.2 (k := k) (by have := HS.out; omega)
      rw [HR.out.1] at hbd
      simp only at hbd
      have hi' : (i : Int) < s.size := by omega
      have hi0 : (0 : Int) ≤ i := by omega
      have e1 : IntKind.i64.wrap ((i : Int) + 1) = (i : Int) + 1 := by rw [IntKind.wrap_i64]; have := HS.out; omega
      clear hat2 hm
      by_cases h46 : c2 = 46
      · subst h46
        have HN : Hid (mstF (mt.take (k + 1)) = (Z, true, ee)) := HT.out.trans rfl
        clear HT hbd hdc
        go_wp2_with fail
        go_roundg (N - (k + 1))
        case measure => have := HI.out; omega
        case rel => exact ⟨i + 1, k + 1, Z, true, ee, ⟨by have := HI.out; omega, by omega⟩, by simp, rfl, rfl, HN.out, HR.out.2⟩
      · have hdr := dg_range (hdc.resolve_left h46)
        have q1 : (c2 == 46) = false := by simpa using h46
        have q2 : (c2 != 101) = true := by simp; omega
        have q3 : (c2 != 69) = true := by simp; omega
        have e2 : IntKind.u8.wrap (c2 - 48) = c2 - 48 := by rw [IntKind.wrap_u8]; omega
        have e3 : IntKind.i64.wrap (c2 - 48) = c2 - 48 := by rw [IntKind.wrap_i64]; omega
        have e4 : IntKind.i64.wrap (ee - 1) = ee - 1 := by rw [IntKind.wrap_i64]; have := HS.out; omega
        obtain ⟨sZ, sZ10⟩ := ten_60 hbd.1 hbd.2.1 (by have := HS.out; omega)
        have s10 : Sm 10 := by unfold Sm; omega
        have sc : Sm (c2 - 48) := by unfold Sm; omega
        have CD := fun w => BigOf_any (c2 - 48) (by omega) (by omega) w
        have HN : Hid (mstF (mt.take (k + 1)) = (Z * 10 + (c2 - 48), dd, if dd = true then ee - 1 else ee)) := HT.out.trans (by unfold mstep; rw [if_neg h46])
        obtain ⟨zs, za, zn, zc, hzb, hzB⟩ := HR.out.2.2.1
        obtain ⟨c0, c1, f0, f1⟩ := block_two hzb
        have HZ : Hid (IsBig wr (.agg #[.bool zs, .slice za zn zc]) Z) := hzB
        clear HT hbd hdc hdr h46 hzb hzB
        go_upto_region 12 with fail
        obtain ⟨C, hin, hcl, hcells, hgr⟩ : ∃ C : World → Prop, (∀ w', IsGr wr w' → C w') ∧ (∀ u u', C u → IsGr u u' → C u') ∧ (∀ w', C w' → (w'.cell? ⟨w.heap.size + 1, 0, none⟩ = some (.bool zs)) ∧ (w'.cell? ⟨w.heap.size + 1, 1, none⟩ = some (.slice za zn zc)) ∧ (w'.frozen? ⟨w.heap.size + 1, 0, none⟩ = false) ∧ (w'.frozen? ⟨w.heap.size + 1, 1, none⟩ = false)) ∧ (∀ w', C w' → IsGr wr w') := ⟨fun w' => IsGr wr w', fun _ h => h, fun _ _ h k => h.trans k, fun w' hg => ⟨cellk c0 hg, cellk c1 hg, frzk c0 f0 hg, frzk c1 f1 hg⟩, fun _ h => h⟩
        refine wp_region_but (S := C) (k := 10) (n := 10) (by kernel_rfl) (by kernel_rfl) (by (try dsimp only); exact hin _ (by with_reducible repeat (first | exact IsGr.refl _ | refine IsGr.gr ?_ _ _ | refine IsGr.alloc ?_ _ | refine IsGr.drew ?_ | refine IsGr.drewN ?_ _))) (fun hHeld => ?_)
        refine wpAnyH_take (i := 0) (oi := { dst := some 53, op := Op.load 29 (Operand.tmp 4), type := 29, pos := "ref.go:32", after := #[], guard := none }) (v := ?_) rfl (by kernel_rfl) (by kernel_rfl) (by kernel_rfl) (fun _ _ _ h => h) (Or.inl ⟨by rfl, ?_⟩) (by assumption) ?_
        rotate_left
        · (intro w hSw; (try dsimp only at hSw); (try have hcs := hcells w hSw); (try go_split_ands); go_simp <;> with_reducible rfl)
        (try simp only [Act.put, List.setIfInBounds_toArray, List.set_cons_zero, List.set_cons_succ])
        refine wpAnyH_take (i := 3) (oi := { dst := some 56, op := Op.move (Operand.tmp 0), type := 9, pos := "ref.go:32", after := #[], guard := none }) (v := ?_) rfl (by kernel_rfl) (by kernel_rfl) (by kernel_rfl) (fun _ _ _ h => h) (Or.inl ⟨by rfl, ?_⟩) (by assumption) ?_
        rotate_left
        · (intro w hSw; (try dsimp only at hSw); (try have hcs := hcells w hSw); (try go_split_ands); go_simp <;> with_reducible rfl)
        (try simp only [Act.put, List.setIfInBounds_toArray, List.set_cons_zero, List.set_cons_succ])
        refine wpAnyH_take (i := 4) (oi := { dst := some 57, op := Op.move (Operand.tmp 7), type := 3, pos := "ref.go:32", after := #[], guard := none }) (v := ?_) rfl (by kernel_rfl) (by kernel_rfl) (by kernel_rfl) (fun _ _ _ h => h) (Or.inl ⟨by rfl, ?_⟩) (by assumption) ?_
        rotate_left
        · (intro w hSw; (try dsimp only at hSw); (try have hcs := hcells w hSw); (try go_split_ands); go_simp <;> with_reducible rfl)
        (try simp only [Act.put, List.setIfInBounds_toArray, List.set_cons_zero, List.set_cons_succ])
        refine wpAnyH_take (i := 5) (oi := { dst := some 58, op := Op.index 9 (Operand.tmp 56) (Operand.tmp 57), type := 5, pos := "ref.go:32", after := #[{ on := 3, ground := Ground.data }, { on := 4, ground := Ground.data }], guard := none }) (v := ?_) rfl (by kernel_rfl) (by kernel_rfl) (by kernel_rfl) (fun _ _ _ h => h) (Or.inl ⟨by rfl, ?_⟩) (by assumption) ?_
        rotate_left
        · (intro w hSw; (try dsimp only at hSw); (try have hcs := hcells w hSw); (try go_split_ands); go_simp <;> with_reducible rfl)
        (try simp only [Act.put, List.setIfInBounds_toArray, List.set_cons_zero, List.set_cons_succ])
        refine wpAnyH_take (i := 6) (oi := { dst := some 59, op := Op.binOp BinOp.sub 5 (Operand.tmp 58) (Operand.const (Value.int IntKind.u8 48)) 5, type := 5, pos := "ref.go:32", after := #[{ on := 5, ground := Ground.data }], guard := none }) (v := ?_) rfl (by kernel_rfl) (by kernel_rfl) (by kernel_rfl) (fun _ _ _ h => h) (Or.inl ⟨by rfl, ?_⟩) (by assumption) ?_
        rotate_left
        · (intro w hSw; (try dsimp only at hSw); (try have hcs := hcells w hSw); (try go_split_ands); go_simp <;> with_reducible rfl)
        (try simp only [Act.put, List.setIfInBounds_toArray, List.set_cons_zero, List.set_cons_succ])
        refine wpAnyH_take (i := 7) (oi := { dst := some 60, op := Op.convert 5 3 (Operand.tmp 59), type := 3, pos := "ref.go:32", after := #[{ on := 6, ground := Ground.data }], guard := none }) (v := ?_) rfl (by kernel_rfl) (by kernel_rfl) (by kernel_rfl) (fun _ _ _ h => h) (Or.inl ⟨by rfl, ?_⟩) (by assumption) ?_
        rotate_left
        · (intro w hSw; (try dsimp only at hSw); (try have hcs := hcells w hSw); (try go_split_ands); go_simp <;> with_reducible rfl)
        (try simp only [Act.put, List.setIfInBounds_toArray, List.set_cons_zero, List.set_cons_succ])
        refine wpAnyH_ready (rs := [1]) (by kernel_rfl) (by simp) ?_
        refine AllReadyH.cons (o := { dst := some 54, op := Op.call { callee := Callee.value (Operand.func 12), args := #[Operand.const (Value.int IntKind.i64 10)], argTypes := #[3] }, type := 29, pos := "ref.go:32", after := #[], guard := none }) rfl (fun K hK => ?_) ?_
        · go_simp
          refine (CT _).mono ?_
          rintro e w2 ⟨T, rfl, hT, hg2⟩
          obtain ⟨Ts, Ta, Tn, Tc, rfl⟩ := hT.shape
          (try go_wp2_with fail)
          refine hK.out _ _ (by (try dsimp only); exact hcl _ _ hHeld (by first | with_reducible assumption | with_reducible exact IsGr.refl _ | with_reducible exact (IsGr.refl _).alloc _ | with_reducible exact ((IsGr.refl _).alloc _).alloc _ | assumption)) (fun hHeld2 => ?_)
          clear hK K hHeld
          have hHeld := hHeld2
          clear hHeld2
          (try simp only [Act.put, List.setIfInBounds_toArray, List.set_cons_zero, List.set_cons_succ])
          refine wpAnyH_ready (rs := [2]) (by kernel_rfl) (by simp) ?_
          refine AllReadyH.cons (o := { dst := some 55, op := Op.call { callee := Callee.value (Operand.func 13), args := #[Operand.tmp 53, Operand.tmp 54], argTypes := #[29, 29] }, type := 29, pos := "ref.go:32", after := #[{ on := 0, ground := Ground.data }, { on := 1, ground := Ground.data }, { on := 1, ground := Ground.chain }], guard := none }) rfl (fun K hK => ?_) ?_
          · go_simp
            refine (BigMul_any _ _ Z 10 _ (HZ.out.gr (hgr _ hHeld)) hT sZ s10).mono ?_
            rintro e w3 ⟨M, rfl, hM, hg3⟩
            obtain ⟨Ms, Ma, Mn, Mc, rfl⟩ := hM.shape
            (try go_wp2_with fail)
            refine hK.out _ _ (by (try dsimp only); exact hcl _ _ hHeld (by first | with_reducible assumption | with_reducible exact IsGr.refl _ | with_reducible exact (IsGr.refl _).alloc _ | with_reducible exact ((IsGr.refl _).alloc _).alloc _ | assumption)) (fun hHeld2 => ?_)
            clear hK K hHeld
            have hHeld := hHeld2
            clear hHeld2
            (try simp only [Act.put, List.setIfInBounds_toArray, List.set_cons_zero, List.set_cons_succ])
            refine wpAnyH_ready (rs := [8]) (by kernel_rfl) (by simp) ?_
            refine AllReadyH.cons (o := { dst := some 61, op := Op.call { callee := Callee.value (Operand.func 12), args := #[Operand.tmp 60], argTypes := #[3] }, type := 29, pos := "ref.go:32", after := #[{ on := 7, ground := Ground.data }, { on := 2, ground := Ground.chain }], guard := none }) rfl (fun K hK => ?_) ?_
            · go_simp
              refine (CD _).mono ?_
              rintro e w4 ⟨D, rfl, hD, hg4⟩
              obtain ⟨Ds, Da, Dn, Dc, rfl⟩ := hD.shape
              (try go_wp2_with fail)
              refine hK.out _ _ (by (try dsimp only); exact hcl _ _ hHeld (by first | with_reducible assumption | with_reducible exact IsGr.refl _ | with_reducible exact (IsGr.refl _).alloc _ | with_reducible exact ((IsGr.refl _).alloc _).alloc _ | assumption)) (fun hHeld2 => ?_)
              clear hK K hHeld
              have hHeld := hHeld2
              clear hHeld2
              (try simp only [Act.put, List.setIfInBounds_toArray, List.set_cons_zero, List.set_cons_succ])
              refine wpAnyH_ready (rs := [9]) (by kernel_rfl) (by simp) ?_
              refine AllReadyH.cons (o := { dst := some 62, op := Op.call { callee := Callee.value (Operand.func 25), args := #[Operand.tmp 55, Operand.tmp 61], argTypes := #[29, 29] }, type := 29, pos := "ref.go:32", after := #[{ on := 2, ground := Ground.data }, { on := 8, ground := Ground.data }, { on := 8, ground := Ground.chain }], guard := none }) rfl (fun K hK => ?_) ?_
              · go_simp
                refine (BigAdd_any _ _ (Z * 10) (c2 - 48) _ (hM.gr (by first | with_reducible assumption | with_reducible exact IsGr.refl _ | with_reducible exact (IsGr.refl _).alloc _ | with_reducible exact ((IsGr.refl _).alloc _).alloc _ | assumption)) (hD.gr (by first | with_reducible assumption | with_reducible exact IsGr.refl _ | with_reducible exact (IsGr.refl _).alloc _ | with_reducible exact ((IsGr.refl _).alloc _).alloc _ | assumption)) sZ10 sc).mono ?_
                rintro e w5 ⟨R, rfl, hR, hg5⟩
                obtain ⟨Rs, Ra, Rn, Rc, rfl⟩ := hR.shape
                (try go_wp2_with fail)
                refine hK.out _ _ (by (try dsimp only); exact hcl _ _ hHeld (by first | with_reducible assumption | with_reducible exact IsGr.refl _ | with_reducible exact (IsGr.refl _).alloc _ | with_reducible exact ((IsGr.refl _).alloc _).alloc _ | assumption)) (fun hHeld2 => ?_)
                clear hK K hHeld
                have hHeld := hHeld2
                clear hHeld2
                (try simp only [Act.put, List.setIfInBounds_toArray, List.set_cons_zero, List.set_cons_succ])
                refine wpAnyH_done (by kernel_rfl) ?_ _
                obtain ⟨q0, q1', q2', q3'⟩ := hcells _ hHeld
                have hg := hgr _ hHeld
                refine butLast_step (o := { dst := none, op := Op.store 29 (Operand.tmp 4) (Operand.tmp 62), type := 0, pos := "ref.go:32", after := #[{ on := 9, ground := Ground.data }, { on := 9, ground := Ground.chain }, { on := 0, ground := Ground.phase }, { on := 1, ground := Ground.phase }, { on := 2, ground := Ground.phase }, { on := 3, ground := Ground.phase }, { on := 4, ground := Ground.phase }, { on := 5, ground := Ground.phase }, { on := 6, ground := Ground.phase }, { on := 7, ground := Ground.phase }, { on := 8, ground := Ground.phase }, { on := 9, ground := Ground.phase }], guard := none }) rfl (fun K hK => ?_)
                go_simp
                refine hK.out _ _ ?_
                clear hK K
                (try simp only [Act.put, List.setIfInBounds_toArray, List.set_cons_zero, List.set_cons_succ])
                have HQ : Hid (BgB w5 w.heap.size 0 ∧ BgB w5 (w.heap.size + 1) Z ∧ Below w.heap.size w w5) := ⟨HR.out.2.1.gr hg, HR.out.2.2.1.gr hg, HR.out.2.2.2.trans (hg.below.mono HR.out.2.2.2.size)⟩
                have HM2 : Hid (BgB ((w5.setCell ⟨w.heap.size + 1, 0, none⟩ (.bool Rs)).setCell ⟨w.heap.size + 1, 1, none⟩ (.slice Ra Rn Rc)) w.heap.size 0 ∧ BgB ((w5.setCell ⟨w.heap.size + 1, 0, none⟩ (.bool Rs)).setCell ⟨w.heap.size + 1, 1, none⟩ (.slice Ra Rn Rc)) (w.heap.size + 1) (Z * 10 + (c2 - 48)) ∧ Below w.heap.size w ((w5.setCell ⟨w.heap.size + 1, 0, none⟩ (.bool Rs)).setCell ⟨w.heap.size + 1, 1, none⟩ (.slice Ra Rn Rc))) := ⟨HQ.out.2.1.other HQ.out.1 (by omega), HQ.out.2.1.put hR, below_put HQ.out.2.2 (by omega)⟩
                clear hHeld hgr hin hcl hcells q0 q1' q2' q3' c0 c1 f0 f1 hg hR hM hD hT HQ
                cases dd with
                | true =>
                  go_wp2_with fail
                  go_roundg (N - (k + 1))
                  case measure => have := HI.out; omega
                  case rel => exact ⟨i + 1, k + 1, _, true, ee - 1, ⟨by have := HI.out; omega, by omega⟩, by simp, rfl, rfl, HN.out, HM2.out⟩
                | false =>
                  go_wp2_with fail
                  go_roundg (N - (k + 1))
                  case measure => have := HI.out; omega
                  case rel => exact ⟨i + 1, k + 1, _, false, ee, ⟨by have := HI.out; omega, by omega⟩, by simp, rfl, rfl, HN.out, HM2.out⟩
              exact AllReadyH.nil
            exact AllReadyH.nil
          exact AllReadyH.nil
        exact AllReadyH.nil
    · have HB : Hid (0 ≤ D ∧ D < 10 ^ N) := by
        have := mst_bound HM.out.2
        rw [HM.out.1, HS.out.2.2.2.2.1] at this
        exact ⟨this.1, this.2.1⟩
      have hkN : k = N := by have := HI.out; omega
      have hst := HR.out.1
      rw [hkN, List.take_of_length_le (by have := HS.out; omega), HM.out.1] at hst
      simp only [Prod.mk.injEq] at hst
      obtain ⟨rfl, rfl, hee⟩ := hst
      have HEE : Hid (ee = -((L2 : Nat) : Int) ∧ L2 ≤ 60) := ⟨hee.symm, by have h1 := mst_bound HM.out.2; rw [HM.out.1, HS.out.2.2.2.2.1] at h1; have h2 := HS.out; simp only at h1; omega⟩
      have HI2 : Hid (i = 1 + N) := by have := HI.out; show _ = _; omega
      have HW : Hid (BgB wr w.heap.size 0 ∧ BgB wr (w.heap.size + 1) D ∧ Below w.heap.size w wr) := HR.out.2
      clear hkN hee HR HI hk
      rcases HP.out.1 with ⟨hep2, hp0⟩ | ⟨e0, es, l3, he, hep2, hne3, hd3, hes⟩
      · have hi' : ¬ (i : Int) < s.size := by have h1 := HS.out; rw [hep2, List.length_nil] at h1; have h2 := HI2.out; omega
        have HE : Hid (ee = p - (L2 : Nat)) := by show _ = _; rw [HEE.out.1, hp0]; omega
        clear hep2 hp0
        obtain ⟨zs, za, zn, zc, hzb, hzB⟩ := HW.out.2.1
        obtain ⟨c0, c1, f0, f1⟩ := block_two hzb
        have CM := Minus_any _ D wr hzB (ten_60 HB.out.1 HB.out.2 (by have := HS.out; omega)).1
        clear hzb hzB
        go_wp2_with fail
        refine CM.mono ?_
        clear CM
        rintro e wm ⟨R, rfl, hR, hgm⟩
        obtain ⟨Rs, Ra, Rn, Rc, rfl⟩ := hR.shape
        rw [Int.zero_sub] at hR
        have HW0 : Hid (BgB wm w.heap.size 0 ∧ BgB wm (w.heap.size + 1) D ∧ Below w.heap.size w wm) := ⟨HW.out.1.gr hgm, HW.out.2.1.gr hgm, HW.out.2.2.trans (hgm.below.mono HW.out.2.2.size)⟩
        have HW1 : Hid (BgB ((wm.setCell ⟨w.heap.size + 1, 0, none⟩ (.bool Rs)).setCell ⟨w.heap.size + 1, 1, none⟩ (.slice Ra Rn Rc)) w.heap.size 0 ∧ BgB ((wm.setCell ⟨w.heap.size + 1, 0, none⟩ (.bool Rs)).setCell ⟨w.heap.size + 1, 1, none⟩ (.slice Ra Rn Rc)) (w.heap.size + 1) (-D) ∧ Below w.heap.size w ((wm.setCell ⟨w.heap.size + 1, 0, none⟩ (.bool Rs)).setCell ⟨w.heap.size + 1, 1, none⟩ (.slice Ra Rn Rc))) := ⟨HW0.out.2.1.other HW0.out.1 (by omega), HW0.out.2.1.put hR, below_put HW0.out.2.2 (by omega)⟩
        have k0 := cellk c0 hgm
        have k1 := cellk c1 hgm
        have k2 := frzk c0 f0 hgm
        have k3 := frzk c1 f1 hgm
        clear c0 c1 f0 f1 hgm hR HW HW0
        go_upto_region 30 with fail
        obtain ⟨wp, hwp⟩ : ∃ W, (wm.setCell ⟨w.heap.size + 1, 0, none⟩ (.bool Rs)).setCell ⟨w.heap.size + 1, 1, none⟩ (.slice Ra Rn Rc) = W := ⟨_, rfl⟩
        rw [hwp] at HW1 ⊢
        have HW : Hid _ := HW1.out
        clear hwp k0 k1 k2 k3 HW1

        obtain ⟨zs, za, zn, zc, hzb, hzB⟩ := HW.out.2.1
        obtain ⟨c0, c1, f0, f1⟩ := block_two hzb
        obtain ⟨r0s, r0a, r0n, r0c, hrb, hrB⟩ := HW.out.1
        obtain ⟨d0, d1, g0, g1⟩ := block_two hrb
        have HF : Hid (IsBig ((wp.setCell ⟨w.heap.size, 0, none⟩ (.bool zs)).setCell ⟨w.heap.size, 1, none⟩ (.slice za zn zc)) (.agg #[.bool zs, .slice za zn zc]) (-D) ∧ IsGr w ((wp.setCell ⟨w.heap.size, 0, none⟩ (.bool zs)).setCell ⟨w.heap.size, 1, none⟩ (.slice za zn zc))) := ⟨hzB.stored hrb _ _, IsGr.of_below (below_put HW.out.2.2 (Nat.le_refl _))⟩
        obtain ⟨y0, y1, -, -⟩ := block_two (put_two (s' := zs) (a' := za) (n' := zn) (c' := zc) hrb)
        have HY : Hid (_ ∧ _) := And.intro y0 y1
        clear hzb hzB hrb hrB y0 y1
        go_wp2_with fail
        obtain ⟨y0, y1⟩ := HY.out
        exact bodyPost_ret (v := .tuple #[.agg #[.bool zs, .slice za zn zc], .int .i64 (ee)]) (by simp [results, Tryd.results11, go_sem, y0, y1]) rfl ⟨_, by rw [HE.out], HF.out.1, HF.out.2⟩

      · have hi : i < s.size := by have h1 := HS.out; rw [hep2, List.length_cons] at h1; have h2 := HI2.out; omega
        have hat2 := bts_at hi
        obtain ⟨c2, hc2⟩ : ∃ c : Int, ((s[i]'hi).toNat : Int) = c := ⟨_, rfl⟩
        rw [hc2] at hat2
        have hce : c2 = e0 := by
          rw [← hat2, HS.out.1, hep2, show i = sg.length + mt.length by have := HS.out; have := HI2.out; omega]
          exact getD_end
        subst hce
        have hi' : (i : Int) < s.size := by omega
        have hi0 : (0 : Int) ≤ i := by omega
        clear hat2
        go_upto_region 9 with fail
        go_cut [48] from 33 to 67 (fun t48 wx => t48 = .bool false ∧ wx = wr)
        case first =>
          rcases he with rfl | rfl
          · go_wp2_with fail
            go_meet
            exact ⟨rfl, rfl⟩
          · go_wp2_with fail
            go_meet
            exact ⟨rfl, rfl⟩
        case rest =>
          obtain ⟨rfl, hw9⟩ := hcut
          obtain rfl := hw9.symm
          rcases hes with ⟨rfl | rfl, hp⟩ | ⟨rfl, hp⟩
          · have HPW : Hid (p = dvl l3) := hp
            clear hp
            have hsp : bts s = (sg ++ (mt ++ [c2])) ++ (l3 ++ []) := by rw [HS.out.1, hep2]; simp
            have hln : (sg ++ (mt ++ [c2])).length = i + 1 + 0 := by simp; have := HS.out; have := HI2.out; omega
            obtain ⟨n3, hn3⟩ : ∃ n, l3.length = n := ⟨_, rfl⟩
            have HL3 : Hid (l3.length = n3 ∧ Dgs l3 ∧ n3 ≤ 16 ∧ (∀ m, m < n3 → (bts s).getD (i + 1 + 0 + m) 0 = l3.getD m 0) ∧ s.size = i + 1 + 0 + n3) := ⟨hn3, hd3, by have := HP.out.2; rw [hep2] at this; simp at this; omega, fun m hm => by rw [hsp, ← hln]; exact getD_mid (by omega), by have := bts_pos hsp; rw [hln, hn3] at this; simpa using this⟩
            have h3p : 0 < n3 := by
              rw [← hn3]
              exact List.length_pos_iff.2 hne3
            have hi1 : i + 1 < s.size := by have := HL3.out.2.2.2.2; omega
            have hat5 := bts_at hi1
            obtain ⟨c5, hc5⟩ : ∃ c : Int, ((s[i + 1]'hi1).toNat : Int) = c := ⟨_, rfl⟩
            rw [hc5] at hat5
            have hi1' : (i : Int) + 1 < s.size := by omega
            have hi10 : (0 : Int) ≤ (i : Int) + 1 := by omega
            have hto : ((i : Int) + 1).toNat = i + 1 := by omega
            have e1 : IntKind.i64.wrap ((i : Int) + 1) = (i : Int) + 1 := by rw [IntKind.wrap_i64]; have := HS.out; omega
            have e2 : IntKind.i64.wrap ((i : Int) + 1 + 1) = (i : Int) + 1 + 1 := by rw [IntKind.wrap_i64]; have := HS.out; omega

            have hc6 : (c5 == 43) = false ∧ (c5 == 45) = false := by
              have h6 := HL3.out.2.2.2.1 0 h3p
              rw [Nat.add_zero, Nat.add_zero, hat5] at h6
              have := dg_range (HL3.out.2.1 c5 (by rw [h6, List.getD_eq_getElem?_getD, List.getElem?_eq_getElem (by omega)]; simp))
              simp; omega
            obtain ⟨q5, q6⟩ := hc6
            clear hsp hln hn3 hat5 h3p hep2

            have hl3 := HL3.out.1
            go_wp2_with fail
            go_loopg [7, 10] n3 (fun r p7 p10 wx => wx = wr ∧ ∃ (j m : Nat) (P : Int), (j = (i + 1 + 0) + m ∧ m + r = n3) ∧ p7 = .int .i64 j ∧ p10 = .int .i64 P ∧ Hid (P = dvl (l3.take m)))
            case atStart => exact ⟨rfl, (i + 1 + 0), 0, 0, by omega, by simp, rfl, rfl⟩
            case round =>
              obtain ⟨hww, j, m, P, hj, rfl, rfl, HPm⟩ := hrel
              obtain rfl := hww.symm
              have HJ : Hid (j = (i + 1 + 0) + m ∧ m + _ = n3) := hj
              clear hj
              have hpb := dvl_bound (HL3.out.2.1.take m)
              rw [← HPm.out] at hpb
              have hpm := pow_le_pow' (by decide : (1 : Int) ≤ 10) (show (l3.take m).length ≤ 16 by rw [List.length_take]; have := HL3.out.2.2.1; omega)
              by_cases hm : m < n3
              · have hjs : j < s.size := by have := HJ.out; have := HL3.out.2.2.2.2; omega
                have hat3 := bts_at hjs
                obtain ⟨c4, hc4⟩ : ∃ c : Int, ((s[j]'hjs).toNat : Int) = c := ⟨_, rfl⟩
                rw [hc4] at hat3
                have hm4 : l3.getD m 0 = c4 := by rw [← hat3, HJ.out.1]; exact (HL3.out.2.2.2.1 m (by omega)).symm
                have hd4 := dg_range (HL3.out.2.1 c4 (by rw [← hm4, List.getD_eq_getElem?_getD, List.getElem?_eq_getElem (by omega)]; simp))
                have HN4 : Hid (P * 10 + (c4 - 48) = dvl (l3.take (m + 1))) := by show _ = _; rw [takeS (by omega), dvl_snoc, hm4, ← HPm.out]
                have hjs' : (j : Int) < s.size := by omega
                have hj0 : (0 : Int) ≤ j := by omega
                have w1 : IntKind.i64.wrap ((j : Int) + 1) = (j : Int) + 1 := by rw [IntKind.wrap_i64]; have := HS.out; omega
                have w2 : IntKind.u8.wrap (c4 - 48) = c4 - 48 := by rw [IntKind.wrap_u8]; omega
                have w3 : IntKind.i64.wrap (c4 - 48) = c4 - 48 := by rw [IntKind.wrap_i64]; omega
                have w4 : IntKind.i64.wrap (P * 10) = P * 10 := by rw [IntKind.wrap_i64]; omega
                have w5 : IntKind.i64.wrap (P * 10 + (c4 - 48)) = P * 10 + (c4 - 48) := by rw [IntKind.wrap_i64]; omega
                clear hat3 hm4 hd4 hpb hpm hl3
                go_wp2_with fail
                go_roundg (n3 - (m + 1))
                case measure => have := HJ.out; omega
                case rel => exact ⟨rfl, j + 1, m + 1, _, ⟨by have := HJ.out; omega, by omega⟩, by simp, rfl, HN4.out⟩
              · have hjs' : ¬ (j : Int) < s.size := by have := HJ.out; have := HL3.out.2.2.2.2; omega
                have HPV : Hid (P = dvl l3) := by show _ = _; rw [HPm.out, List.take_of_length_le (by omega)]
                have w1 : IntKind.i64.wrap (ee + P) = ee + P := by rw [IntKind.wrap_i64]; have := HS.out; have := HEE.out; omega
                have HE : Hid (ee + P = p - (L2 : Nat)) := by
                  show _ = _
                  rw [HEE.out.1, HPW.out, HPV.out]; omega
                clear hpb hpm hl3 hm
                obtain ⟨zs, za, zn, zc, hzb, hzB⟩ := HW.out.2.1
                obtain ⟨c0, c1, f0, f1⟩ := block_two hzb
                have CM := Minus_any _ D wr hzB (ten_60 HB.out.1 HB.out.2 (by have := HS.out; omega)).1
                clear hzb hzB
                go_wp2_with fail
                refine CM.mono ?_
                clear CM
                rintro e wm ⟨R, rfl, hR, hgm⟩
                obtain ⟨Rs, Ra, Rn, Rc, rfl⟩ := hR.shape
                rw [Int.zero_sub] at hR
                have HW0 : Hid (BgB wm w.heap.size 0 ∧ BgB wm (w.heap.size + 1) D ∧ Below w.heap.size w wm) := ⟨HW.out.1.gr hgm, HW.out.2.1.gr hgm, HW.out.2.2.trans (hgm.below.mono HW.out.2.2.size)⟩
                have HW1 : Hid (BgB ((wm.setCell ⟨w.heap.size + 1, 0, none⟩ (.bool Rs)).setCell ⟨w.heap.size + 1, 1, none⟩ (.slice Ra Rn Rc)) w.heap.size 0 ∧ BgB ((wm.setCell ⟨w.heap.size + 1, 0, none⟩ (.bool Rs)).setCell ⟨w.heap.size + 1, 1, none⟩ (.slice Ra Rn Rc)) (w.heap.size + 1) (-D) ∧ Below w.heap.size w ((wm.setCell ⟨w.heap.size + 1, 0, none⟩ (.bool Rs)).setCell ⟨w.heap.size + 1, 1, none⟩ (.slice Ra Rn Rc))) := ⟨HW0.out.2.1.other HW0.out.1 (by omega), HW0.out.2.1.put hR, below_put HW0.out.2.2 (by omega)⟩
                have k0 := cellk c0 hgm
                have k1 := cellk c1 hgm
                have k2 := frzk c0 f0 hgm
                have k3 := frzk c1 f1 hgm
                clear c0 c1 f0 f1 hgm hR HW HW0
                go_upto_region 30 with fail
                obtain ⟨wp, hwp⟩ : ∃ W, (wm.setCell ⟨w.heap.size + 1, 0, none⟩ (.bool Rs)).setCell ⟨w.heap.size + 1, 1, none⟩ (.slice Ra Rn Rc) = W := ⟨_, rfl⟩
                rw [hwp] at HW1 ⊢
                have HW : Hid _ := HW1.out
                clear hwp k0 k1 k2 k3 HW1

                obtain ⟨zs, za, zn, zc, hzb, hzB⟩ := HW.out.2.1
                obtain ⟨c0, c1, f0, f1⟩ := block_two hzb
                obtain ⟨r0s, r0a, r0n, r0c, hrb, hrB⟩ := HW.out.1
                obtain ⟨d0, d1, g0, g1⟩ := block_two hrb
                have HF : Hid (IsBig ((wp.setCell ⟨w.heap.size, 0, none⟩ (.bool zs)).setCell ⟨w.heap.size, 1, none⟩ (.slice za zn zc)) (.agg #[.bool zs, .slice za zn zc]) (-D) ∧ IsGr w ((wp.setCell ⟨w.heap.size, 0, none⟩ (.bool zs)).setCell ⟨w.heap.size, 1, none⟩ (.slice za zn zc))) := ⟨hzB.stored hrb _ _, IsGr.of_below (below_put HW.out.2.2 (Nat.le_refl _))⟩
                obtain ⟨y0, y1, -, -⟩ := block_two (put_two (s' := zs) (a' := za) (n' := zn) (c' := zc) hrb)
                have HY : Hid (_ ∧ _) := And.intro y0 y1
                clear hzb hzB hrb hrB y0 y1
                go_wp2_with fail
                obtain ⟨y0, y1⟩ := HY.out
                exact bodyPost_ret (v := .tuple #[.agg #[.bool zs, .slice za zn zc], .int .i64 (ee + P)]) (by simp [results, Tryd.results11, go_sem, y0, y1]) rfl ⟨_, by rw [HE.out], HF.out.1, HF.out.2⟩
          · have HPW : Hid (p = dvl l3) := hp
            clear hp
            have hsp : bts s = (sg ++ (mt ++ [c2, 43])) ++ (l3 ++ []) := by rw [HS.out.1, hep2]; simp
            have hln : (sg ++ (mt ++ [c2, 43])).length = i + 1 + 1 := by simp; have := HS.out; have := HI2.out; omega
            obtain ⟨n3, hn3⟩ : ∃ n, l3.length = n := ⟨_, rfl⟩
            have HL3 : Hid (l3.length = n3 ∧ Dgs l3 ∧ n3 ≤ 16 ∧ (∀ m, m < n3 → (bts s).getD (i + 1 + 1 + m) 0 = l3.getD m 0) ∧ s.size = i + 1 + 1 + n3) := ⟨hn3, hd3, by have := HP.out.2; rw [hep2] at this; simp at this; omega, fun m hm => by rw [hsp, ← hln]; exact getD_mid (by omega), by have := bts_pos hsp; rw [hln, hn3] at this; simpa using this⟩
            have h3p : 0 < n3 := by
              rw [← hn3]
              exact List.length_pos_iff.2 hne3
            have hi1 : i + 1 < s.size := by have := HL3.out.2.2.2.2; omega
            have hat5 := bts_at hi1
            obtain ⟨c5, hc5⟩ : ∃ c : Int, ((s[i + 1]'hi1).toNat : Int) = c := ⟨_, rfl⟩
            rw [hc5] at hat5
            have hi1' : (i : Int) + 1 < s.size := by omega
            have hi10 : (0 : Int) ≤ (i : Int) + 1 := by omega
            have hto : ((i : Int) + 1).toNat = i + 1 := by omega
            have e1 : IntKind.i64.wrap ((i : Int) + 1) = (i : Int) + 1 := by rw [IntKind.wrap_i64]; have := HS.out; omega
            have e2 : IntKind.i64.wrap ((i : Int) + 1 + 1) = (i : Int) + 1 + 1 := by rw [IntKind.wrap_i64]; have := HS.out; omega

            have hc6 : c5 = 43 := by
              rw [← hat5, HS.out.1, hep2]
              have := getD_mid (a := sg ++ (mt ++ [c2])) (m := [(43 : Int)]) (r := l3) (k := 0) (by simp)
              simp only [List.append_assoc, List.length_append, List.length_cons, List.length_nil, List.cons_append, List.nil_append, Nat.add_zero] at this
              rw [show i + 1 = sg.length + (mt.length + (0 + 1)) by have := HS.out; have := HI2.out; omega]
              exact this
            subst hc6
            clear hsp hln hn3 hat5 h3p hep2

            have hl3 := HL3.out.1
            go_wp2_with fail
            go_loopg [7, 10] n3 (fun r p7 p10 wx => wx = wr ∧ ∃ (j m : Nat) (P : Int), (j = (i + 1 + 1) + m ∧ m + r = n3) ∧ p7 = .int .i64 j ∧ p10 = .int .i64 P ∧ Hid (P = dvl (l3.take m)))
            case atStart => exact ⟨rfl, (i + 1 + 1), 0, 0, by omega, by simp, rfl, rfl⟩
            case round =>
              obtain ⟨hww, j, m, P, hj, rfl, rfl, HPm⟩ := hrel
              obtain rfl := hww.symm
              have HJ : Hid (j = (i + 1 + 1) + m ∧ m + _ = n3) := hj
              clear hj
              have hpb := dvl_bound (HL3.out.2.1.take m)
              rw [← HPm.out] at hpb
              have hpm := pow_le_pow' (by decide : (1 : Int) ≤ 10) (show (l3.take m).length ≤ 16 by rw [List.length_take]; have := HL3.out.2.2.1; omega)
              by_cases hm : m < n3
              · have hjs : j < s.size := by have := HJ.out; have := HL3.out.2.2.2.2; omega
                have hat3 := bts_at hjs
                obtain ⟨c4, hc4⟩ : ∃ c : Int, ((s[j]'hjs).toNat : Int) = c := ⟨_, rfl⟩
                rw [hc4] at hat3
                have hm4 : l3.getD m 0 = c4 := by rw [← hat3, HJ.out.1]; exact (HL3.out.2.2.2.1 m (by omega)).symm
                have hd4 := dg_range (HL3.out.2.1 c4 (by rw [← hm4, List.getD_eq_getElem?_getD, List.getElem?_eq_getElem (by omega)]; simp))
                have HN4 : Hid (P * 10 + (c4 - 48) = dvl (l3.take (m + 1))) := by show _ = _; rw [takeS (by omega), dvl_snoc, hm4, ← HPm.out]
                have hjs' : (j : Int) < s.size := by omega
                have hj0 : (0 : Int) ≤ j := by omega
                have w1 : IntKind.i64.wrap ((j : Int) + 1) = (j : Int) + 1 := by rw [IntKind.wrap_i64]; have := HS.out; omega
                have w2 : IntKind.u8.wrap (c4 - 48) = c4 - 48 := by rw [IntKind.wrap_u8]; omega
                have w3 : IntKind.i64.wrap (c4 - 48) = c4 - 48 := by rw [IntKind.wrap_i64]; omega
                have w4 : IntKind.i64.wrap (P * 10) = P * 10 := by rw [IntKind.wrap_i64]; omega
                have w5 : IntKind.i64.wrap (P * 10 + (c4 - 48)) = P * 10 + (c4 - 48) := by rw [IntKind.wrap_i64]; omega
                clear hat3 hm4 hd4 hpb hpm hl3
                go_wp2_with fail
                go_roundg (n3 - (m + 1))
                case measure => have := HJ.out; omega
                case rel => exact ⟨rfl, j + 1, m + 1, _, ⟨by have := HJ.out; omega, by omega⟩, by simp, rfl, HN4.out⟩
              · have hjs' : ¬ (j : Int) < s.size := by have := HJ.out; have := HL3.out.2.2.2.2; omega
                have HPV : Hid (P = dvl l3) := by show _ = _; rw [HPm.out, List.take_of_length_le (by omega)]
                have w1 : IntKind.i64.wrap (ee + P) = ee + P := by rw [IntKind.wrap_i64]; have := HS.out; have := HEE.out; omega
                have HE : Hid (ee + P = p - (L2 : Nat)) := by
                  show _ = _
                  rw [HEE.out.1, HPW.out, HPV.out]; omega
                clear hpb hpm hl3 hm
                obtain ⟨zs, za, zn, zc, hzb, hzB⟩ := HW.out.2.1
                obtain ⟨c0, c1, f0, f1⟩ := block_two hzb
                have CM := Minus_any _ D wr hzB (ten_60 HB.out.1 HB.out.2 (by have := HS.out; omega)).1
                clear hzb hzB
                go_wp2_with fail
                refine CM.mono ?_
                clear CM
                rintro e wm ⟨R, rfl, hR, hgm⟩
                obtain ⟨Rs, Ra, Rn, Rc, rfl⟩ := hR.shape
                rw [Int.zero_sub] at hR
                have HW0 : Hid (BgB wm w.heap.size 0 ∧ BgB wm (w.heap.size + 1) D ∧ Below w.heap.size w wm) := ⟨HW.out.1.gr hgm, HW.out.2.1.gr hgm, HW.out.2.2.trans (hgm.below.mono HW.out.2.2.size)⟩
                have HW1 : Hid (BgB ((wm.setCell ⟨w.heap.size + 1, 0, none⟩ (.bool Rs)).setCell ⟨w.heap.size + 1, 1, none⟩ (.slice Ra Rn Rc)) w.heap.size 0 ∧ BgB ((wm.setCell ⟨w.heap.size + 1, 0, none⟩ (.bool Rs)).setCell ⟨w.heap.size + 1, 1, none⟩ (.slice Ra Rn Rc)) (w.heap.size + 1) (-D) ∧ Below w.heap.size w ((wm.setCell ⟨w.heap.size + 1, 0, none⟩ (.bool Rs)).setCell ⟨w.heap.size + 1, 1, none⟩ (.slice Ra Rn Rc))) := ⟨HW0.out.2.1.other HW0.out.1 (by omega), HW0.out.2.1.put hR, below_put HW0.out.2.2 (by omega)⟩
                have k0 := cellk c0 hgm
                have k1 := cellk c1 hgm
                have k2 := frzk c0 f0 hgm
                have k3 := frzk c1 f1 hgm
                clear c0 c1 f0 f1 hgm hR HW HW0
                go_upto_region 30 with fail
                obtain ⟨wp, hwp⟩ : ∃ W, (wm.setCell ⟨w.heap.size + 1, 0, none⟩ (.bool Rs)).setCell ⟨w.heap.size + 1, 1, none⟩ (.slice Ra Rn Rc) = W := ⟨_, rfl⟩
                rw [hwp] at HW1 ⊢
                have HW : Hid _ := HW1.out
                clear hwp k0 k1 k2 k3 HW1

                obtain ⟨zs, za, zn, zc, hzb, hzB⟩ := HW.out.2.1
                obtain ⟨c0, c1, f0, f1⟩ := block_two hzb
                obtain ⟨r0s, r0a, r0n, r0c, hrb, hrB⟩ := HW.out.1
                obtain ⟨d0, d1, g0, g1⟩ := block_two hrb
                have HF : Hid (IsBig ((wp.setCell ⟨w.heap.size, 0, none⟩ (.bool zs)).setCell ⟨w.heap.size, 1, none⟩ (.slice za zn zc)) (.agg #[.bool zs, .slice za zn zc]) (-D) ∧ IsGr w ((wp.setCell ⟨w.heap.size, 0, none⟩ (.bool zs)).setCell ⟨w.heap.size, 1, none⟩ (.slice za zn zc))) := ⟨hzB.stored hrb _ _, IsGr.of_below (below_put HW.out.2.2 (Nat.le_refl _))⟩
                obtain ⟨y0, y1, -, -⟩ := block_two (put_two (s' := zs) (a' := za) (n' := zn) (c' := zc) hrb)
                have HY : Hid (_ ∧ _) := And.intro y0 y1
                clear hzb hzB hrb hrB y0 y1
                go_wp2_with fail
                obtain ⟨y0, y1⟩ := HY.out
                exact bodyPost_ret (v := .tuple #[.agg #[.bool zs, .slice za zn zc], .int .i64 (ee + P)]) (by simp [results, Tryd.results11, go_sem, y0, y1]) rfl ⟨_, by rw [HE.out], HF.out.1, HF.out.2⟩
          · have HPW : Hid (p = -dvl l3) := hp
            clear hp
            have hsp : bts s = (sg ++ (mt ++ [c2, 45])) ++ (l3 ++ []) := by rw [HS.out.1, hep2]; simp
            have hln : (sg ++ (mt ++ [c2, 45])).length = i + 1 + 1 := by simp; have := HS.out; have := HI2.out; omega
            obtain ⟨n3, hn3⟩ : ∃ n, l3.length = n := ⟨_, rfl⟩
            have HL3 : Hid (l3.length = n3 ∧ Dgs l3 ∧ n3 ≤ 16 ∧ (∀ m, m < n3 → (bts s).getD (i + 1 + 1 + m) 0 = l3.getD m 0) ∧ s.size = i + 1 + 1 + n3) := ⟨hn3, hd3, by have := HP.out.2; rw [hep2] at this; simp at this; omega, fun m hm => by rw [hsp, ← hln]; exact getD_mid (by omega), by have := bts_pos hsp; rw [hln, hn3] at this; simpa using this⟩
            have h3p : 0 < n3 := by
              rw [← hn3]
              exact List.length_pos_iff.2 hne3
            have hi1 : i + 1 < s.size := by have := HL3.out.2.2.2.2; omega
            have hat5 := bts_at hi1
            obtain ⟨c5, hc5⟩ : ∃ c : Int, ((s[i + 1]'hi1).toNat : Int) = c := ⟨_, rfl⟩
            rw [hc5] at hat5
            have hi1' : (i : Int) + 1 < s.size := by omega
            have hi10 : (0 : Int) ≤ (i : Int) + 1 := by omega
            have hto : ((i : Int) + 1).toNat = i + 1 := by omega
            have e1 : IntKind.i64.wrap ((i : Int) + 1) = (i : Int) + 1 := by rw [IntKind.wrap_i64]; have := HS.out; omega
            have e2 : IntKind.i64.wrap ((i : Int) + 1 + 1) = (i : Int) + 1 + 1 := by rw [IntKind.wrap_i64]; have := HS.out; omega

            have hc6 : c5 = 45 := by
              rw [← hat5, HS.out.1, hep2]
              have := getD_mid (a := sg ++ (mt ++ [c2])) (m := [(45 : Int)]) (r := l3) (k := 0) (by simp)
              simp only [List.append_assoc, List.length_append, List.length_cons, List.length_nil, List.cons_append, List.nil_append, Nat.add_zero] at this
              rw [show i + 1 = sg.length + (mt.length + (0 + 1)) by have := HS.out; have := HI2.out; omega]
              exact this
            subst hc6
            clear hsp hln hn3 hat5 h3p hep2

            have hl3 := HL3.out.1
            go_wp2_with fail
            go_loopg [7, 10] n3 (fun r p7 p10 wx => wx = wr ∧ ∃ (j m : Nat) (P : Int), (j = (i + 1 + 1) + m ∧ m + r = n3) ∧ p7 = .int .i64 j ∧ p10 = .int .i64 P ∧ Hid (P = dvl (l3.take m)))
            case atStart => exact ⟨rfl, (i + 1 + 1), 0, 0, by omega, by simp, rfl, rfl⟩
            case round =>
              obtain ⟨hww, j, m, P, hj, rfl, rfl, HPm⟩ := hrel
              obtain rfl := hww.symm
              have HJ : Hid (j = (i + 1 + 1) + m ∧ m + _ = n3) := hj
              clear hj
              have hpb := dvl_bound (HL3.out.2.1.take m)
              rw [← HPm.out] at hpb
              have hpm := pow_le_pow' (by decide : (1 : Int) ≤ 10) (show (l3.take m).length ≤ 16 by rw [List.length_take]; have := HL3.out.2.2.1; omega)
              by_cases hm : m < n3
              · have hjs : j < s.size := by have := HJ.out; have := HL3.out.2.2.2.2; omega
                have hat3 := bts_at hjs
                obtain ⟨c4, hc4⟩ : ∃ c : Int, ((s[j]'hjs).toNat : Int) = c := ⟨_, rfl⟩
                rw [hc4] at hat3
                have hm4 : l3.getD m 0 = c4 := by rw [← hat3, HJ.out.1]; exact (HL3.out.2.2.2.1 m (by omega)).symm
                have hd4 := dg_range (HL3.out.2.1 c4 (by rw [← hm4, List.getD_eq_getElem?_getD, List.getElem?_eq_getElem (by omega)]; simp))
                have HN4 : Hid (P * 10 + (c4 - 48) = dvl (l3.take (m + 1))) := by show _ = _; rw [takeS (by omega), dvl_snoc, hm4, ← HPm.out]
                have hjs' : (j : Int) < s.size := by omega
                have hj0 : (0 : Int) ≤ j := by omega
                have w1 : IntKind.i64.wrap ((j : Int) + 1) = (j : Int) + 1 := by rw [IntKind.wrap_i64]; have := HS.out; omega
                have w2 : IntKind.u8.wrap (c4 - 48) = c4 - 48 := by rw [IntKind.wrap_u8]; omega
                have w3 : IntKind.i64.wrap (c4 - 48) = c4 - 48 := by rw [IntKind.wrap_i64]; omega
                have w4 : IntKind.i64.wrap (P * 10) = P * 10 := by rw [IntKind.wrap_i64]; omega
                have w5 : IntKind.i64.wrap (P * 10 + (c4 - 48)) = P * 10 + (c4 - 48) := by rw [IntKind.wrap_i64]; omega
                clear hat3 hm4 hd4 hpb hpm hl3
                go_wp2_with fail
                go_roundg (n3 - (m + 1))
                case measure => have := HJ.out; omega
                case rel => exact ⟨rfl, j + 1, m + 1, _, ⟨by have := HJ.out; omega, by omega⟩, by simp, rfl, HN4.out⟩
              · have hjs' : ¬ (j : Int) < s.size := by have := HJ.out; have := HL3.out.2.2.2.2; omega
                have HPV : Hid (P = dvl l3) := by show _ = _; rw [HPm.out, List.take_of_length_le (by omega)]
                have w1 : IntKind.i64.wrap (ee + -P) = ee + -P := by rw [IntKind.wrap_i64]; have := HS.out; have := HEE.out; omega
                have w2 : IntKind.i64.wrap (-P) = -P := by rw [IntKind.wrap_i64]; omega
                have HE : Hid (ee + -P = p - (L2 : Nat)) := by
                  show _ = _
                  rw [HEE.out.1, HPW.out, HPV.out]; omega
                clear hpb hpm hl3 hm
                obtain ⟨zs, za, zn, zc, hzb, hzB⟩ := HW.out.2.1
                obtain ⟨c0, c1, f0, f1⟩ := block_two hzb
                have CM := Minus_any _ D wr hzB (ten_60 HB.out.1 HB.out.2 (by have := HS.out; omega)).1
                clear hzb hzB
                go_wp2_with fail
                refine CM.mono ?_
                clear CM
                rintro e wm ⟨R, rfl, hR, hgm⟩
                obtain ⟨Rs, Ra, Rn, Rc, rfl⟩ := hR.shape
                rw [Int.zero_sub] at hR
                have HW0 : Hid (BgB wm w.heap.size 0 ∧ BgB wm (w.heap.size + 1) D ∧ Below w.heap.size w wm) := ⟨HW.out.1.gr hgm, HW.out.2.1.gr hgm, HW.out.2.2.trans (hgm.below.mono HW.out.2.2.size)⟩
                have HW1 : Hid (BgB ((wm.setCell ⟨w.heap.size + 1, 0, none⟩ (.bool Rs)).setCell ⟨w.heap.size + 1, 1, none⟩ (.slice Ra Rn Rc)) w.heap.size 0 ∧ BgB ((wm.setCell ⟨w.heap.size + 1, 0, none⟩ (.bool Rs)).setCell ⟨w.heap.size + 1, 1, none⟩ (.slice Ra Rn Rc)) (w.heap.size + 1) (-D) ∧ Below w.heap.size w ((wm.setCell ⟨w.heap.size + 1, 0, none⟩ (.bool Rs)).setCell ⟨w.heap.size + 1, 1, none⟩ (.slice Ra Rn Rc))) := ⟨HW0.out.2.1.other HW0.out.1 (by omega), HW0.out.2.1.put hR, below_put HW0.out.2.2 (by omega)⟩
                have k0 := cellk c0 hgm
                have k1 := cellk c1 hgm
                have k2 := frzk c0 f0 hgm
                have k3 := frzk c1 f1 hgm
                clear c0 c1 f0 f1 hgm hR HW HW0
                go_upto_region 30 with fail
                obtain ⟨wp, hwp⟩ : ∃ W, (wm.setCell ⟨w.heap.size + 1, 0, none⟩ (.bool Rs)).setCell ⟨w.heap.size + 1, 1, none⟩ (.slice Ra Rn Rc) = W := ⟨_, rfl⟩
                rw [hwp] at HW1 ⊢
                have HW : Hid _ := HW1.out
                clear hwp k0 k1 k2 k3 HW1

                obtain ⟨zs, za, zn, zc, hzb, hzB⟩ := HW.out.2.1
                obtain ⟨c0, c1, f0, f1⟩ := block_two hzb
                obtain ⟨r0s, r0a, r0n, r0c, hrb, hrB⟩ := HW.out.1
                obtain ⟨d0, d1, g0, g1⟩ := block_two hrb
                have HF : Hid (IsBig ((wp.setCell ⟨w.heap.size, 0, none⟩ (.bool zs)).setCell ⟨w.heap.size, 1, none⟩ (.slice za zn zc)) (.agg #[.bool zs, .slice za zn zc]) (-D) ∧ IsGr w ((wp.setCell ⟨w.heap.size, 0, none⟩ (.bool zs)).setCell ⟨w.heap.size, 1, none⟩ (.slice za zn zc))) := ⟨hzB.stored hrb _ _, IsGr.of_below (below_put HW.out.2.2 (Nat.le_refl _))⟩
                obtain ⟨y0, y1, -, -⟩ := block_two (put_two (s' := zs) (a' := za) (n' := zn) (c' := zc) hrb)
                have HY : Hid (_ ∧ _) := And.intro y0 y1
                clear hzb hzB hrb hrB y0 y1
                go_wp2_with fail
                obtain ⟨y0, y1⟩ := HY.out
                exact bodyPost_ret (v := .tuple #[.agg #[.bool zs, .slice za zn zc], .int .i64 (ee + -P)]) (by simp [results, Tryd.results11, go_sem, y0, y1]) rfl ⟨_, by rw [HE.out], HF.out.1, HF.out.2⟩
theorem Number_any (s : ByteArray) (w : World) (neg : Bool) (sg l1 dt l2 ep : List Int) (p : Int) (h : Spl (bts s) neg sg l1 dt l2 ep p) (hs : s.size ≤ 60) (hep : ep.length ≤ 17) :
    Calls Tryd.prog 11 #[.string s] w fun e w' => ∃ v, e = .returned (.tuple #[v, .int .i64 (p - (l2.length : Nat))]) ∧ IsBig w' v (sgI neg (dvl (l1 ++ l2))) ∧ IsGr w w' := by
  rcases h.sign with hq | hq | hq
  · exact Number_0 s w neg sg l1 dt l2 ep p h hs hep hq
  · exact Number_1 s w neg sg l1 dt l2 ep p h hs hep hq
  · exact Number_2 s w neg sg l1 dt l2 ep p h hs hep hq
end Go.Proofs.YtfpifbfnebfdaaaDoor
