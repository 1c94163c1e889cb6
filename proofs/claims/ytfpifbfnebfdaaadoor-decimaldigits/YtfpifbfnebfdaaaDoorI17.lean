/- gromalaw10.DecimalDigits, given what package decimal answers. -/
import Derived.Test.YtfpifbfnebfdaaaDoorI11
import Derived.Test.YtfpifbfnebfdaaaDoorR15
namespace Go.Proofs.YtfpifbfnebfdaaaDoor
open Go.RowKit Go.Shelf
attribute [local go_sem] Gr.size Gr.cell? Gr.frozen? Gr.setCell Gr.drew Gr.drewN Gr.of_drew Gr.of_drewN Gr.gr Gr.lt_of1 Gr.le_of1 Gr.lt_of2 Gr.le_of2 Gr.lt_of3 Gr.le_of3 Gr.lt_of4 Gr.le_of4 Gr.lt_of5 Gr.le_of5 Gr.lt_of6 Gr.le_of6 Gr.lt_of7 Gr.le_of7 Gr.lt_of8 Gr.le_of8 Gr.lt_of9 Gr.le_of9 Gr.lt_of10 Gr.le_of10 Gr.lt_of11 Gr.le_of11 Gr.lt_of12 Gr.le_of12 Gr.lt_of13 Gr.le_of13 Gr.lt_of14 Gr.le_of14 Gr.lt_of15 Gr.le_of15 Gr.lt_of16 Gr.le_of16 Gr.lt_of17 Gr.le_of17 Gr.lt_of18 Gr.le_of18 Gr.lt_of19 Gr.le_of19 Gr.lt_of20 Gr.le_of20 Gr.lt_of21 Gr.le_of21 Gr.lt_of22 Gr.le_of22 Gr.lt_of23 Gr.le_of23 Gr.lt_of24 Gr.le_of24
theorem emp_neI {s : ByteArray} (h : 0 < s.size) : s.toList.isEmpty = false := by
  rw [ByteArray.toList_eq]
  cases hl : s.data.toList with
  | nil =>
    have : s.size = 0 := by rw [← bts_len]; unfold bts; rw [hl]; rfl
    omega
  | cons _ _ => rfl
theorem emp_eqI {s : ByteArray} (h : bts s = []) : s = { data := #[] } := bts_inj (h.trans rfl)
theorem dval_dvF : ∀ {l : List Int}, Dgs l → ∀ z, dval l z = some (dvF z l)
  | [], _, z => rfl
  | c :: l, h, z => by
    have hc := dg_range (h c (by simp))
    rw [dval_good hc.1 hc.2, dvF_cons]
    exact dval_dvF (fun x hx => h x (List.mem_cons_of_mem _ hx)) _
theorem dspec_dvl {l : List Int} (h : Dgs l) (hn : l ≠ []) (h0 : l.getD 0 0 ≠ 48) : dspec l = some (dvl l) := by
  cases l with
  | nil => exact absurd rfl hn
  | cons c r =>
    have hc := dg_range (h c (by simp))
    rw [dspec_plain (by omega) (Or.inl (by simpa using h0)), dval_dvF h]; rfl
theorem nums_bts (s : ByteArray) : nums s = bts s := rfl

set_option maxRecDepth 20000 in set_option maxHeartbeats 2000000 in
theorem digits_big (C : DecC) (s : ByteArray) (w : World) (hs : ¬ s.size ≤ 3000) (HTB : TabW w) : Calls Tryd.prog 5 #[.string s] w fun e w' => e = .returned (.bool true) ∧ IsGr w w' := by
  have hs' : (3000 : Int) < s.size := by omega
  have CA := fun w' (hg : IsGr w w') => dawake_any C w' (HTB.gr hg)
  clear hs C HTB
  go_enter Tryd.func5, Tryd.ntmps5
  go_wp2_with fail
  refine (CA _ (by with_reducible repeat (first | exact IsGr.refl _ | refine IsGr.gr ?_ _ _ | refine IsGr.alloc ?_ _ | refine IsGr.drew ?_ | refine IsGr.drewN ?_ _))).mono ?_
  rintro e w1 ⟨rfl, hg⟩
  have HG : Hid (IsGr w w1) := hg
  clear hg
  go_wp2_with fail
  go_ret
  exact ⟨rfl, HG.out⟩
set_option maxRecDepth 20000 in set_option maxHeartbeats 2000000 in
theorem digits_wrong (C : DecC) (s : ByteArray) (w : World) (hs : s.size ≤ 3000) (hr : rgtB (bts s) = false) (HTB : TabW w) : Calls Tryd.prog 5 #[.string s] w fun e w' => e = .returned (.bool true) ∧ IsGr w w' := by
  have hs' : ¬ (3000 : Int) < s.size := by omega
  have CA := fun w' (hg : IsGr w w') => dawake_any C w' (HTB.gr hg)
  have CR := fun w => RRight_any s w (by omega)
  rw [hr] at CR
  have CD := C.digitsNo s w hs hr
  clear hs hr C HTB
  go_enter Tryd.func5, Tryd.ntmps5
  go_wp2_with fail
  refine CD.mono ?_
  clear CD
  rintro e w1 ⟨rfl, hg1⟩
  go_wp2_with fail
  refine (CR _).mono ?_
  clear CR
  rintro e w2 ⟨rfl, hg2⟩
  obtain rfl := hg2.symm
  have HG : Hid (IsGr w w1) := hg1
  clear hg1
  go_wp2_with fail
  refine (CA _ HG.out).mono ?_
  clear CA
  rintro e wF ⟨rfl, hgF⟩
  have HGF : Hid (IsGr w wF) := HG.out.trans hgF
  clear hgF
  go_wp2_with fail
  go_ret
  exact ⟨rfl, HGF.out⟩

set_option maxRecDepth 20000 in set_option maxHeartbeats 2000000 in
theorem digits_zn (C : DecC) (s : ByteArray) (w : World) (hs : s.size ≤ 3000) (neg : Bool) (sg l1 dt l2 ep : List Int) (p : Int) (hspl : Spl (bts s) neg sg l1 dt l2 ep p) (M : Int) (hM : sgI neg (dvl (l1 ++ l2)) = M) (hz : M = 0) (hp : plB (bts s) = false) (HTB : TabW w) : Calls Tryd.prog 5 #[.string s] w fun e w' => e = .returned (.bool true) ∧ IsGr w w' := by
  have hs' : ¬ (3000 : Int) < s.size := by omega
  have CA := fun w' (hg : IsGr w w') => dawake_any C w' (HTB.gr hg)
  have CR := fun w => RRight_any s w (by omega)
  have CP := fun w => plain_any s w
  have CD := C.digits s w M (p - (l2.length : Nat)) hs ⟨_, _, _, _, _, _, _, hspl, hM.symm, rfl⟩
  rw [hspl.right] at CR
  rw [hp] at CP
  have HZ : Hid (M = 0) := hz
  obtain ⟨E, hE⟩ : ∃ E, p - ((l2.length : Nat) : Int) = E := ⟨_, rfl⟩
  rw [hE] at CD
  clear hs hspl hM hz hp C HTB hE
  go_enter Tryd.func5, Tryd.ntmps5
  go_wp2_with fail
  refine CD.mono ?_
  clear CD
  rintro e w1 ⟨d, pw, bl, rfl, hd, hdz, hg1⟩
  go_wp2_with fail
  refine (CR _).mono ?_
  clear CR
  rintro e w2 ⟨rfl, hg2⟩
  obtain rfl := hg2.symm

  obtain ⟨hd0, rfl, rfl⟩ : bts d = [] ∧ pw = 0 ∧ bl = false := by
    rcases hd with ⟨_, h1, h2, h3⟩ | ⟨h, _⟩
    · exact ⟨h1, h2, h3⟩
    · exact absurd HZ.out h
  obtain rfl := emp_eqI hd0
  clear hd hdz hd0

  have HG : Hid (IsGr w w1) := hg1
  clear hg1
  go_wp2_with fail
  refine (CP _).mono ?_
  clear CP
  rintro e w4 ⟨rfl, hg4⟩
  obtain rfl := hg4.symm
  go_wp2_with fail
  refine (CA _ HG.out).mono ?_
  clear CA
  rintro e wF ⟨rfl, hgF⟩
  have HGF : Hid (IsGr w wF) := HG.out.trans hgF
  clear hgF
  go_wp2_with fail
  go_ret
  exact ⟨rfl, HGF.out⟩

set_option maxRecDepth 20000 in set_option maxHeartbeats 2000000 in
theorem digits_nn (C : DecC) (s : ByteArray) (w : World) (hs : s.size ≤ 3000) (neg : Bool) (sg l1 dt l2 ep : List Int) (p : Int) (hspl : Spl (bts s) neg sg l1 dt l2 ep p) (M : Int) (hM : sgI neg (dvl (l1 ++ l2)) = M) (hz : M ≠ 0) (hp : plB (bts s) = false) (HTB : TabW w) : Calls Tryd.prog 5 #[.string s] w fun e w' => e = .returned (.bool true) ∧ IsGr w w' := by
  have hs' : ¬ (3000 : Int) < s.size := by omega
  have CA := fun w' (hg : IsGr w w') => dawake_any C w' (HTB.gr hg)
  have CR := fun w => RRight_any s w (by omega)
  have CP := fun w => plain_any s w
  have CD := C.digits s w M (p - (l2.length : Nat)) hs ⟨_, _, _, _, _, _, _, hspl, hM.symm, rfl⟩
  rw [hspl.right] at CR
  rw [hp] at CP
  have HZ : Hid (M ≠ 0) := hz
  obtain ⟨E, hE⟩ : ∃ E, p - ((l2.length : Nat) : Int) = E := ⟨_, rfl⟩
  rw [hE] at CD
  clear hs hspl hM hz hp C HTB hE
  go_enter Tryd.func5, Tryd.ntmps5
  go_wp2_with fail
  refine CD.mono ?_
  clear CD
  rintro e w1 ⟨d, pw, bl, rfl, hd, hdz, hg1⟩
  go_wp2_with fail
  refine (CR _).mono ?_
  clear CR
  rintro e w2 ⟨rfl, hg2⟩
  obtain rfl := hg2.symm

  obtain ⟨hdg, hdn, hd0, hdl, hbl, t, ht, hpw⟩ : Dgs (bts d) ∧ bts d ≠ [] ∧ (bts d).getD 0 0 ≠ 48 ∧ (bts d).getD ((bts d).length - 1) 0 ≠ 48 ∧ bl = decide (M < 0) ∧ ∃ t : Nat, dvl (bts d) * 10 ^ t = (M.natAbs : Int) ∧ pw = (if E + t < -1099511627776 then -1099511627776 else if 1099511627776 < E + t then 1099511627776 else E + t) := by
    rcases hd with ⟨h, _⟩ | ⟨_, h⟩
    · exact absurd h HZ.out
    · exact h
  have hpos : 0 < d.size := by rw [← bts_len]; exact List.length_pos_iff.2 hdn
  have hne := emp_neI hpos
  have hat0 := bts_at hpos
  have hatL := bts_at (show d.size - 1 < d.size by omega)
  rw [bts_len] at hdl
  obtain ⟨c0, hc0⟩ : ∃ c : Int, ((d[0]'hpos).toNat : Int) = c := ⟨_, rfl⟩
  rw [hc0] at hat0
  have q0 : (c0 == 48) = false := by rw [hat0] at hd0; simpa using hd0
  obtain ⟨L, hL⟩ : ∃ L, d.size - 1 = L := ⟨_, rfl⟩
  have e0 : IntKind.i64.wrap ((d.size : Int) - 1) = (L : Int) := by rw [IntKind.wrap_i64]; omega
  have hLs : L < d.size := by omega
  obtain ⟨cL, hcL⟩ : ∃ c : Int, ((d[L]'hLs).toNat : Int) = c := ⟨_, rfl⟩
  have qL : (cL == 48) = false := by
    have h1 : cL = (bts d).getD (d.size - 1) 0 := by rw [hatL, ← hcL]; simp only [hL]
    rw [← h1] at hdl
    simpa using hdl
  have hLs' : (L : Int) < d.size := by omega
  have hL0 : (0 : Int) ≤ L := by omega
  have hpos' : (0 : Int) < d.size := by omega
  have hr1 : decide (pw < -1099511627776) = false := decide_eq_false (by rw [hpw]; split <;> (try split) <;> omega)
  have hr2 : decide (1099511627776 < pw) = false := decide_eq_false (by rw [hpw]; split <;> (try split) <;> omega)
  have HD : Hid (Dgs (bts d) ∧ bts d ≠ [] ∧ (bts d).getD 0 0 ≠ 48 ∧ bl = decide (M < 0) ∧ dvl (bts d) * 10 ^ t = (M.natAbs : Int) ∧ pw = (if E + t < -1099511627776 then -1099511627776 else if 1099511627776 < E + t then 1099511627776 else E + t) ∧ d.size ≤ s.size) := ⟨hdg, hdn, hd0, hbl, ht, hpw, hdz⟩
  clear hd hdg hdn hd0 hdl hbl ht hpw hat0 hatL hL hdz

  have HG : Hid (IsGr w w1) := hg1
  clear hg1
  go_wp2_with fail
  refine (CP _).mono ?_
  clear CP
  rintro e w4 ⟨rfl, hg4⟩
  obtain rfl := hg4.symm
  go_wp2_with fail
  refine (CA _ HG.out).mono ?_
  clear CA
  rintro e wF ⟨rfl, hgF⟩
  have HGF : Hid (IsGr w wF) := HG.out.trans hgF
  clear hgF
  go_wp2_with fail
  go_ret
  exact ⟨rfl, HGF.out⟩

set_option maxRecDepth 20000 in set_option maxHeartbeats 2000000 in
theorem digits_zy (C : DecC) (s : ByteArray) (w : World) (hs : s.size ≤ 3000) (neg : Bool) (sg l1 dt l2 ep : List Int) (p : Int) (hspl : Spl (bts s) neg sg l1 dt l2 ep p) (M : Int) (hM : sgI neg (dvl (l1 ++ l2)) = M) (hz : M = 0) (hp : plB (bts s) = true) (HTB : TabW w) : Calls Tryd.prog 5 #[.string s] w fun e w' => e = .returned (.bool true) ∧ IsGr w w' := by
  have hs' : ¬ (3000 : Int) < s.size := by omega
  have CA := fun w' (hg : IsGr w w') => dawake_any C w' (HTB.gr hg)
  have CR := fun w => RRight_any s w (by omega)
  have CP := fun w => plain_any s w
  have CD := C.digits s w M (p - (l2.length : Nat)) hs ⟨_, _, _, _, _, _, _, hspl, hM.symm, rfl⟩
  rw [hspl.right] at CR
  rw [hp] at CP
  have HZ : Hid (M = 0) := hz
  obtain ⟨hb60, hep, hp0, hp1, hl⟩ := pl_spl hspl hp
  rw [bts_len] at hb60
  have CN := fun w => Number_any s w neg sg l1 dt l2 ep p hspl hb60 hep
  rw [hM] at CN
  have hMb : -(10 ^ 60) ≤ M ∧ M ≤ 10 ^ 60 := by
    rw [← hM]
    exact sgI_bound (dvl_bound (hspl.d1.app hspl.d2)) (by rw [List.length_append]; exact hl)
  obtain ⟨E, hE⟩ : ∃ E, p - ((l2.length : Nat) : Int) = E := ⟨_, rfl⟩
  have HB : Hid ((-160 ≤ E ∧ E ≤ 99) ∧ (-(10 ^ 60) ≤ M ∧ M ≤ 10 ^ 60) ∧ Sm M ∧ s.size ≤ 60) := ⟨by omega, hMb, by
    have h3 : (10 : Int) ^ 60 ≤ 4149515568880992958512407863691161151012446232242436899995657329690652811412908146399707048947103794288197886611300789182395151075411775307886874834113963687061181803401509523685376 := by decide +kernel
    unfold Sm; omega, hb60⟩
  rw [hE] at CD CN
  clear hs hspl hM hz hp C HTB hE hb60 hep hp0 hp1 hl hMb
  go_enter Tryd.func5, Tryd.ntmps5
  go_wp2_with fail
  refine CD.mono ?_
  clear CD
  rintro e w1 ⟨d, pw, bl, rfl, hd, hdz, hg1⟩
  go_wp2_with fail
  refine (CR _).mono ?_
  clear CR
  rintro e w2 ⟨rfl, hg2⟩
  obtain rfl := hg2.symm

  obtain ⟨hd0, rfl, rfl⟩ : bts d = [] ∧ pw = 0 ∧ bl = false := by
    rcases hd with ⟨_, h1, h2, h3⟩ | ⟨h, _⟩
    · exact ⟨h1, h2, h3⟩
    · exact absurd HZ.out h
  obtain rfl := emp_eqI hd0
  clear hd hdz hd0

  go_wp2_with fail
  refine (CP _).mono ?_
  clear CP
  rintro e w4 ⟨rfl, hg4⟩
  obtain rfl := hg4.symm
  go_wp2_with fail
  refine (CN _).mono ?_
  clear CN
  rintro e w5 ⟨v, rfl, hv, hg5⟩
  obtain ⟨vs, va, vn, vc, rfl⟩ := hv.shape
  have hX := BgB.new hv
  obtain ⟨v1s, v1a, v1n, v1c, hxb, hxB⟩ := hX
  obtain ⟨x0, x1, f0, f1⟩ := block_two hxb
  have HG5 : Hid (IsGr w (w5.alloc (.cells #[.bool vs, .slice va vn vc] 29))) := (hg1.trans hg5).trans ((IsGr.refl w5).alloc _)
  have HX : Hid (BgB (w5.alloc (.cells #[.bool vs, .slice va vn vc] 29)) w5.heap.size M ∧ IsGr w w5) := ⟨BgB.new hv, hg1.trans hg5⟩
  have HV : Hid (IsBig w5 (.agg #[.bool vs, .slice va vn vc]) M) := hv

  have CSg := fun w h => BigSign_any (.agg #[.bool vs, .slice va vn vc]) M w h HB.out.2.2.1
  have hM0 := HZ.out
  subst hM0
  have hsg : (cmpI 0 0 == 0) = true := by decide
  have hvg := HV.out.gr ((IsGr.refl w5).alloc (.cells #[.bool vs, .slice va vn vc] 29))
  clear hxb hxB hv hg1 hg5 x0 x1 f0 f1
  go_wp2_with fail
  refine (CSg _ hvg).mono ?_
  clear CSg
  rintro e w6 ⟨rfl, hg6⟩
  have HG : Hid (IsGr w w6) := HG5.out.trans hg6
  clear hg6 hvg
  go_wp2_with fail
  refine (CA _ HG.out).mono ?_
  clear CA
  rintro e wF ⟨rfl, hgF⟩
  have HGF : Hid (IsGr w wF) := HG.out.trans hgF
  clear hgF
  go_wp2_with fail
  go_ret
  exact ⟨rfl, HGF.out⟩

set_option maxRecDepth 20000 in set_option maxHeartbeats 2000000 in
theorem digits_nyp (C : DecC) (s : ByteArray) (w : World) (hs : s.size ≤ 3000) (neg : Bool) (sg l1 dt l2 ep : List Int) (p : Int) (hspl : Spl (bts s) neg sg l1 dt l2 ep p) (M : Int) (hM : sgI neg (dvl (l1 ++ l2)) = M) (hz : M ≠ 0) (hm : 0 < M) (hp : plB (bts s) = true) (HTB : TabW w) : Calls Tryd.prog 5 #[.string s] w fun e w' => e = .returned (.bool true) ∧ IsGr w w' := by
  have hs' : ¬ (3000 : Int) < s.size := by omega
  have CA := fun w' (hg : IsGr w w') => dawake_any C w' (HTB.gr hg)
  have CR := fun w => RRight_any s w (by omega)
  have CP := fun w => plain_any s w
  have CD := C.digits s w M (p - (l2.length : Nat)) hs ⟨_, _, _, _, _, _, _, hspl, hM.symm, rfl⟩
  rw [hspl.right] at CR
  rw [hp] at CP
  have HZ : Hid (M ≠ 0) := hz
  obtain ⟨hb60, hep, hp0, hp1, hl⟩ := pl_spl hspl hp
  rw [bts_len] at hb60
  have CN := fun w => Number_any s w neg sg l1 dt l2 ep p hspl hb60 hep
  rw [hM] at CN
  have hMb : -(10 ^ 60) ≤ M ∧ M ≤ 10 ^ 60 := by
    rw [← hM]
    exact sgI_bound (dvl_bound (hspl.d1.app hspl.d2)) (by rw [List.length_append]; exact hl)
  obtain ⟨E, hE⟩ : ∃ E, p - ((l2.length : Nat) : Int) = E := ⟨_, rfl⟩
  have HB : Hid ((-160 ≤ E ∧ E ≤ 99) ∧ (-(10 ^ 60) ≤ M ∧ M ≤ 10 ^ 60) ∧ Sm M ∧ s.size ≤ 60) := ⟨by omega, hMb, by
    have h3 : (10 : Int) ^ 60 ≤ 4149515568880992958512407863691161151012446232242436899995657329690652811412908146399707048947103794288197886611300789182395151075411775307886874834113963687061181803401509523685376 := by decide +kernel
    unfold Sm; omega, hb60⟩
  rw [hE] at CD CN
  have HMS : Hid (0 < M) := hm
  clear hm hs hspl hM hz hp C HTB hE hb60 hep hp0 hp1 hl hMb
  go_enter Tryd.func5, Tryd.ntmps5
  go_wp2_with fail
  refine CD.mono ?_
  clear CD
  rintro e w1 ⟨d, pw, bl, rfl, hd, hdz, hg1⟩
  go_wp2_with fail
  refine (CR _).mono ?_
  clear CR
  rintro e w2 ⟨rfl, hg2⟩
  obtain rfl := hg2.symm

  obtain ⟨hdg, hdn, hd0, hdl, hbl, t, ht, hpw⟩ : Dgs (bts d) ∧ bts d ≠ [] ∧ (bts d).getD 0 0 ≠ 48 ∧ (bts d).getD ((bts d).length - 1) 0 ≠ 48 ∧ bl = decide (M < 0) ∧ ∃ t : Nat, dvl (bts d) * 10 ^ t = (M.natAbs : Int) ∧ pw = (if E + t < -1099511627776 then -1099511627776 else if 1099511627776 < E + t then 1099511627776 else E + t) := by
    rcases hd with ⟨h, _⟩ | ⟨_, h⟩
    · exact absurd h HZ.out
    · exact h
  have hpos : 0 < d.size := by rw [← bts_len]; exact List.length_pos_iff.2 hdn
  have hne := emp_neI hpos
  have hat0 := bts_at hpos
  have hatL := bts_at (show d.size - 1 < d.size by omega)
  rw [bts_len] at hdl
  obtain ⟨c0, hc0⟩ : ∃ c : Int, ((d[0]'hpos).toNat : Int) = c := ⟨_, rfl⟩
  rw [hc0] at hat0
  have q0 : (c0 == 48) = false := by rw [hat0] at hd0; simpa using hd0
  obtain ⟨L, hL⟩ : ∃ L, d.size - 1 = L := ⟨_, rfl⟩
  have e0 : IntKind.i64.wrap ((d.size : Int) - 1) = (L : Int) := by rw [IntKind.wrap_i64]; omega
  have hLs : L < d.size := by omega
  obtain ⟨cL, hcL⟩ : ∃ c : Int, ((d[L]'hLs).toNat : Int) = c := ⟨_, rfl⟩
  have qL : (cL == 48) = false := by
    have h1 : cL = (bts d).getD (d.size - 1) 0 := by rw [hatL, ← hcL]; simp only [hL]
    rw [← h1] at hdl
    simpa using hdl
  have hLs' : (L : Int) < d.size := by omega
  have hL0 : (0 : Int) ≤ L := by omega
  have hpos' : (0 : Int) < d.size := by omega
  have hr1 : decide (pw < -1099511627776) = false := decide_eq_false (by rw [hpw]; split <;> (try split) <;> omega)
  have hr2 : decide (1099511627776 < pw) = false := decide_eq_false (by rw [hpw]; split <;> (try split) <;> omega)
  have HD : Hid (Dgs (bts d) ∧ bts d ≠ [] ∧ (bts d).getD 0 0 ≠ 48 ∧ bl = decide (M < 0) ∧ dvl (bts d) * 10 ^ t = (M.natAbs : Int) ∧ pw = (if E + t < -1099511627776 then -1099511627776 else if 1099511627776 < E + t then 1099511627776 else E + t) ∧ d.size ≤ s.size) := ⟨hdg, hdn, hd0, hbl, ht, hpw, hdz⟩
  clear hd hdg hdn hd0 hdl hbl ht hpw hat0 hatL hL hdz

  obtain rfl : bl = false := by rw [HD.out.2.2.2.1]; exact decide_eq_false (by have := HMS.out; omega)
  have hD := dvl_bound HD.out.1
  obtain ⟨D, hDD⟩ : ∃ D, dvl (bts d) = D := ⟨_, rfl⟩
  rw [hDD] at hD
  have hDt : D * 10 ^ t = (M.natAbs : Int) := hDD ▸ HD.out.2.2.2.2.1
  have hDp : 0 < D := by
    rcases Int.lt_or_le 0 D with h | h
    · exact h
    · have : D = 0 := by omega
      rw [this, Int.zero_mul] at hDt
      have := HZ.out
      omega
  have ht10 := ten_pos t
  have ht1 : (10 : Int) ^ t ≤ D * 10 ^ t := by
    have h := Int.mul_le_mul_of_nonneg_right (show (1 : Int) ≤ D by omega) (Int.le_of_lt ht10)
    rwa [Int.one_mul] at h
  have hD60 : D ≤ 10 ^ 60 := by
    have h := Int.mul_le_mul_of_nonneg_left (show (1 : Int) ≤ 10 ^ t by omega) (show 0 ≤ D by omega)
    rw [Int.mul_one] at h
    have := HB.out.2.1
    omega
  have ht60 : t ≤ 60 := by
    rcases Nat.lt_or_ge 60 t with h | h
    · exfalso
      have h2 := pow_le_pow' (by decide : (1 : Int) ≤ 10) (show 61 ≤ t from h)
      have h3 : (10 : Int) ^ 60 < 10 ^ 61 := by decide +kernel
      have := HB.out.2.1
      omega
    · exact h
  have hpw : pw = E + t := by
    have h1 := HB.out.1
    have h2 := HD.out.2.2.2.2.2.1
    rw [if_neg (by omega), if_neg (by omega)] at h2
    exact h2
  have CDG := fun w => Digits_any d w (by have := HD.out.2.2.2.2.2.2; have := HB.out; omega)
  rw [nums_bts, dspec_dvl HD.out.1 HD.out.2.1 HD.out.2.2.1, hDD] at CDG
  have sD : Sm D := by
    have h3 : (10 : Int) ^ 60 ≤ 4149515568880992958512407863691161151012446232242436899995657329690652811412908146399707048947103794288197886611300789182395151075411775307886874834113963687061181803401509523685376 := by decide +kernel
    unfold Sm; omega
  have sN : Sm (D) := by unfold Sm at sD ⊢; omega
  have HYT : Hid (D * 10 ^ t = M) := by
    show _ = _
    have := HMS.out
    rw [hDt]; omega
  have st := ten_sm t (by omega)
  have hge : decide (E ≤ pw) = true := decide_eq_true (by omega)
  have hge' : E ≤ pw := by omega
  have esub : IntKind.i64.wrap (pw - E) = (t : Int) := by rw [IntKind.wrap_i64]; have := HB.out.1; omega
  have CTT := fun w => Ten_any (t : Int) w (by omega)
  rw [Int.toNat_natCast] at CTT
  have hzz : (cmpI M M == 0) = true := by unfold cmpI; simp
  have sM := HB.out.2.2.1
  clear hD hDD hDt hDp ht10 ht1 hD60 ht60 hpw

  go_wp2_with fail
  refine (CP _).mono ?_
  clear CP
  rintro e w4 ⟨rfl, hg4⟩
  obtain rfl := hg4.symm
  go_wp2_with fail
  refine (CN _).mono ?_
  clear CN
  rintro e w5 ⟨v, rfl, hv, hg5⟩
  obtain ⟨vs, va, vn, vc, rfl⟩ := hv.shape
  have hX := BgB.new hv
  obtain ⟨v1s, v1a, v1n, v1c, hxb, hxB⟩ := hX
  obtain ⟨x0, x1, f0, f1⟩ := block_two hxb
  have HG5 : Hid (IsGr w (w5.alloc (.cells #[.bool vs, .slice va vn vc] 29))) := (hg1.trans hg5).trans ((IsGr.refl w5).alloc _)
  have HX : Hid (BgB (w5.alloc (.cells #[.bool vs, .slice va vn vc] 29)) w5.heap.size M ∧ IsGr w w5) := ⟨BgB.new hv, hg1.trans hg5⟩
  have HV : Hid (IsBig w5 (.agg #[.bool vs, .slice va vn vc]) M) := hv

  clear hxb hxB hv hg5 x0 x1 f0 f1
  go_wp2_with fail
  refine (CDG _).mono ?_
  clear CDG
  rintro e w6 ⟨yv, okk, rfl, hT, hg6⟩
  obtain ⟨rfl, hyB⟩ : okk = true ∧ IsBig w6 yv D := by
    rcases hT with ⟨h1, z, h2, h3⟩ | ⟨_, h2, _⟩
    · injection h2 with h2
      rw [← h2] at h3
      exact ⟨h1, by simpa [sgn] using h3⟩
    · cases h2
  obtain ⟨ys, ya, yn, yc, rfl⟩ := hyB.shape
  have HXY : Hid (BgB (w6.alloc (.cells #[.bool ys, .slice ya yn yc] 29)) w5.heap.size M ∧ BgB (w6.alloc (.cells #[.bool ys, .slice ya yn yc] 29)) w6.heap.size D ∧ IsGr w (w6.alloc (.cells #[.bool ys, .slice ya yn yc] 29)) ∧ w.heap.size ≤ w5.heap.size ∧ w5.heap.size < w6.heap.size) := ⟨(HX.out.1.gr hg6).gr ((IsGr.refl w6).alloc _), BgB.new hyB, (HG5.out.trans hg6).trans ((IsGr.refl w6).alloc _), HX.out.2.size, by have := hg6.size; simp at this; omega⟩
  clear hT hyB hg6

  go_upto_region 16 with fail
  obtain ⟨PX, hPX⟩ : ∃ P, w5.heap.size = P := ⟨_, rfl⟩
  obtain ⟨PY, hPY⟩ : ∃ P, w6.heap.size = P := ⟨_, rfl⟩
  obtain ⟨w9, hw9⟩ : ∃ W, w6.alloc (.cells #[.bool ys, .slice ya yn yc] 29) = W := ⟨_, rfl⟩
  rw [hPX, hPY, hw9] at HXY
  rw [hPX, hPY, hw9]
  clear hPX hPY hw9
  have HW : Hid (BgB w9 PX M ∧ BgB w9 PY D ∧ IsGr w w9) := ⟨HXY.out.1, HXY.out.2.1, HXY.out.2.2.1⟩

  obtain ⟨a0s, a0a, a0n, a0c, hab, haB⟩ := HW.out.1
  obtain ⟨b1s, b1a, b1n, b1c, hbb, hbB⟩ := HW.out.2.1
  obtain ⟨m0, m1, -, -⟩ := block_two hab
  obtain ⟨n0, n1, -, -⟩ := block_two hbb
  have HBB : Hid (IsBig w9 (.agg #[.bool a0s, .slice a0a a0n a0c]) M ∧ IsBig w9 (.agg #[.bool b1s, .slice b1a b1n b1c]) (D)) := ⟨haB, hbB⟩
  clear hab haB hbb hbB
  obtain ⟨C, hin, hcl, hcells, hgr⟩ : ∃ C : World → Prop, (∀ w', IsGr w9 w' → C w') ∧ (∀ u u', C u → IsGr u u' → C u') ∧ (∀ w', C w' → (w'.cell? ⟨PX, 0, none⟩ = some (.bool a0s)) ∧ (w'.cell? ⟨PX, 1, none⟩ = some (.slice a0a a0n a0c)) ∧ (w'.cell? ⟨PY, 0, none⟩ = some (.bool b1s)) ∧ (w'.cell? ⟨PY, 1, none⟩ = some (.slice b1a b1n b1c))) ∧ (∀ w', C w' → IsGr w9 w') := ⟨fun w' => IsGr w9 w', fun _ h => h, fun _ _ h k => h.trans k, fun w' hg => ⟨cellk m0 hg, cellk m1 hg, cellk n0 hg, cellk n1 hg⟩, fun _ h => h⟩
  refine wp_region_held_drew (S := C) (by kernel_rfl) (by (try dsimp only); exact hin _ (by with_reducible repeat (first | exact IsGr.refl _ | refine IsGr.gr ?_ _ _ | refine IsGr.alloc ?_ _ | refine IsGr.drew ?_ | refine IsGr.drewN ?_ _))) (fun hHeld => ?_)
  refine wpAnyH_take (i := 0) (oi := { dst := some 105, op := Op.move (Operand.tmp 10), type := 4, pos := "law.go:139", after := #[], guard := none }) (v := ?_) rfl (by kernel_rfl) (by kernel_rfl) (by kernel_rfl) (fun _ _ _ h => h) (Or.inl ⟨by rfl, ?_⟩) (by assumption) ?_
  rotate_left
  · (intro w hSw; (try dsimp only at hSw); (try have hcs := hcells w hSw); (try go_split_ands); go_simp <;> with_reducible rfl)
  (try simp only [Act.put, List.setIfInBounds_toArray, List.set_cons_zero, List.set_cons_succ])
  refine wpAnyH_take (i := 1) (oi := { dst := some 106, op := Op.move (Operand.tmp 105), type := 4, pos := "law.go:139", after := #[{ on := 0, ground := Ground.data }], guard := none }) (v := ?_) rfl (by kernel_rfl) (by kernel_rfl) (by kernel_rfl) (fun _ _ _ h => h) (Or.inl ⟨by rfl, ?_⟩) (by assumption) ?_
  rotate_left
  · (intro w hSw; (try dsimp only at hSw); (try have hcs := hcells w hSw); (try go_split_ands); go_simp <;> with_reducible rfl)
  (try simp only [Act.put, List.setIfInBounds_toArray, List.set_cons_zero, List.set_cons_succ])
  refine wpAnyH_take (i := 2) (oi := { dst := some 107, op := Op.move (Operand.tmp 4), type := 3, pos := "law.go:139", after := #[{ on := 1, ground := Ground.guard }], guard := some (1, true) }) (v := ?_) rfl (by kernel_rfl) (by kernel_rfl) (by kernel_rfl) (fun _ _ _ h => h) (Or.inl ⟨by rfl, ?_⟩) (by assumption) ?_
  rotate_left
  · (intro w hSw; (try dsimp only at hSw); (try have hcs := hcells w hSw); (try go_split_ands); go_simp <;> with_reducible rfl)
  (try simp only [Act.put, List.setIfInBounds_toArray, List.set_cons_zero, List.set_cons_succ])
  refine wpAnyH_take (i := 3) (oi := { dst := some 108, op := Op.move (Operand.tmp 8), type := 3, pos := "law.go:139", after := #[{ on := 1, ground := Ground.guard }], guard := some (1, true) }) (v := ?_) rfl (by kernel_rfl) (by kernel_rfl) (by kernel_rfl) (fun _ _ _ h => h) (Or.inl ⟨by rfl, ?_⟩) (by assumption) ?_
  rotate_left
  · (intro w hSw; (try dsimp only at hSw); (try have hcs := hcells w hSw); (try go_split_ands); go_simp <;> with_reducible rfl)
  (try simp only [Act.put, List.setIfInBounds_toArray, List.set_cons_zero, List.set_cons_succ])
  refine wpAnyH_take (i := 4) (oi := { dst := some 109, op := Op.binOp BinOp.geq 3 (Operand.tmp 107) (Operand.tmp 108) 3, type := 4, pos := "law.go:139", after := #[{ on := 2, ground := Ground.data }, { on := 3, ground := Ground.data }, { on := 1, ground := Ground.guard }], guard := some (1, true) }) (v := ?_) rfl (by kernel_rfl) (by kernel_rfl) (by kernel_rfl) (fun _ _ _ h => h) (Or.inl ⟨by rfl, ?_⟩) (by assumption) ?_
  rotate_left
  · (intro w hSw; (try dsimp only at hSw); (try have hcs := hcells w hSw); (try go_split_ands); go_simp <;> with_reducible rfl)
  (try simp only [Act.put, List.setIfInBounds_toArray, List.set_cons_zero, List.set_cons_succ])
  refine wpAnyH_take (i := 5) (oi := { dst := some 110, op := Op.pick (Operand.tmp 106) (Operand.tmp 109) (Operand.const (Value.bool false)), type := 4, pos := "law.go:139", after := #[{ on := 1, ground := Ground.data }, { on := 4, ground := Ground.data }], guard := none }) (v := ?_) rfl (by kernel_rfl) (by kernel_rfl) (by kernel_rfl) (fun _ _ _ h => h) (Or.inl ⟨by rfl, ?_⟩) (by assumption) ?_
  rotate_left
  · (intro w hSw; (try dsimp only at hSw); (try have hcs := hcells w hSw); (try go_split_ands); go_simp <;> with_reducible rfl)
  (try simp only [Act.put, List.setIfInBounds_toArray, List.set_cons_zero, List.set_cons_succ])
  refine wpAnyH_take (i := 6) (oi := { dst := some 111, op := Op.move (Operand.tmp 110), type := 4, pos := "law.go:139", after := #[{ on := 5, ground := Ground.data }, { on := 1, ground := Ground.chain }], guard := none }) (v := ?_) rfl (by kernel_rfl) (by kernel_rfl) (by kernel_rfl) (fun _ _ _ h => h) (Or.inl ⟨by rfl, ?_⟩) (by assumption) ?_
  rotate_left
  · (intro w hSw; (try dsimp only at hSw); (try have hcs := hcells w hSw); (try go_split_ands); go_simp <;> with_reducible rfl)
  (try simp only [Act.put, List.setIfInBounds_toArray, List.set_cons_zero, List.set_cons_succ])
  refine wpAnyH_take (i := 7) (oi := { dst := some 112, op := Op.load 29 (Operand.tmp 9), type := 29, pos := "law.go:139", after := #[{ on := 6, ground := Ground.guard }], guard := some (6, true) }) (v := ?_) rfl (by kernel_rfl) (by kernel_rfl) (by kernel_rfl) (fun _ _ _ h => h) (Or.inl ⟨by rfl, ?_⟩) (by assumption) ?_
  rotate_left
  · (intro w hSw; (try dsimp only at hSw); (try have hcs := hcells w hSw); (try go_split_ands); go_simp <;> with_reducible rfl)
  (try simp only [Act.put, List.setIfInBounds_toArray, List.set_cons_zero, List.set_cons_succ])
  refine wpAnyH_take (i := 8) (oi := { dst := some 113, op := Op.move (Operand.tmp 4), type := 3, pos := "law.go:139", after := #[{ on := 6, ground := Ground.guard }], guard := some (6, true) }) (v := ?_) rfl (by kernel_rfl) (by kernel_rfl) (by kernel_rfl) (fun _ _ _ h => h) (Or.inl ⟨by rfl, ?_⟩) (by assumption) ?_
  rotate_left
  · (intro w hSw; (try dsimp only at hSw); (try have hcs := hcells w hSw); (try go_split_ands); go_simp <;> with_reducible rfl)
  (try simp only [Act.put, List.setIfInBounds_toArray, List.set_cons_zero, List.set_cons_succ])
  refine wpAnyH_take (i := 9) (oi := { dst := some 114, op := Op.move (Operand.tmp 8), type := 3, pos := "law.go:139", after := #[{ on := 6, ground := Ground.guard }], guard := some (6, true) }) (v := ?_) rfl (by kernel_rfl) (by kernel_rfl) (by kernel_rfl) (fun _ _ _ h => h) (Or.inl ⟨by rfl, ?_⟩) (by assumption) ?_
  rotate_left
  · (intro w hSw; (try dsimp only at hSw); (try have hcs := hcells w hSw); (try go_split_ands); go_simp <;> with_reducible rfl)
  (try simp only [Act.put, List.setIfInBounds_toArray, List.set_cons_zero, List.set_cons_succ])
  refine wpAnyH_take (i := 10) (oi := { dst := some 115, op := Op.binOp BinOp.sub 3 (Operand.tmp 113) (Operand.tmp 114) 3, type := 3, pos := "law.go:139", after := #[{ on := 8, ground := Ground.data }, { on := 9, ground := Ground.data }, { on := 6, ground := Ground.guard }], guard := some (6, true) }) (v := ?_) rfl (by kernel_rfl) (by kernel_rfl) (by kernel_rfl) (fun _ _ _ h => h) (Or.inl ⟨by rfl, ?_⟩) (by assumption) ?_
  rotate_left
  · (intro w hSw; (try dsimp only at hSw); (try have hcs := hcells w hSw); (try go_split_ands); go_simp <;> with_reducible rfl)
  (try simp only [Act.put, List.setIfInBounds_toArray, List.set_cons_zero, List.set_cons_succ])
  refine wpAnyH_take (i := 13) (oi := { dst := some 118, op := Op.load 29 (Operand.tmp 7), type := 29, pos := "law.go:139", after := #[{ on := 6, ground := Ground.guard }], guard := some (6, true) }) (v := ?_) rfl (by kernel_rfl) (by kernel_rfl) (by kernel_rfl) (fun _ _ _ h => h) (Or.inl ⟨by rfl, ?_⟩) (by assumption) ?_
  rotate_left
  · (intro w hSw; (try dsimp only at hSw); (try have hcs := hcells w hSw); (try go_split_ands); go_simp <;> with_reducible rfl)
  (try simp only [Act.put, List.setIfInBounds_toArray, List.set_cons_zero, List.set_cons_succ])
  refine wpAnyH_ready (rs := [11]) (by kernel_rfl) (by simp) ?_
  refine AllReadyH.cons (o := { dst := some 116, op := Op.call { callee := Callee.value (Operand.func 14), args := #[Operand.tmp 115], argTypes := #[3] }, type := 29, pos := "law.go:139", after := #[{ on := 10, ground := Ground.data }, { on := 6, ground := Ground.chain }, { on := 6, ground := Ground.guard }], guard := some (6, true) }) rfl (fun K hK => ?_) ?_
  · go_simp
    refine (CTT _).mono ?_
    rintro e w10 ⟨T, rfl, hT, hg10⟩
    obtain ⟨Ts, Ta, Tn, Tc, rfl⟩ := hT.shape
    (try go_wp2_with fail)
    refine hK.out _ _ (by (try dsimp only); exact hcl _ _ hHeld (by first | with_reducible assumption | with_reducible exact IsGr.refl _ | with_reducible exact (IsGr.refl _).alloc _ | with_reducible exact ((IsGr.refl _).alloc _).alloc _ | assumption)) (fun hHeld2 => ?_)
    clear hK K hHeld
    have hHeld := hHeld2
    clear hHeld2
    (try simp only [Act.put, List.setIfInBounds_toArray, List.set_cons_zero, List.set_cons_succ])
    refine wpAnyH_ready (rs := [12]) (by kernel_rfl) (by simp) ?_
    refine AllReadyH.cons (o := { dst := some 117, op := Op.call { callee := Callee.value (Operand.func 13), args := #[Operand.tmp 112, Operand.tmp 116], argTypes := #[29, 29] }, type := 29, pos := "law.go:139", after := #[{ on := 7, ground := Ground.data }, { on := 11, ground := Ground.data }, { on := 11, ground := Ground.chain }, { on := 6, ground := Ground.guard }], guard := some (6, true) }) rfl (fun K hK => ?_) ?_
    · go_simp
      refine (BigMul_any _ _ (D) (10 ^ t) _ (HBB.out.2.gr (hgr _ hHeld)) (hT.gr (by first | with_reducible assumption | with_reducible exact IsGr.refl _ | with_reducible exact (IsGr.refl _).alloc _ | with_reducible exact ((IsGr.refl _).alloc _).alloc _ | assumption)) sN st).mono ?_
      rintro e w11 ⟨N, rfl, hN, hg11⟩
      rw [HYT.out] at hN
      obtain ⟨Ns, Na, Nn, Nc, rfl⟩ := hN.shape
      (try go_wp2_with fail)
      refine hK.out _ _ (by (try dsimp only); exact hcl _ _ hHeld (by first | with_reducible assumption | with_reducible exact IsGr.refl _ | with_reducible exact (IsGr.refl _).alloc _ | with_reducible exact ((IsGr.refl _).alloc _).alloc _ | assumption)) (fun hHeld2 => ?_)
      clear hK K hHeld
      have hHeld := hHeld2
      clear hHeld2
      (try simp only [Act.put, List.setIfInBounds_toArray, List.set_cons_zero, List.set_cons_succ])
      refine wpAnyH_ready (rs := [14]) (by kernel_rfl) (by simp) ?_
      refine AllReadyH.cons (o := { dst := some 119, op := Op.call { callee := Callee.value (Operand.func 15), args := #[Operand.tmp 117, Operand.tmp 118], argTypes := #[29, 29] }, type := 3, pos := "law.go:139", after := #[{ on := 12, ground := Ground.data }, { on := 13, ground := Ground.data }, { on := 12, ground := Ground.chain }, { on := 6, ground := Ground.guard }], guard := some (6, true) }) rfl (fun K hK => ?_) ?_
      · go_simp
        refine (BigCmp_any _ _ M M _ (hN.gr (by first | with_reducible assumption | with_reducible exact IsGr.refl _ | with_reducible exact (IsGr.refl _).alloc _ | with_reducible exact ((IsGr.refl _).alloc _).alloc _ | assumption)) (HBB.out.1.gr (hgr _ hHeld)) sM sM).mono ?_
        rintro e w12 ⟨rfl, hg12⟩
        (try go_wp2_with fail)
        refine hK.out _ _ (by (try dsimp only); exact hcl _ _ hHeld (by first | with_reducible assumption | with_reducible exact IsGr.refl _ | with_reducible exact (IsGr.refl _).alloc _ | with_reducible exact ((IsGr.refl _).alloc _).alloc _ | assumption)) (fun hHeld2 => ?_)
        clear hK K hHeld
        have hHeld := hHeld2
        clear hHeld2
        (try simp only [Act.put, List.setIfInBounds_toArray, List.set_cons_zero, List.set_cons_succ])
        refine wpAnyH_take (i := 15) (oi := { dst := some 120, op := Op.binOp BinOp.eql 3 (Operand.tmp 119) (Operand.const (Value.int IntKind.i64 0)) 3, type := 4, pos := "law.go:139", after := #[{ on := 14, ground := Ground.data }, { on := 6, ground := Ground.guard }], guard := some (6, true) }) (v := ?_) rfl (by kernel_rfl) (by kernel_rfl) (by kernel_rfl) (fun _ _ _ h => h) (Or.inl ⟨by rfl, ?_⟩) (by assumption) ?_
        rotate_left
        · (intro w hSw; (try dsimp only at hSw); (try have hcs := hcells w hSw); (try go_split_ands); go_simp <;> with_reducible rfl)
        (try simp only [Act.put, List.setIfInBounds_toArray, List.set_cons_zero, List.set_cons_succ])
        refine wpAnyH_take (i := 16) (oi := { dst := some 121, op := Op.pick (Operand.tmp 111) (Operand.tmp 120) (Operand.const (Value.bool false)), type := 4, pos := "law.go:139", after := #[{ on := 6, ground := Ground.data }, { on := 15, ground := Ground.data }], guard := none }) (v := ?_) rfl (by kernel_rfl) (by kernel_rfl) (by kernel_rfl) (fun _ _ _ h => h) (Or.inl ⟨by rfl, ?_⟩) (by assumption) ?_
        rotate_left
        · (intro w hSw; (try dsimp only at hSw); (try have hcs := hcells w hSw); (try go_split_ands); go_simp <;> with_reducible rfl)
        (try simp only [Act.put, List.setIfInBounds_toArray, List.set_cons_zero, List.set_cons_succ])
        refine wpAnyH_take (i := 17) (oi := { dst := some 122, op := Op.move (Operand.tmp 121), type := 4, pos := "law.go:139", after := #[{ on := 16, ground := Ground.data }, { on := 14, ground := Ground.chain }], guard := none }) (v := ?_) rfl (by kernel_rfl) (by kernel_rfl) (by kernel_rfl) (fun _ _ _ h => h) (Or.inl ⟨by rfl, ?_⟩) (by assumption) ?_
        rotate_left
        · (intro w hSw; (try dsimp only at hSw); (try have hcs := hcells w hSw); (try go_split_ands); go_simp <;> with_reducible rfl)
        (try simp only [Act.put, List.setIfInBounds_toArray, List.set_cons_zero, List.set_cons_succ])
        refine wpAnyH_ready (rs := [18]) (by kernel_rfl) (by simp) ?_
        refine AllReadyH.cons (o := { dst := some 123, op := Op.call { callee := Callee.value (Operand.func 7), args := #[], argTypes := #[] }, type := 4, pos := "law.go:139", after := #[{ on := 17, ground := Ground.chain }, { on := 17, ground := Ground.guard }], guard := some (17, true) }) rfl (fun K hK => ?_) ?_
        · go_simp
          refine (CA _ (HW.out.2.2.trans (hgr _ hHeld))).mono ?_
          rintro e w13 ⟨rfl, hg13⟩
          (try go_wp2_with fail)
          refine hK.out _ _ (by (try dsimp only); exact hcl _ _ hHeld (by first | with_reducible assumption | with_reducible exact IsGr.refl _ | with_reducible exact (IsGr.refl _).alloc _ | with_reducible exact ((IsGr.refl _).alloc _).alloc _ | assumption)) (fun hHeld2 => ?_)
          clear hK K hHeld
          have hHeld := hHeld2
          clear hHeld2
          (try simp only [Act.put, List.setIfInBounds_toArray, List.set_cons_zero, List.set_cons_succ])
          refine wpAnyH_take (i := 19) (oi := { dst := some 124, op := Op.pick (Operand.tmp 122) (Operand.tmp 123) (Operand.const (Value.bool false)), type := 4, pos := "law.go:139", after := #[{ on := 17, ground := Ground.data }, { on := 18, ground := Ground.data }], guard := none }) (v := ?_) rfl (by kernel_rfl) (by kernel_rfl) (by kernel_rfl) (fun _ _ _ h => h) (Or.inl ⟨by rfl, ?_⟩) (by assumption) ?_
          rotate_left
          · (intro w hSw; (try dsimp only at hSw); (try have hcs := hcells w hSw); (try go_split_ands); go_simp <;> with_reducible rfl)
          (try simp only [Act.put, List.setIfInBounds_toArray, List.set_cons_zero, List.set_cons_succ])
          refine wpAnyH_take (i := 20) (oi := { dst := some 2, op := Op.assign (Operand.tmp 124), type := 4, pos := "law.go:139", after := #[{ on := 19, ground := Ground.data }, { on := 18, ground := Ground.chain }, { on := 0, ground := Ground.phase }, { on := 1, ground := Ground.phase }, { on := 2, ground := Ground.phase }, { on := 3, ground := Ground.phase }, { on := 4, ground := Ground.phase }, { on := 5, ground := Ground.phase }, { on := 6, ground := Ground.phase }, { on := 7, ground := Ground.phase }, { on := 8, ground := Ground.phase }, { on := 9, ground := Ground.phase }, { on := 10, ground := Ground.phase }, { on := 11, ground := Ground.phase }, { on := 12, ground := Ground.phase }, { on := 13, ground := Ground.phase }, { on := 14, ground := Ground.phase }, { on := 15, ground := Ground.phase }, { on := 16, ground := Ground.phase }, { on := 17, ground := Ground.phase }, { on := 18, ground := Ground.phase }, { on := 19, ground := Ground.phase }], guard := none }) (v := ?_) rfl (by kernel_rfl) (by kernel_rfl) (by kernel_rfl) (fun _ _ _ h => h) (Or.inl ⟨by rfl, ?_⟩) (by assumption) ?_
          rotate_left
          · (intro w hSw; (try dsimp only at hSw); (try have hcs := hcells w hSw); (try go_split_ands); go_simp <;> with_reducible rfl)
          (try simp only [Act.put, List.setIfInBounds_toArray, List.set_cons_zero, List.set_cons_succ])
          refine wpAnyH_done (by kernel_rfl) ?_ _
          have hgF := hgr _ hHeld
          have HFG : Hid (IsGr w w13) := HW.out.2.2.trans hgF
          clear hHeld hgr hin hcl hcells hgF
          go_wp2_with fail
          go_ret
          exact ⟨rfl, HFG.out⟩
        exact AllReadyH.nil
      exact AllReadyH.nil
    exact AllReadyH.nil
  exact AllReadyH.nil

set_option maxRecDepth 20000 in set_option maxHeartbeats 2000000 in
theorem digits_nyn (C : DecC) (s : ByteArray) (w : World) (hs : s.size ≤ 3000) (neg : Bool) (sg l1 dt l2 ep : List Int) (p : Int) (hspl : Spl (bts s) neg sg l1 dt l2 ep p) (M : Int) (hM : sgI neg (dvl (l1 ++ l2)) = M) (hz : M ≠ 0) (hm : M < 0) (hp : plB (bts s) = true) (HTB : TabW w) : Calls Tryd.prog 5 #[.string s] w fun e w' => e = .returned (.bool true) ∧ IsGr w w' := by
  have hs' : ¬ (3000 : Int) < s.size := by omega
  have CA := fun w' (hg : IsGr w w') => dawake_any C w' (HTB.gr hg)
  have CR := fun w => RRight_any s w (by omega)
  have CP := fun w => plain_any s w
  have CD := C.digits s w M (p - (l2.length : Nat)) hs ⟨_, _, _, _, _, _, _, hspl, hM.symm, rfl⟩
  rw [hspl.right] at CR
  rw [hp] at CP
  have HZ : Hid (M ≠ 0) := hz
  obtain ⟨hb60, hep, hp0, hp1, hl⟩ := pl_spl hspl hp
  rw [bts_len] at hb60
  have CN := fun w => Number_any s w neg sg l1 dt l2 ep p hspl hb60 hep
  rw [hM] at CN
  have hMb : -(10 ^ 60) ≤ M ∧ M ≤ 10 ^ 60 := by
    rw [← hM]
    exact sgI_bound (dvl_bound (hspl.d1.app hspl.d2)) (by rw [List.length_append]; exact hl)
  obtain ⟨E, hE⟩ : ∃ E, p - ((l2.length : Nat) : Int) = E := ⟨_, rfl⟩
  have HB : Hid ((-160 ≤ E ∧ E ≤ 99) ∧ (-(10 ^ 60) ≤ M ∧ M ≤ 10 ^ 60) ∧ Sm M ∧ s.size ≤ 60) := ⟨by omega, hMb, by
    have h3 : (10 : Int) ^ 60 ≤ 4149515568880992958512407863691161151012446232242436899995657329690652811412908146399707048947103794288197886611300789182395151075411775307886874834113963687061181803401509523685376 := by decide +kernel
    unfold Sm; omega, hb60⟩
  rw [hE] at CD CN
  have HMS : Hid (M < 0) := hm
  clear hm hs hspl hM hz hp C HTB hE hb60 hep hp0 hp1 hl hMb
  go_enter Tryd.func5, Tryd.ntmps5
  go_wp2_with fail
  refine CD.mono ?_
  clear CD
  rintro e w1 ⟨d, pw, bl, rfl, hd, hdz, hg1⟩
  go_wp2_with fail
  refine (CR _).mono ?_
  clear CR
  rintro e w2 ⟨rfl, hg2⟩
  obtain rfl := hg2.symm

  obtain ⟨hdg, hdn, hd0, hdl, hbl, t, ht, hpw⟩ : Dgs (bts d) ∧ bts d ≠ [] ∧ (bts d).getD 0 0 ≠ 48 ∧ (bts d).getD ((bts d).length - 1) 0 ≠ 48 ∧ bl = decide (M < 0) ∧ ∃ t : Nat, dvl (bts d) * 10 ^ t = (M.natAbs : Int) ∧ pw = (if E + t < -1099511627776 then -1099511627776 else if 1099511627776 < E + t then 1099511627776 else E + t) := by
    rcases hd with ⟨h, _⟩ | ⟨_, h⟩
    · exact absurd h HZ.out
    · exact h
  have hpos : 0 < d.size := by rw [← bts_len]; exact List.length_pos_iff.2 hdn
  have hne := emp_neI hpos
  have hat0 := bts_at hpos
  have hatL := bts_at (show d.size - 1 < d.size by omega)
  rw [bts_len] at hdl
  obtain ⟨c0, hc0⟩ : ∃ c : Int, ((d[0]'hpos).toNat : Int) = c := ⟨_, rfl⟩
  rw [hc0] at hat0
  have q0 : (c0 == 48) = false := by rw [hat0] at hd0; simpa using hd0
  obtain ⟨L, hL⟩ : ∃ L, d.size - 1 = L := ⟨_, rfl⟩
  have e0 : IntKind.i64.wrap ((d.size : Int) - 1) = (L : Int) := by rw [IntKind.wrap_i64]; omega
  have hLs : L < d.size := by omega
  obtain ⟨cL, hcL⟩ : ∃ c : Int, ((d[L]'hLs).toNat : Int) = c := ⟨_, rfl⟩
  have qL : (cL == 48) = false := by
    have h1 : cL = (bts d).getD (d.size - 1) 0 := by rw [hatL, ← hcL]; simp only [hL]
    rw [← h1] at hdl
    simpa using hdl
  have hLs' : (L : Int) < d.size := by omega
  have hL0 : (0 : Int) ≤ L := by omega
  have hpos' : (0 : Int) < d.size := by omega
  have hr1 : decide (pw < -1099511627776) = false := decide_eq_false (by rw [hpw]; split <;> (try split) <;> omega)
  have hr2 : decide (1099511627776 < pw) = false := decide_eq_false (by rw [hpw]; split <;> (try split) <;> omega)
  have HD : Hid (Dgs (bts d) ∧ bts d ≠ [] ∧ (bts d).getD 0 0 ≠ 48 ∧ bl = decide (M < 0) ∧ dvl (bts d) * 10 ^ t = (M.natAbs : Int) ∧ pw = (if E + t < -1099511627776 then -1099511627776 else if 1099511627776 < E + t then 1099511627776 else E + t) ∧ d.size ≤ s.size) := ⟨hdg, hdn, hd0, hbl, ht, hpw, hdz⟩
  clear hd hdg hdn hd0 hdl hbl ht hpw hat0 hatL hL hdz

  obtain rfl : bl = true := by rw [HD.out.2.2.2.1]; exact decide_eq_true HMS.out
  have hD := dvl_bound HD.out.1
  obtain ⟨D, hDD⟩ : ∃ D, dvl (bts d) = D := ⟨_, rfl⟩
  rw [hDD] at hD
  have hDt : D * 10 ^ t = (M.natAbs : Int) := hDD ▸ HD.out.2.2.2.2.1
  have hDp : 0 < D := by
    rcases Int.lt_or_le 0 D with h | h
    · exact h
    · have : D = 0 := by omega
      rw [this, Int.zero_mul] at hDt
      have := HZ.out
      omega
  have ht10 := ten_pos t
  have ht1 : (10 : Int) ^ t ≤ D * 10 ^ t := by
    have h := Int.mul_le_mul_of_nonneg_right (show (1 : Int) ≤ D by omega) (Int.le_of_lt ht10)
    rwa [Int.one_mul] at h
  have hD60 : D ≤ 10 ^ 60 := by
    have h := Int.mul_le_mul_of_nonneg_left (show (1 : Int) ≤ 10 ^ t by omega) (show 0 ≤ D by omega)
    rw [Int.mul_one] at h
    have := HB.out.2.1
    omega
  have ht60 : t ≤ 60 := by
    rcases Nat.lt_or_ge 60 t with h | h
    · exfalso
      have h2 := pow_le_pow' (by decide : (1 : Int) ≤ 10) (show 61 ≤ t from h)
      have h3 : (10 : Int) ^ 60 < 10 ^ 61 := by decide +kernel
      have := HB.out.2.1
      omega
    · exact h
  have hpw : pw = E + t := by
    have h1 := HB.out.1
    have h2 := HD.out.2.2.2.2.2.1
    rw [if_neg (by omega), if_neg (by omega)] at h2
    exact h2
  have CDG := fun w => Digits_any d w (by have := HD.out.2.2.2.2.2.2; have := HB.out; omega)
  rw [nums_bts, dspec_dvl HD.out.1 HD.out.2.1 HD.out.2.2.1, hDD] at CDG
  have sD : Sm D := by
    have h3 : (10 : Int) ^ 60 ≤ 4149515568880992958512407863691161151012446232242436899995657329690652811412908146399707048947103794288197886611300789182395151075411775307886874834113963687061181803401509523685376 := by decide +kernel
    unfold Sm; omega
  have sN : Sm (-D) := by unfold Sm at sD ⊢; omega
  have HYT : Hid (-D * 10 ^ t = M) := by
    show _ = _
    have := HMS.out
    rw [Int.neg_mul, hDt]; omega
  have st := ten_sm t (by omega)
  have hge : decide (E ≤ pw) = true := decide_eq_true (by omega)
  have hge' : E ≤ pw := by omega
  have esub : IntKind.i64.wrap (pw - E) = (t : Int) := by rw [IntKind.wrap_i64]; have := HB.out.1; omega
  have CTT := fun w => Ten_any (t : Int) w (by omega)
  rw [Int.toNat_natCast] at CTT
  have hzz : (cmpI M M == 0) = true := by unfold cmpI; simp
  have sM := HB.out.2.2.1
  clear hD hDD hDt hDp ht10 ht1 hD60 ht60 hpw

  go_wp2_with fail
  refine (CP _).mono ?_
  clear CP
  rintro e w4 ⟨rfl, hg4⟩
  obtain rfl := hg4.symm
  go_wp2_with fail
  refine (CN _).mono ?_
  clear CN
  rintro e w5 ⟨v, rfl, hv, hg5⟩
  obtain ⟨vs, va, vn, vc, rfl⟩ := hv.shape
  have hX := BgB.new hv
  obtain ⟨v1s, v1a, v1n, v1c, hxb, hxB⟩ := hX
  obtain ⟨x0, x1, f0, f1⟩ := block_two hxb
  have HG5 : Hid (IsGr w (w5.alloc (.cells #[.bool vs, .slice va vn vc] 29))) := (hg1.trans hg5).trans ((IsGr.refl w5).alloc _)
  have HX : Hid (BgB (w5.alloc (.cells #[.bool vs, .slice va vn vc] 29)) w5.heap.size M ∧ IsGr w w5) := ⟨BgB.new hv, hg1.trans hg5⟩
  have HV : Hid (IsBig w5 (.agg #[.bool vs, .slice va vn vc]) M) := hv

  clear hxb hxB hv hg5 x0 x1 f0 f1
  go_wp2_with fail
  refine (CDG _).mono ?_
  clear CDG
  rintro e w6 ⟨yv, okk, rfl, hT, hg6⟩
  obtain ⟨rfl, hyB⟩ : okk = true ∧ IsBig w6 yv D := by
    rcases hT with ⟨h1, z, h2, h3⟩ | ⟨_, h2, _⟩
    · injection h2 with h2
      rw [← h2] at h3
      exact ⟨h1, by simpa [sgn] using h3⟩
    · cases h2
  obtain ⟨ys, ya, yn, yc, rfl⟩ := hyB.shape
  have HXY : Hid (BgB (w6.alloc (.cells #[.bool ys, .slice ya yn yc] 29)) w5.heap.size M ∧ BgB (w6.alloc (.cells #[.bool ys, .slice ya yn yc] 29)) w6.heap.size D ∧ IsGr w (w6.alloc (.cells #[.bool ys, .slice ya yn yc] 29)) ∧ w.heap.size ≤ w5.heap.size ∧ w5.heap.size < w6.heap.size) := ⟨(HX.out.1.gr hg6).gr ((IsGr.refl w6).alloc _), BgB.new hyB, (HG5.out.trans hg6).trans ((IsGr.refl w6).alloc _), HX.out.2.size, by have := hg6.size; simp at this; omega⟩
  clear hT hyB hg6

  go_upto_region 15 with fail
  obtain ⟨PX, hPX⟩ : ∃ P, w5.heap.size = P := ⟨_, rfl⟩
  obtain ⟨PY, hPY⟩ : ∃ P, w6.heap.size = P := ⟨_, rfl⟩
  obtain ⟨w7, hw7⟩ : ∃ W, w6.alloc (.cells #[.bool ys, .slice ya yn yc] 29) = W := ⟨_, rfl⟩
  rw [hPX, hPY, hw7] at HXY
  rw [hPX, hPY, hw7]
  clear hPX hPY hw7
  obtain ⟨b0s, b0a, b0n, b0c, hyb, hyB⟩ := HXY.out.2.1
  obtain ⟨d0, d1, g0, g1⟩ := block_two hyb
  have CMn := Minus_any _ D w7 hyB sD
  rw [Int.zero_sub] at CMn
  clear hyb hyB
  go_wp2_with fail
  refine CMn.mono ?_
  clear CMn
  rintro e w8 ⟨R, rfl, hR, hg8⟩
  obtain ⟨Rs, Ra, Rn, Rc, rfl⟩ := hR.shape
  have k0 := cellk d0 hg8
  have k1 := cellk d1 hg8
  have k2 := frzk d0 g0 hg8
  have k3 := frzk d1 g1 hg8
  have HW : Hid (BgB ((w8.setCell ⟨PY, 0, none⟩ (.bool Rs)).setCell ⟨PY, 1, none⟩ (.slice Ra Rn Rc)) PX M ∧ BgB ((w8.setCell ⟨PY, 0, none⟩ (.bool Rs)).setCell ⟨PY, 1, none⟩ (.slice Ra Rn Rc)) PY (-D) ∧ IsGr w ((w8.setCell ⟨PY, 0, none⟩ (.bool Rs)).setCell ⟨PY, 1, none⟩ (.slice Ra Rn Rc))) := by
    have h1 := HXY.out.1.gr hg8
    have h2 := HXY.out.2.1.gr hg8
    exact ⟨h2.other h1 (by have := HXY.out; omega), h2.put hR, IsGr.of_below (below_put (HXY.out.2.2.1.trans hg8).below (by have := HXY.out; omega))⟩
  clear hR hg8 d0 d1 g0 g1
  go_upto_region 16 with fail
  obtain ⟨w9, hw9⟩ : ∃ W, (w8.setCell ⟨PY, 0, none⟩ (.bool Rs)).setCell ⟨PY, 1, none⟩ (.slice Ra Rn Rc) = W := ⟨_, rfl⟩
  rw [hw9] at HW ⊢
  clear hw9 k0 k1 k2 k3

  obtain ⟨a0s, a0a, a0n, a0c, hab, haB⟩ := HW.out.1
  obtain ⟨b1s, b1a, b1n, b1c, hbb, hbB⟩ := HW.out.2.1
  obtain ⟨m0, m1, -, -⟩ := block_two hab
  obtain ⟨n0, n1, -, -⟩ := block_two hbb
  have HBB : Hid (IsBig w9 (.agg #[.bool a0s, .slice a0a a0n a0c]) M ∧ IsBig w9 (.agg #[.bool b1s, .slice b1a b1n b1c]) (-D)) := ⟨haB, hbB⟩
  clear hab haB hbb hbB
  obtain ⟨C, hin, hcl, hcells, hgr⟩ : ∃ C : World → Prop, (∀ w', IsGr w9 w' → C w') ∧ (∀ u u', C u → IsGr u u' → C u') ∧ (∀ w', C w' → (w'.cell? ⟨PX, 0, none⟩ = some (.bool a0s)) ∧ (w'.cell? ⟨PX, 1, none⟩ = some (.slice a0a a0n a0c)) ∧ (w'.cell? ⟨PY, 0, none⟩ = some (.bool b1s)) ∧ (w'.cell? ⟨PY, 1, none⟩ = some (.slice b1a b1n b1c))) ∧ (∀ w', C w' → IsGr w9 w') := ⟨fun w' => IsGr w9 w', fun _ h => h, fun _ _ h k => h.trans k, fun w' hg => ⟨cellk m0 hg, cellk m1 hg, cellk n0 hg, cellk n1 hg⟩, fun _ h => h⟩
  refine wp_region_held_drew (S := C) (by kernel_rfl) (by (try dsimp only); exact hin _ (by with_reducible repeat (first | exact IsGr.refl _ | refine IsGr.gr ?_ _ _ | refine IsGr.alloc ?_ _ | refine IsGr.drew ?_ | refine IsGr.drewN ?_ _))) (fun hHeld => ?_)
  refine wpAnyH_take (i := 0) (oi := { dst := some 105, op := Op.move (Operand.tmp 10), type := 4, pos := "law.go:139", after := #[], guard := none }) (v := ?_) rfl (by kernel_rfl) (by kernel_rfl) (by kernel_rfl) (fun _ _ _ h => h) (Or.inl ⟨by rfl, ?_⟩) (by assumption) ?_
  rotate_left
  · (intro w hSw; (try dsimp only at hSw); (try have hcs := hcells w hSw); (try go_split_ands); go_simp <;> with_reducible rfl)
  (try simp only [Act.put, List.setIfInBounds_toArray, List.set_cons_zero, List.set_cons_succ])
  refine wpAnyH_take (i := 1) (oi := { dst := some 106, op := Op.move (Operand.tmp 105), type := 4, pos := "law.go:139", after := #[{ on := 0, ground := Ground.data }], guard := none }) (v := ?_) rfl (by kernel_rfl) (by kernel_rfl) (by kernel_rfl) (fun _ _ _ h => h) (Or.inl ⟨by rfl, ?_⟩) (by assumption) ?_
  rotate_left
  · (intro w hSw; (try dsimp only at hSw); (try have hcs := hcells w hSw); (try go_split_ands); go_simp <;> with_reducible rfl)
  (try simp only [Act.put, List.setIfInBounds_toArray, List.set_cons_zero, List.set_cons_succ])
  refine wpAnyH_take (i := 2) (oi := { dst := some 107, op := Op.move (Operand.tmp 4), type := 3, pos := "law.go:139", after := #[{ on := 1, ground := Ground.guard }], guard := some (1, true) }) (v := ?_) rfl (by kernel_rfl) (by kernel_rfl) (by kernel_rfl) (fun _ _ _ h => h) (Or.inl ⟨by rfl, ?_⟩) (by assumption) ?_
  rotate_left
  · (intro w hSw; (try dsimp only at hSw); (try have hcs := hcells w hSw); (try go_split_ands); go_simp <;> with_reducible rfl)
  (try simp only [Act.put, List.setIfInBounds_toArray, List.set_cons_zero, List.set_cons_succ])
  refine wpAnyH_take (i := 3) (oi := { dst := some 108, op := Op.move (Operand.tmp 8), type := 3, pos := "law.go:139", after := #[{ on := 1, ground := Ground.guard }], guard := some (1, true) }) (v := ?_) rfl (by kernel_rfl) (by kernel_rfl) (by kernel_rfl) (fun _ _ _ h => h) (Or.inl ⟨by rfl, ?_⟩) (by assumption) ?_
  rotate_left
  · (intro w hSw; (try dsimp only at hSw); (try have hcs := hcells w hSw); (try go_split_ands); go_simp <;> with_reducible rfl)
  (try simp only [Act.put, List.setIfInBounds_toArray, List.set_cons_zero, List.set_cons_succ])
  refine wpAnyH_take (i := 4) (oi := { dst := some 109, op := Op.binOp BinOp.geq 3 (Operand.tmp 107) (Operand.tmp 108) 3, type := 4, pos := "law.go:139", after := #[{ on := 2, ground := Ground.data }, { on := 3, ground := Ground.data }, { on := 1, ground := Ground.guard }], guard := some (1, true) }) (v := ?_) rfl (by kernel_rfl) (by kernel_rfl) (by kernel_rfl) (fun _ _ _ h => h) (Or.inl ⟨by rfl, ?_⟩) (by assumption) ?_
  rotate_left
  · (intro w hSw; (try dsimp only at hSw); (try have hcs := hcells w hSw); (try go_split_ands); go_simp <;> with_reducible rfl)
  (try simp only [Act.put, List.setIfInBounds_toArray, List.set_cons_zero, List.set_cons_succ])
  refine wpAnyH_take (i := 5) (oi := { dst := some 110, op := Op.pick (Operand.tmp 106) (Operand.tmp 109) (Operand.const (Value.bool false)), type := 4, pos := "law.go:139", after := #[{ on := 1, ground := Ground.data }, { on := 4, ground := Ground.data }], guard := none }) (v := ?_) rfl (by kernel_rfl) (by kernel_rfl) (by kernel_rfl) (fun _ _ _ h => h) (Or.inl ⟨by rfl, ?_⟩) (by assumption) ?_
  rotate_left
  · (intro w hSw; (try dsimp only at hSw); (try have hcs := hcells w hSw); (try go_split_ands); go_simp <;> with_reducible rfl)
  (try simp only [Act.put, List.setIfInBounds_toArray, List.set_cons_zero, List.set_cons_succ])
  refine wpAnyH_take (i := 6) (oi := { dst := some 111, op := Op.move (Operand.tmp 110), type := 4, pos := "law.go:139", after := #[{ on := 5, ground := Ground.data }, { on := 1, ground := Ground.chain }], guard := none }) (v := ?_) rfl (by kernel_rfl) (by kernel_rfl) (by kernel_rfl) (fun _ _ _ h => h) (Or.inl ⟨by rfl, ?_⟩) (by assumption) ?_
  rotate_left
  · (intro w hSw; (try dsimp only at hSw); (try have hcs := hcells w hSw); (try go_split_ands); go_simp <;> with_reducible rfl)
  (try simp only [Act.put, List.setIfInBounds_toArray, List.set_cons_zero, List.set_cons_succ])
  refine wpAnyH_take (i := 7) (oi := { dst := some 112, op := Op.load 29 (Operand.tmp 9), type := 29, pos := "law.go:139", after := #[{ on := 6, ground := Ground.guard }], guard := some (6, true) }) (v := ?_) rfl (by kernel_rfl) (by kernel_rfl) (by kernel_rfl) (fun _ _ _ h => h) (Or.inl ⟨by rfl, ?_⟩) (by assumption) ?_
  rotate_left
  · (intro w hSw; (try dsimp only at hSw); (try have hcs := hcells w hSw); (try go_split_ands); go_simp <;> with_reducible rfl)
  (try simp only [Act.put, List.setIfInBounds_toArray, List.set_cons_zero, List.set_cons_succ])
  refine wpAnyH_take (i := 8) (oi := { dst := some 113, op := Op.move (Operand.tmp 4), type := 3, pos := "law.go:139", after := #[{ on := 6, ground := Ground.guard }], guard := some (6, true) }) (v := ?_) rfl (by kernel_rfl) (by kernel_rfl) (by kernel_rfl) (fun _ _ _ h => h) (Or.inl ⟨by rfl, ?_⟩) (by assumption) ?_
  rotate_left
  · (intro w hSw; (try dsimp only at hSw); (try have hcs := hcells w hSw); (try go_split_ands); go_simp <;> with_reducible rfl)
  (try simp only [Act.put, List.setIfInBounds_toArray, List.set_cons_zero, List.set_cons_succ])
  refine wpAnyH_take (i := 9) (oi := { dst := some 114, op := Op.move (Operand.tmp 8), type := 3, pos := "law.go:139", after := #[{ on := 6, ground := Ground.guard }], guard := some (6, true) }) (v := ?_) rfl (by kernel_rfl) (by kernel_rfl) (by kernel_rfl) (fun _ _ _ h => h) (Or.inl ⟨by rfl, ?_⟩) (by assumption) ?_
  rotate_left
  · (intro w hSw; (try dsimp only at hSw); (try have hcs := hcells w hSw); (try go_split_ands); go_simp <;> with_reducible rfl)
  (try simp only [Act.put, List.setIfInBounds_toArray, List.set_cons_zero, List.set_cons_succ])
  refine wpAnyH_take (i := 10) (oi := { dst := some 115, op := Op.binOp BinOp.sub 3 (Operand.tmp 113) (Operand.tmp 114) 3, type := 3, pos := "law.go:139", after := #[{ on := 8, ground := Ground.data }, { on := 9, ground := Ground.data }, { on := 6, ground := Ground.guard }], guard := some (6, true) }) (v := ?_) rfl (by kernel_rfl) (by kernel_rfl) (by kernel_rfl) (fun _ _ _ h => h) (Or.inl ⟨by rfl, ?_⟩) (by assumption) ?_
  rotate_left
  · (intro w hSw; (try dsimp only at hSw); (try have hcs := hcells w hSw); (try go_split_ands); go_simp <;> with_reducible rfl)
  (try simp only [Act.put, List.setIfInBounds_toArray, List.set_cons_zero, List.set_cons_succ])
  refine wpAnyH_take (i := 13) (oi := { dst := some 118, op := Op.load 29 (Operand.tmp 7), type := 29, pos := "law.go:139", after := #[{ on := 6, ground := Ground.guard }], guard := some (6, true) }) (v := ?_) rfl (by kernel_rfl) (by kernel_rfl) (by kernel_rfl) (fun _ _ _ h => h) (Or.inl ⟨by rfl, ?_⟩) (by assumption) ?_
  rotate_left
  · (intro w hSw; (try dsimp only at hSw); (try have hcs := hcells w hSw); (try go_split_ands); go_simp <;> with_reducible rfl)
  (try simp only [Act.put, List.setIfInBounds_toArray, List.set_cons_zero, List.set_cons_succ])
  refine wpAnyH_ready (rs := [11]) (by kernel_rfl) (by simp) ?_
  refine AllReadyH.cons (o := { dst := some 116, op := Op.call { callee := Callee.value (Operand.func 14), args := #[Operand.tmp 115], argTypes := #[3] }, type := 29, pos := "law.go:139", after := #[{ on := 10, ground := Ground.data }, { on := 6, ground := Ground.chain }, { on := 6, ground := Ground.guard }], guard := some (6, true) }) rfl (fun K hK => ?_) ?_
  · go_simp
    refine (CTT _).mono ?_
    rintro e w10 ⟨T, rfl, hT, hg10⟩
    obtain ⟨Ts, Ta, Tn, Tc, rfl⟩ := hT.shape
    (try go_wp2_with fail)
    refine hK.out _ _ (by (try dsimp only); exact hcl _ _ hHeld (by first | with_reducible assumption | with_reducible exact IsGr.refl _ | with_reducible exact (IsGr.refl _).alloc _ | with_reducible exact ((IsGr.refl _).alloc _).alloc _ | assumption)) (fun hHeld2 => ?_)
    clear hK K hHeld
    have hHeld := hHeld2
    clear hHeld2
    (try simp only [Act.put, List.setIfInBounds_toArray, List.set_cons_zero, List.set_cons_succ])
    refine wpAnyH_ready (rs := [12]) (by kernel_rfl) (by simp) ?_
    refine AllReadyH.cons (o := { dst := some 117, op := Op.call { callee := Callee.value (Operand.func 13), args := #[Operand.tmp 112, Operand.tmp 116], argTypes := #[29, 29] }, type := 29, pos := "law.go:139", after := #[{ on := 7, ground := Ground.data }, { on := 11, ground := Ground.data }, { on := 11, ground := Ground.chain }, { on := 6, ground := Ground.guard }], guard := some (6, true) }) rfl (fun K hK => ?_) ?_
    · go_simp
      refine (BigMul_any _ _ (-D) (10 ^ t) _ (HBB.out.2.gr (hgr _ hHeld)) (hT.gr (by first | with_reducible assumption | with_reducible exact IsGr.refl _ | with_reducible exact (IsGr.refl _).alloc _ | with_reducible exact ((IsGr.refl _).alloc _).alloc _ | assumption)) sN st).mono ?_
      rintro e w11 ⟨N, rfl, hN, hg11⟩
      rw [HYT.out] at hN
      obtain ⟨Ns, Na, Nn, Nc, rfl⟩ := hN.shape
      (try go_wp2_with fail)
      refine hK.out _ _ (by (try dsimp only); exact hcl _ _ hHeld (by first | with_reducible assumption | with_reducible exact IsGr.refl _ | with_reducible exact (IsGr.refl _).alloc _ | with_reducible exact ((IsGr.refl _).alloc _).alloc _ | assumption)) (fun hHeld2 => ?_)
      clear hK K hHeld
      have hHeld := hHeld2
      clear hHeld2
      (try simp only [Act.put, List.setIfInBounds_toArray, List.set_cons_zero, List.set_cons_succ])
      refine wpAnyH_ready (rs := [14]) (by kernel_rfl) (by simp) ?_
      refine AllReadyH.cons (o := { dst := some 119, op := Op.call { callee := Callee.value (Operand.func 15), args := #[Operand.tmp 117, Operand.tmp 118], argTypes := #[29, 29] }, type := 3, pos := "law.go:139", after := #[{ on := 12, ground := Ground.data }, { on := 13, ground := Ground.data }, { on := 12, ground := Ground.chain }, { on := 6, ground := Ground.guard }], guard := some (6, true) }) rfl (fun K hK => ?_) ?_
      · go_simp
        refine (BigCmp_any _ _ M M _ (hN.gr (by first | with_reducible assumption | with_reducible exact IsGr.refl _ | with_reducible exact (IsGr.refl _).alloc _ | with_reducible exact ((IsGr.refl _).alloc _).alloc _ | assumption)) (HBB.out.1.gr (hgr _ hHeld)) sM sM).mono ?_
        rintro e w12 ⟨rfl, hg12⟩
        (try go_wp2_with fail)
        refine hK.out _ _ (by (try dsimp only); exact hcl _ _ hHeld (by first | with_reducible assumption | with_reducible exact IsGr.refl _ | with_reducible exact (IsGr.refl _).alloc _ | with_reducible exact ((IsGr.refl _).alloc _).alloc _ | assumption)) (fun hHeld2 => ?_)
        clear hK K hHeld
        have hHeld := hHeld2
        clear hHeld2
        (try simp only [Act.put, List.setIfInBounds_toArray, List.set_cons_zero, List.set_cons_succ])
        refine wpAnyH_take (i := 15) (oi := { dst := some 120, op := Op.binOp BinOp.eql 3 (Operand.tmp 119) (Operand.const (Value.int IntKind.i64 0)) 3, type := 4, pos := "law.go:139", after := #[{ on := 14, ground := Ground.data }, { on := 6, ground := Ground.guard }], guard := some (6, true) }) (v := ?_) rfl (by kernel_rfl) (by kernel_rfl) (by kernel_rfl) (fun _ _ _ h => h) (Or.inl ⟨by rfl, ?_⟩) (by assumption) ?_
        rotate_left
        · (intro w hSw; (try dsimp only at hSw); (try have hcs := hcells w hSw); (try go_split_ands); go_simp <;> with_reducible rfl)
        (try simp only [Act.put, List.setIfInBounds_toArray, List.set_cons_zero, List.set_cons_succ])
        refine wpAnyH_take (i := 16) (oi := { dst := some 121, op := Op.pick (Operand.tmp 111) (Operand.tmp 120) (Operand.const (Value.bool false)), type := 4, pos := "law.go:139", after := #[{ on := 6, ground := Ground.data }, { on := 15, ground := Ground.data }], guard := none }) (v := ?_) rfl (by kernel_rfl) (by kernel_rfl) (by kernel_rfl) (fun _ _ _ h => h) (Or.inl ⟨by rfl, ?_⟩) (by assumption) ?_
        rotate_left
        · (intro w hSw; (try dsimp only at hSw); (try have hcs := hcells w hSw); (try go_split_ands); go_simp <;> with_reducible rfl)
        (try simp only [Act.put, List.setIfInBounds_toArray, List.set_cons_zero, List.set_cons_succ])
        refine wpAnyH_take (i := 17) (oi := { dst := some 122, op := Op.move (Operand.tmp 121), type := 4, pos := "law.go:139", after := #[{ on := 16, ground := Ground.data }, { on := 14, ground := Ground.chain }], guard := none }) (v := ?_) rfl (by kernel_rfl) (by kernel_rfl) (by kernel_rfl) (fun _ _ _ h => h) (Or.inl ⟨by rfl, ?_⟩) (by assumption) ?_
        rotate_left
        · (intro w hSw; (try dsimp only at hSw); (try have hcs := hcells w hSw); (try go_split_ands); go_simp <;> with_reducible rfl)
        (try simp only [Act.put, List.setIfInBounds_toArray, List.set_cons_zero, List.set_cons_succ])
        refine wpAnyH_ready (rs := [18]) (by kernel_rfl) (by simp) ?_
        refine AllReadyH.cons (o := { dst := some 123, op := Op.call { callee := Callee.value (Operand.func 7), args := #[], argTypes := #[] }, type := 4, pos := "law.go:139", after := #[{ on := 17, ground := Ground.chain }, { on := 17, ground := Ground.guard }], guard := some (17, true) }) rfl (fun K hK => ?_) ?_
        · go_simp
          refine (CA _ (HW.out.2.2.trans (hgr _ hHeld))).mono ?_
          rintro e w13 ⟨rfl, hg13⟩
          (try go_wp2_with fail)
          refine hK.out _ _ (by (try dsimp only); exact hcl _ _ hHeld (by first | with_reducible assumption | with_reducible exact IsGr.refl _ | with_reducible exact (IsGr.refl _).alloc _ | with_reducible exact ((IsGr.refl _).alloc _).alloc _ | assumption)) (fun hHeld2 => ?_)
          clear hK K hHeld
          have hHeld := hHeld2
          clear hHeld2
          (try simp only [Act.put, List.setIfInBounds_toArray, List.set_cons_zero, List.set_cons_succ])
          refine wpAnyH_take (i := 19) (oi := { dst := some 124, op := Op.pick (Operand.tmp 122) (Operand.tmp 123) (Operand.const (Value.bool false)), type := 4, pos := "law.go:139", after := #[{ on := 17, ground := Ground.data }, { on := 18, ground := Ground.data }], guard := none }) (v := ?_) rfl (by kernel_rfl) (by kernel_rfl) (by kernel_rfl) (fun _ _ _ h => h) (Or.inl ⟨by rfl, ?_⟩) (by assumption) ?_
          rotate_left
          · (intro w hSw; (try dsimp only at hSw); (try have hcs := hcells w hSw); (try go_split_ands); go_simp <;> with_reducible rfl)
          (try simp only [Act.put, List.setIfInBounds_toArray, List.set_cons_zero, List.set_cons_succ])
          refine wpAnyH_take (i := 20) (oi := { dst := some 2, op := Op.assign (Operand.tmp 124), type := 4, pos := "law.go:139", after := #[{ on := 19, ground := Ground.data }, { on := 18, ground := Ground.chain }, { on := 0, ground := Ground.phase }, { on := 1, ground := Ground.phase }, { on := 2, ground := Ground.phase }, { on := 3, ground := Ground.phase }, { on := 4, ground := Ground.phase }, { on := 5, ground := Ground.phase }, { on := 6, ground := Ground.phase }, { on := 7, ground := Ground.phase }, { on := 8, ground := Ground.phase }, { on := 9, ground := Ground.phase }, { on := 10, ground := Ground.phase }, { on := 11, ground := Ground.phase }, { on := 12, ground := Ground.phase }, { on := 13, ground := Ground.phase }, { on := 14, ground := Ground.phase }, { on := 15, ground := Ground.phase }, { on := 16, ground := Ground.phase }, { on := 17, ground := Ground.phase }, { on := 18, ground := Ground.phase }, { on := 19, ground := Ground.phase }], guard := none }) (v := ?_) rfl (by kernel_rfl) (by kernel_rfl) (by kernel_rfl) (fun _ _ _ h => h) (Or.inl ⟨by rfl, ?_⟩) (by assumption) ?_
          rotate_left
          · (intro w hSw; (try dsimp only at hSw); (try have hcs := hcells w hSw); (try go_split_ands); go_simp <;> with_reducible rfl)
          (try simp only [Act.put, List.setIfInBounds_toArray, List.set_cons_zero, List.set_cons_succ])
          refine wpAnyH_done (by kernel_rfl) ?_ _
          have hgF := hgr _ hHeld
          have HFG : Hid (IsGr w w13) := HW.out.2.2.trans hgF
          clear hHeld hgr hin hcl hcells hgF
          go_wp2_with fail
          go_ret
          exact ⟨rfl, HFG.out⟩
        exact AllReadyH.nil
      exact AllReadyH.nil
    exact AllReadyH.nil
  exact AllReadyH.nil
theorem law_digits (C : DecC) (s : ByteArray) (w : World) (HTB : TabW w) : Calls Tryd.prog 5 #[.string s] w fun e w' => e = .returned (.bool true) ∧ IsGr w w' := by
  by_cases hs : s.size ≤ 3000
  · cases hr : rgtB (bts s) with
    | false => exact digits_wrong C s w hs hr HTB
    | true =>
      obtain ⟨M, E, neg, sg, l1, dt, l2, ep, p, hspl, hM, hE⟩ := num_of hr
      cases hp : plB (bts s) with
      | false =>
        by_cases hz : M = 0
        · exact digits_zn C s w hs neg sg l1 dt l2 ep p hspl M hM.symm hz hp HTB
        · exact digits_nn C s w hs neg sg l1 dt l2 ep p hspl M hM.symm hz hp HTB
      | true =>
        by_cases hz : M = 0
        · exact digits_zy C s w hs neg sg l1 dt l2 ep p hspl M hM.symm hz hp HTB
        · by_cases hm : M < 0
          · exact digits_nyn C s w hs neg sg l1 dt l2 ep p hspl M hM.symm hz hm hp HTB
          · exact digits_nyp C s w hs neg sg l1 dt l2 ep p hspl M hM.symm hz (by omega) hp HTB
  · exact digits_big C s w hs HTB
end Go.Proofs.YtfpifbfnebfdaaaDoor
