/- Package decimal over the loaded program: Text. -/
import Derived.Test.YtfpifbfnebfdaaaDoorJ6
import Derived.Test.YtfpifbfnebfdaaaDoorI14
import Derived.Laws.Concat
namespace Go.Proofs.YtfpifbfnebfdaaaDoor
open Go.RowKit Go.Shelf
attribute [local go_sem] Gr.size Gr.cell? Gr.frozen? Gr.setCell Gr.drew Gr.drewN Gr.of_drew Gr.of_drewN Gr.gr Gr.lt_of1 Gr.le_of1 Gr.lt_of2 Gr.le_of2 Gr.lt_of3 Gr.le_of3 Gr.lt_of4 Gr.le_of4 Gr.lt_of5 Gr.le_of5 Gr.lt_of6 Gr.le_of6 Gr.lt_of7 Gr.le_of7 Gr.lt_of8 Gr.le_of8 Gr.lt_of9 Gr.le_of9 Gr.lt_of10 Gr.le_of10 Gr.lt_of11 Gr.le_of11 Gr.lt_of12 Gr.le_of12 Gr.lt_of13 Gr.le_of13 Gr.lt_of14 Gr.le_of14 Gr.lt_of15 Gr.le_of15 Gr.lt_of16 Gr.le_of16 Gr.lt_of17 Gr.le_of17 Gr.lt_of18 Gr.le_of18 Gr.lt_of19 Gr.le_of19 Gr.lt_of20 Gr.le_of20 Gr.lt_of21 Gr.le_of21 Gr.lt_of22 Gr.le_of22 Gr.lt_of23 Gr.le_of23 Gr.lt_of24 Gr.le_of24
theorem catT (a b : ByteArray) (h : a.size + b.size ≤ 100000) : ∀ w, (Op.stringOp .add a b).run Tryd.prog w = .ok (.string (a ++ b)) w := fun w => run_string_add_sum (P := Tryd.prog) w a b (by omega)
theorem btT_app (a b : ByteArray) : bts (a ++ b) = bts a ++ bts b := by
  unfold bts
  rw [← List.map_append]; simp [ByteArray.data_append]
/-- The digits of a whole number, as the library writes them. -/
theorem dec_spec : ∀ (f m : Nat), m < 10 ^ f → 0 < f → ∃ D, (Lib.decDigits m).map (fun b => (b.toNat : Int)) = D ∧ Dgs D ∧ dvl D = (m : Int) ∧ D ≠ [] ∧ (D.length = 1 ∨ D.getD 0 0 ≠ 48) ∧ D.length ≤ f ∧ (0 < m → D.getD 0 0 ≠ 48)
  | 0, _, _, h => absurd h (by omega)
  | f + 1, m, hm, _ => by
    have hb : ∀ r : Nat, r < 10 → ((UInt8.ofNat (48 + r)).toNat : Int) = 48 + (r : Int) := fun r hr => by
      simp; omega
    by_cases h : m < 10
    · refine ⟨[48 + (m : Int)], ?_, ?_, ?_, by simp, Or.inl rfl, by simp, fun h0 => by simp; omega⟩
      · rw [Lib.decDigits, dif_pos h, List.map_cons, List.map_nil, hb m h]
      · intro c hc; simp at hc; exact dg_of (by omega)
      · simp [dvl, dvF]; omega
    · have hf : 0 < f := by
        rcases Nat.eq_zero_or_pos f with h0 | h0
        · subst h0; simp at hm; omega
        · exact h0
      obtain ⟨D, h1, h2, h3, h4, h5, h6, h7⟩ := dec_spec f (m / 10) (by rw [Nat.pow_succ] at hm; omega) hf
      have hg : (D ++ [48 + ((m % 10 : Nat) : Int)]).getD 0 0 = D.getD 0 0 := by
        cases D with
        | nil => exact absurd rfl h4
        | cons x D => rfl
      have hn := h7 (by omega)
      refine ⟨D ++ [48 + ((m % 10 : Nat) : Int)], ?_, h2.app (fun c hc => by simp at hc; exact dg_of (by omega)), ?_, by simp, Or.inr (hg ▸ hn), by simp; omega, fun _ => hg ▸ hn⟩
      · rw [Lib.decDigits, dif_neg h, List.map_append, h1, List.map_cons, List.map_nil, hb _ (by omega)]
      · rw [dvl_snoc, h3]; omega
theorem itoa_cut (n : Int) : Lib.trimPrefix (Lib.itoa n) [45] = Lib.decDigits n.natAbs ∧ Lib.hasPrefix (Lib.itoa n) [45] = decide (n < 0) := by
  unfold Lib.itoa
  by_cases h : n < 0
  · rw [if_pos h, decide_eq_true h]
    have hp : Lib.hasPrefix (45 :: Lib.decDigits n.natAbs) [45] = true := by simp [Lib.hasPrefix]
    exact ⟨by unfold Lib.trimPrefix; rw [hp, if_pos rfl]; rfl, hp⟩
  · rw [if_neg h, decide_eq_false h, show n.toNat = n.natAbs by omega]
    have hp : Lib.hasPrefix (Lib.decDigits n.natAbs) [45] = false := by
      rw [pre_eq]
      obtain ⟨D, h1, h2, _, h4, _⟩ := dec_spec (n.natAbs + 1) n.natAbs (Nat.lt_trans (Nat.lt_succ_self _) (Nat.lt_pow_self (by omega))) (by omega)
      rw [h1]
      refine decide_eq_false ?_
      cases D with
      | nil => exact absurd rfl h4
      | cons x D => have := dg_range (h2 x (by simp)); simp; omega
    exact ⟨by unfold Lib.trimPrefix; rw [hp, if_neg (by simp)], hp⟩
theorem rep_bts (c : Nat) : (Lib.repeatL [48] c).map (fun b => (b.toNat : Int)) = List.replicate c 48 := by
  induction c with
  | zero => rfl
  | succ c ih => rw [Lib.repeatL, List.map_append, ih, List.replicate_succ]; rfl
theorem dvl_reps (c : Nat) (l : List Int) : dvl (List.replicate c 48 ++ l) = dvl l := by
  induction c with
  | zero => rfl
  | succ c ih => rw [List.replicate_succ, List.cons_append, dvl_cons, ih]; omega
set_option maxRecDepth 20000 in set_option maxHeartbeats 2000000 in
theorem dtext_out (n fine : Int) (w : World) (hf : ¬ (0 ≤ fine ∧ fine ≤ 9)) : Calls Tryd.prog 18 #[.int .i64 n, .int .i64 fine] w fun e w' => e = .returned (.string (strOfNums (textU n fine))) ∧ IsGr w w' := by
  have CU := fun w => dunit_any fine false (decide_eq_false hf) w
  have HE : Hid (strOfNums (textU n fine) = { data := #[] }) := by
    show _ = _
    unfold textU; rw [if_pos (by omega)]; decide +kernel
  clear hf
  go_enter Tryd.func18, Tryd.ntmps18
  go_wp2_with fail
  refine (CU _).mono ?_
  rintro e w2 ⟨rfl, hw⟩
  obtain rfl := hw.symm
  go_wp2_with fail
  go_ret
  rw [HE.out]
  exact ⟨rfl, IsGr.refl _⟩

set_option maxRecDepth 20000 in set_option maxHeartbeats 2000000 in
theorem dtext_in (n fine : Int) (w : World) (HTB : TabW w) (hn : I64 n) (hf : 0 ≤ fine ∧ fine ≤ 9) : Calls Tryd.prog 18 #[.int .i64 n, .int .i64 fine] w fun e w' => e = .returned (.string (strOfNums (textU n fine))) ∧ IsGr w w' := by
  have CU := fun w => dunit_any fine true (decide_eq_true hf) w
  have hn1 : n.natAbs < 10 ^ 20 := by unfold I64 at hn; omega
  have hn2 : -9223372036854775808 ≤ n ∧ n ≤ 9223372036854775807 := by unfold I64 at hn; omega
  have CI := Tryd.strconv_Itoa n hn2.1 hn2.2 w HTB
  have CP := fun w => Tryd.strings_CutPrefix { data := (Lib.itoa n).toArray } { data := #[45] } w
  obtain ⟨h1, h2⟩ := itoa_cut n
  have h3 : Lib.trimPrefix (ByteArray.mk (Lib.itoa n).toArray).data.toList (ByteArray.mk #[45]).data.toList = Lib.decDigits n.natAbs := h1
  have h4 : Lib.hasPrefix (ByteArray.mk (Lib.itoa n).toArray).data.toList (ByteArray.mk #[45]).data.toList = decide (n < 0) := h2
  rw [h3, h4] at CP
  obtain ⟨D, d1, d2, d3, d4, d5, d6, -⟩ := dec_spec 20 n.natAbs hn1 (by omega)
  have hD : bts { data := (Lib.decDigits n.natAbs).toArray } = D := d1
  obtain ⟨S, hS⟩ : ∃ S, ({ data := (Lib.decDigits n.natAbs).toArray } : ByteArray) = S := ⟨_, rfl⟩
  rw [hS] at CP hD
  obtain ⟨S0, hS0⟩ : ∃ S0, ({ data := (Lib.itoa n).toArray } : ByteArray) = S0 := ⟨_, rfl⟩
  rw [hS0] at CP CI
  have HF : Hid (0 ≤ fine ∧ fine ≤ 9) := hf
  have HN : Hid (n.natAbs < 10 ^ 20 ∧ I64 n) := ⟨hn1, hn⟩
  have hsz : S.size = D.length := by rw [← bts_len, hD]
  have hs20 : S.size ≤ 20 := by omega
  have hs0 : 0 < S.size := by have := List.length_pos_iff.2 d4; omega
  have HE : Hid (∀ s : ByteArray, bts s = (if n < 0 then [45] else []) ++ (dgsN (n.natAbs / 10 ^ fine.toNat) ++ ((if frcU n fine = [] then [] else [46]) ++ frcU n fine)) → s = strOfNums (textU n fine)) := by
    intro s hs
    refine bts_inj ?_
    rw [hs, bts_of (textU_bytes n fine hn1).1]
    unfold textU
    rw [if_neg (show ¬ (fine < 0 ∨ 9 < fine) by omega)]
  obtain ⟨b, hb⟩ : ∃ b, decide (n < 0) = b := ⟨_, rfl⟩
  rw [hb] at CP
  have HB : Hid (decide (n < 0) = b) := hb
  by_cases hl : (S.size : Int) ≤ fine
  · obtain ⟨c, hc⟩ : ∃ c : Nat, c = fine.toNat + 1 - S.size := ⟨_, rfl⟩
    have hc2 : fine + 1 - (S.size : Int) = (c : Int) := by omega
    have e1 : IntKind.i64.wrap (fine + 1) = fine + 1 := by rw [IntKind.wrap_i64]; omega
    have e2 : IntKind.i64.wrap (fine + 1 - (S.size : Int)) = (c : Int) := by rw [IntKind.wrap_i64]; omega
    have h10 : ({ data := #[48] } : ByteArray).size = 1 := rfl
    have CR := fun w => Tryd.strings_Repeat { data := #[48] } c w (by omega) (by rw [h10]; omega)
    have hZ : bts { data := (Lib.repeatL (ByteArray.mk #[48]).data.toList c).toArray } = List.replicate c 48 := rep_bts c
    obtain ⟨Z, hZe⟩ : ∃ Z, ({ data := (Lib.repeatL (ByteArray.mk #[48]).data.toList c).toArray } : ByteArray) = Z := ⟨_, rfl⟩
    rw [hZe] at CR hZ
    have hZs : Z.size = c := by rw [← bts_len, hZ, List.length_replicate]
    have hcat := catT Z S (by omega)
    have HP : Hid (Dgs (bts (Z ++ S)) ∧ dvl (bts (Z ++ S)) = (n.natAbs : Int) ∧ fine.toNat < (Z ++ S).size ∧ ((bts (Z ++ S)).length = fine.toNat + 1 ∨ (bts (Z ++ S)).getD 0 0 ≠ 48) ∧ (Z ++ S).size ≤ 25) := by
      have hz2 : (Z ++ S).size = fine.toNat + 1 := by rw [ByteArray.size_append]; omega
      refine ⟨?_, ?_, by omega, Or.inl (by rw [bts_len, hz2]), by omega⟩
      · rw [btT_app, hZ, hD]
        intro x hx
        rcases List.mem_append.1 hx with h | h
        · rw [List.eq_of_mem_replicate h]; rfl
        · exact d2 x h
      · rw [btT_app, hZ, hD, dvl_reps, d3]
    obtain ⟨PS, hPS⟩ : ∃ PS, Z ++ S = PS := ⟨_, rfl⟩
    rw [hPS] at HP hcat
    clear h1 h2 h3 h4 d1 d2 d3 d4 d5 d6 hD hS hS0 hn1 hn2 hn hb HTB hsz hZ hZe hc hPS hs0 h10 hZs
    go_enter Tryd.func18, Tryd.ntmps18
    go_wp2_with fail
    refine (CU _).mono ?_
    clear CU
    rintro e w2 ⟨rfl, hw⟩
    obtain rfl := hw.symm
    go_wp2_with fail
    refine CI.mono ?_
    clear CI
    rintro e w2 ⟨rfl, kk, os, hgk⟩
    have HG : Hid (IsGr w w2) := by show IsGr _ _; rw [hgk]; exact ⟨os, w.drawn + kk, rfl⟩
    clear hgk
    go_wp2_with fail
    refine (CP _).mono ?_
    clear CP
    rintro e w3 ⟨rfl, hw⟩
    obtain rfl := hw.symm
    go_wp2_with fail
    refine (CR _).mono ?_
    clear CR
    rintro e w3 ⟨rfl, hb3⟩
    have HG3 : Hid (IsGr w w3) := HG.out.trans (IsGr.of_below hb3)
    clear hb3 HG
    have HPP := HP
    obtain ⟨hP1, hP2, hP3, hP4, hP5⟩ := HP.out
    obtain ⟨hc1, hc2⟩ := cut_spec hP1 hP2 (by rw [bts_len]; exact hP3) hP4 (by rw [bts_len]; exact hP5)
    rw [bts_len] at hc1 hc2
    obtain ⟨a, ha⟩ : ∃ a, PS.size - fine.toNat = a := ⟨_, rfl⟩
    have hfa : (PS.size : Int) - fine = (a : Int) := by have := HF.out; omega
    have hal : a ≤ PS.size := by omega
    rw [ha] at hc1 hc2
    have hB1 : bts (PS.extract 0 a) = dgsN (n.natAbs / 10 ^ fine.toNat) := by rw [bts_extract, List.drop_zero, Nat.sub_zero]; exact hc1
    have hB2 : bts (PS.extract a PS.size) = padN fine.toNat (n.natAbs % 10 ^ fine.toNat) := by
      rw [bts_extract, List.take_of_length_le (by rw [List.length_drop, bts_len]; omega)]; exact hc2
    have CTR := fun w => Tryd.strings_TrimRight_one (PS.extract a PS.size) 48 (by decide) w (by rw [size_extract (Nat.le_refl _)]; have := hP5; omega)
    have hB3 : bts { data := (Lib.trimRightB (PS.extract a PS.size).data.toList 48).toArray } = frcU n fine := by
      rw [bts_mk, trimR_bts]; unfold frcU; rw [← hB2]; rfl
    obtain ⟨A, hA⟩ : ∃ A, PS.extract 0 a = A := ⟨_, rfl⟩
    obtain ⟨F, hF⟩ : ∃ F, ({ data := (Lib.trimRightB (PS.extract a PS.size).data.toList 48).toArray } : ByteArray) = F := ⟨_, rfl⟩
    rw [hF] at CTR hB3
    rw [hA] at hB1
    have e7 : IntKind.i64.wrap ((PS.size : Int) - fine) = (a : Int) := by rw [IntKind.wrap_i64]; omega
    have k1 : (0 : Int) ≤ a := by omega
    have k2 : (a : Int) ≤ PS.size := by omega
    have hFs : F.size ≤ 9 := by
      rw [← bts_len, hB3]
      have h1 := (textU_spl n fine HF.out HN.out.1).2.1.1
      have := HF.out; omega
    have hAs : A.size ≤ 25 := by rw [← hA, size_extract hal]; omega
    have HBB : Hid (bts A = dgsN (n.natAbs / 10 ^ fine.toNat) ∧ bts F = frcU n fine) := ⟨hB1, hB3⟩
    clear hP1 hP2 hP3 hP4 hP5 hc1 hc2 hB1 hB2 hB3 hF ha HP HPP hal hfa
    go_wp2_with fail
    go_quiet (refine Calls.quiet_of_same (CTR _))
    clear CTR e7 k1 k2
    by_cases hFe : frcU n fine = []
    · obtain rfl : F = { data := #[] } := bts_inj (HBB.out.2.trans hFe)
      have HFE : Hid (frcU n fine = []) := hFe
      clear hFe
      cases b with
      | true =>
        have hct := catT { data := #[45] } A (by have h0 : ({ data := #[45] } : ByteArray).size = 1 := rfl; omega)
        go_wp2_with fail
        go_ret
        refine ⟨congrArg (fun z => Ending.returned (.string z)) (HE.out _ ?_), HG3.out.trans (by with_reducible repeat (first | exact IsGr.refl _ | refine IsGr.gr ?_ _ _ | refine IsGr.alloc ?_ _ | refine IsGr.drew ?_ | refine IsGr.drewN ?_ _))⟩
        rw [if_pos (of_decide_eq_true HB.out), if_pos HFE.out, btT_app, HBB.out.1, HFE.out]
        simp; rfl
      | false =>
        go_wp2_with fail
        go_ret
        refine ⟨congrArg (fun z => Ending.returned (.string z)) (HE.out _ ?_), HG3.out.trans (by with_reducible repeat (first | exact IsGr.refl _ | refine IsGr.gr ?_ _ _ | refine IsGr.alloc ?_ _ | refine IsGr.drew ?_ | refine IsGr.drewN ?_ _))⟩
        rw [if_neg (of_decide_eq_false HB.out), if_pos HFE.out, HBB.out.1, HFE.out]
        simp
    · have hFn := emp_ne (s := F) (by rw [← bts_len, HBB.out.2]; exact List.length_pos_iff.2 hFe)
      have HFE : Hid (¬ frcU n fine = []) := hFe
      have hc1 := catT { data := #[46] } F (by have h0 : ({ data := #[46] } : ByteArray).size = 1 := rfl; omega)
      have hsz1 : ({ data := #[46] } ++ F : ByteArray).size ≤ 10 := by rw [ByteArray.size_append]; have h0 : ({ data := #[46] } : ByteArray).size = 1 := rfl; omega
      have hc2 := catT A ({ data := #[46] } ++ F) (by omega)
      clear hFe
      cases b with
      | true =>
        have hct := catT { data := #[45] } (A ++ ({ data := #[46] } ++ F)) (by rw [ByteArray.size_append]; have h0 : ({ data := #[45] } : ByteArray).size = 1 := rfl; omega)
        clear hsz1
        go_wp2_with fail
        go_ret
        refine ⟨congrArg (fun z => Ending.returned (.string z)) (HE.out _ ?_), HG3.out.trans (by with_reducible repeat (first | exact IsGr.refl _ | refine IsGr.gr ?_ _ _ | refine IsGr.alloc ?_ _ | refine IsGr.drew ?_ | refine IsGr.drewN ?_ _))⟩
        rw [if_pos (of_decide_eq_true HB.out), if_neg HFE.out, btT_app, btT_app, btT_app, HBB.out.1, HBB.out.2]
        rfl
      | false =>
        clear hsz1
        go_wp2_with fail
        go_ret
        refine ⟨congrArg (fun z => Ending.returned (.string z)) (HE.out _ ?_), HG3.out.trans (by with_reducible repeat (first | exact IsGr.refl _ | refine IsGr.gr ?_ _ _ | refine IsGr.alloc ?_ _ | refine IsGr.drew ?_ | refine IsGr.drewN ?_ _))⟩
        rw [if_neg (of_decide_eq_false HB.out), if_neg HFE.out, btT_app, btT_app, HBB.out.1, HBB.out.2]
        rfl
  · have HP : Hid (Dgs (bts S) ∧ dvl (bts S) = (n.natAbs : Int) ∧ fine.toNat < S.size ∧ ((bts S).length = fine.toNat + 1 ∨ (bts S).getD 0 0 ≠ 48) ∧ S.size ≤ 25) := by
      rw [hD]
      exact ⟨d2, d3, by omega, by rcases d5 with h | h; exact Or.inl (by omega); exact Or.inr h, by omega⟩
    obtain ⟨PS, hPS⟩ : ∃ PS, S = PS := ⟨_, rfl⟩
    have hl' : ¬ (PS.size : Int) ≤ fine := hPS ▸ hl
    clear hl
    obtain rfl := hPS.symm
    clear h1 h2 h3 h4 d1 d2 d3 d4 d5 d6 hD hS hS0 hn1 hn2 hn hb HTB hsz hs0 hPS
    go_enter Tryd.func18, Tryd.ntmps18
    go_wp2_with fail
    refine (CU _).mono ?_
    clear CU
    rintro e w2 ⟨rfl, hw⟩
    obtain rfl := hw.symm
    go_wp2_with fail
    refine CI.mono ?_
    clear CI
    rintro e w3 ⟨rfl, kk, os, hgk⟩
    have HG3 : Hid (IsGr w w3) := by show IsGr _ _; rw [hgk]; exact ⟨os, w.drawn + kk, rfl⟩
    clear hgk
    go_wp2_with fail
    refine (CP _).mono ?_
    clear CP
    rintro e w4 ⟨rfl, hw⟩
    obtain rfl := hw.symm
    have HPP := HP
    obtain ⟨hP1, hP2, hP3, hP4, hP5⟩ := HP.out
    obtain ⟨hc1, hc2⟩ := cut_spec hP1 hP2 (by rw [bts_len]; exact hP3) hP4 (by rw [bts_len]; exact hP5)
    rw [bts_len] at hc1 hc2
    obtain ⟨a, ha⟩ : ∃ a, PS.size - fine.toNat = a := ⟨_, rfl⟩
    have hfa : (PS.size : Int) - fine = (a : Int) := by have := HF.out; omega
    have hal : a ≤ PS.size := by omega
    rw [ha] at hc1 hc2
    have hB1 : bts (PS.extract 0 a) = dgsN (n.natAbs / 10 ^ fine.toNat) := by rw [bts_extract, List.drop_zero, Nat.sub_zero]; exact hc1
    have hB2 : bts (PS.extract a PS.size) = padN fine.toNat (n.natAbs % 10 ^ fine.toNat) := by
      rw [bts_extract, List.take_of_length_le (by rw [List.length_drop, bts_len]; omega)]; exact hc2
    have CTR := fun w => Tryd.strings_TrimRight_one (PS.extract a PS.size) 48 (by decide) w (by rw [size_extract (Nat.le_refl _)]; have := hP5; omega)
    have hB3 : bts { data := (Lib.trimRightB (PS.extract a PS.size).data.toList 48).toArray } = frcU n fine := by
      rw [bts_mk, trimR_bts]; unfold frcU; rw [← hB2]; rfl
    obtain ⟨A, hA⟩ : ∃ A, PS.extract 0 a = A := ⟨_, rfl⟩
    obtain ⟨F, hF⟩ : ∃ F, ({ data := (Lib.trimRightB (PS.extract a PS.size).data.toList 48).toArray } : ByteArray) = F := ⟨_, rfl⟩
    rw [hF] at CTR hB3
    rw [hA] at hB1
    have e7 : IntKind.i64.wrap ((PS.size : Int) - fine) = (a : Int) := by rw [IntKind.wrap_i64]; omega
    have k1 : (0 : Int) ≤ a := by omega
    have k2 : (a : Int) ≤ PS.size := by omega
    have hFs : F.size ≤ 9 := by
      rw [← bts_len, hB3]
      have h1 := (textU_spl n fine HF.out HN.out.1).2.1.1
      have := HF.out; omega
    have hAs : A.size ≤ 25 := by rw [← hA, size_extract hal]; omega
    have HBB : Hid (bts A = dgsN (n.natAbs / 10 ^ fine.toNat) ∧ bts F = frcU n fine) := ⟨hB1, hB3⟩
    clear hP1 hP2 hP3 hP4 hP5 hc1 hc2 hB1 hB2 hB3 hF ha HP HPP hal hfa
    go_wp2_with fail
    go_quiet (refine Calls.quiet_of_same (CTR _))
    clear CTR e7 k1 k2
    by_cases hFe : frcU n fine = []
    · obtain rfl : F = { data := #[] } := bts_inj (HBB.out.2.trans hFe)
      have HFE : Hid (frcU n fine = []) := hFe
      clear hFe
      cases b with
      | true =>
        have hct := catT { data := #[45] } A (by have h0 : ({ data := #[45] } : ByteArray).size = 1 := rfl; omega)
        go_wp2_with fail
        go_ret
        refine ⟨congrArg (fun z => Ending.returned (.string z)) (HE.out _ ?_), HG3.out.trans (by with_reducible repeat (first | exact IsGr.refl _ | refine IsGr.gr ?_ _ _ | refine IsGr.alloc ?_ _ | refine IsGr.drew ?_ | refine IsGr.drewN ?_ _))⟩
        rw [if_pos (of_decide_eq_true HB.out), if_pos HFE.out, btT_app, HBB.out.1, HFE.out]
        simp; rfl
      | false =>
        go_wp2_with fail
        go_ret
        refine ⟨congrArg (fun z => Ending.returned (.string z)) (HE.out _ ?_), HG3.out.trans (by with_reducible repeat (first | exact IsGr.refl _ | refine IsGr.gr ?_ _ _ | refine IsGr.alloc ?_ _ | refine IsGr.drew ?_ | refine IsGr.drewN ?_ _))⟩
        rw [if_neg (of_decide_eq_false HB.out), if_pos HFE.out, HBB.out.1, HFE.out]
        simp
    · have hFn := emp_ne (s := F) (by rw [← bts_len, HBB.out.2]; exact List.length_pos_iff.2 hFe)
      have HFE : Hid (¬ frcU n fine = []) := hFe
      have hc1 := catT { data := #[46] } F (by have h0 : ({ data := #[46] } : ByteArray).size = 1 := rfl; omega)
      have hsz1 : ({ data := #[46] } ++ F : ByteArray).size ≤ 10 := by rw [ByteArray.size_append]; have h0 : ({ data := #[46] } : ByteArray).size = 1 := rfl; omega
      have hc2 := catT A ({ data := #[46] } ++ F) (by omega)
      clear hFe
      cases b with
      | true =>
        have hct := catT { data := #[45] } (A ++ ({ data := #[46] } ++ F)) (by rw [ByteArray.size_append]; have h0 : ({ data := #[45] } : ByteArray).size = 1 := rfl; omega)
        clear hsz1
        go_wp2_with fail
        go_ret
        refine ⟨congrArg (fun z => Ending.returned (.string z)) (HE.out _ ?_), HG3.out.trans (by with_reducible repeat (first | exact IsGr.refl _ | refine IsGr.gr ?_ _ _ | refine IsGr.alloc ?_ _ | refine IsGr.drew ?_ | refine IsGr.drewN ?_ _))⟩
        rw [if_pos (of_decide_eq_true HB.out), if_neg HFE.out, btT_app, btT_app, btT_app, HBB.out.1, HBB.out.2]
        rfl
      | false =>
        clear hsz1
        go_wp2_with fail
        go_ret
        refine ⟨congrArg (fun z => Ending.returned (.string z)) (HE.out _ ?_), HG3.out.trans (by with_reducible repeat (first | exact IsGr.refl _ | refine IsGr.gr ?_ _ _ | refine IsGr.alloc ?_ _ | refine IsGr.drew ?_ | refine IsGr.drewN ?_ _))⟩
        rw [if_neg (of_decide_eq_false HB.out), if_neg HFE.out, btT_app, btT_app, HBB.out.1, HBB.out.2]
        rfl
end Go.Proofs.YtfpifbfnebfdaaaDoor
