/- gromalaw08 over the loaded program: made. -/
import Derived.Test.YtchbnkapajnjgaaO13
namespace Go.Proofs.Ytchbnkapajnjgaa
open Go.RowKit Go.Shelf
attribute [local go_sem] Gr.size Gr.cell? Gr.frozen? Gr.setCell Gr.drew Gr.drewN Gr.of_drew Gr.of_drewN Gr.gr Gr.lt_of1 Gr.le_of1 Gr.lt_of2 Gr.le_of2 Gr.lt_of3 Gr.le_of3 Gr.lt_of4 Gr.le_of4 Gr.lt_of5 Gr.le_of5 Gr.lt_of6 Gr.le_of6 Gr.lt_of7 Gr.le_of7 Gr.lt_of8 Gr.le_of8 Gr.lt_of9 Gr.le_of9 Gr.lt_of10 Gr.le_of10 Gr.lt_of11 Gr.le_of11 Gr.lt_of12 Gr.le_of12 Gr.lt_of13 Gr.le_of13 Gr.lt_of14 Gr.le_of14 Gr.lt_of15 Gr.le_of15 Gr.lt_of16 Gr.le_of16 Gr.lt_of17 Gr.le_of17 Gr.lt_of18 Gr.le_of18 Gr.lt_of19 Gr.le_of19 Gr.lt_of20 Gr.le_of20 Gr.lt_of21 Gr.le_of21 Gr.lt_of22 Gr.le_of22 Gr.lt_of23 Gr.le_of23 Gr.lt_of24 Gr.le_of24
/-- What made leaves. -/
def MadeT (w : World) (t n : Nat) (v : Value) (w' : World) : Prop := ∃ gu gz gm x, Pl w t gu gz gm n x v w'
set_option maxRecDepth 20000 in set_option maxHeartbeats 2000000 in
theorem made_any (n : Nat) (a : Option Addr) (m c : Nat) (l : List (Int × Int)) (w : World) (h : Ops w a m l) (hn : n ≤ 60) (hm : m ≤ 80) : Calls Try.prog 18 #[.int .i64 n, .slice a m c] w fun e w' => ∃ t sa sc, e = .returned (.tuple #[.pointer (some ⟨t, 0, none⟩), .slice sa n sc]) ∧ MadeT w t n (.slice sa n sc) w' := by
  have q3 : (n : Int) ≤ 60 := by omega
  have q4 : (m : Int) ≤ 80 := by omega
  have CN := New_any n w
  rw [show mkn (n : Int) = n by unfold mkn; rw [if_pos (by omega)]; omega] at CN
  have CR := fun w => RNew_any n w (by omega)
  have HO : Hid (Ops w a m l) := h
  clear h
  go_enter Try.func18, Try.ntmps18
  go_wp2_with fail
  refine CN.mono ?_
  clear CN
  rintro e w1 ⟨t, rfl, ⟨gu, gz, gm, hu⟩, hb⟩
  have HU : Hid (Un w1 w.heap.size t gu gz gm (rng n) ∧ Below w.heap.size w w1) := ⟨hu, hb⟩
  clear hu hb
  go_wp2_with fail
  refine (CR _).mono ?_
  clear CR
  rintro e w2 ⟨v2, rfl, hl2, hb2⟩
  have HP : Hid (Pl w t gu gz gm n (rng n) v2 w2) := Pl.new HU.out.1 HU.out.2 hl2 hb2 (rng_len n)
  obtain ⟨sa, sc, rfl, -⟩ := hl2.form
  rw [rng_len] at HP ⊢
  clear HU hl2 hb2
  go_wp2_with fail
  go_loopg [7, 19] m (fun r p7 p19 wr => ∃ (k : Nat) (x : List Int) (sa : Option Addr) (sc : Nat), k + r = m ∧ p19 = .int .i64 k ∧ p7 = .slice sa n sc ∧ Hid (Pl w t gu gz gm n x (.slice sa n sc) wr))
  case atStart => exact ⟨0, rng n, sa, sc, by omega, rfl, rfl, HP.out⟩
  case round =>
    clear HP
    obtain ⟨k, x, sa, sc, hk, rfl, rfl, HP⟩ := hrel
    by_cases hkm : k < m
    · obtain ⟨g, o, A, B, rfl, -, hcs⟩ := HO.out.at hkm
      obtain ⟨c1, c2⟩ := hcs _ HP.out.bel
      have hkm' : (k : Int) < m := by omega
      have e1 : IntKind.i64.wrap ((k : Int) + 1) = (k : Int) + 1 := by rw [IntKind.wrap_i64]; omega
      have HA := (IsGr.refl wr).alloc (.cells #[.int .i64 A, .int .i64 B] 29)
      have hP := HP.out.gr HA
      obtain ⟨wa, hwa⟩ : ∃ W, wr.alloc (.cells #[.int .i64 A, .int .i64 B] 29) = W := ⟨_, rfl⟩
      have hb0 : wa.cell? ⟨wr.heap.size, 0, none⟩ = some (.int .i64 A) := by rw [← hwa]; simp [go_sem]
      have hb1 : wa.cell? ⟨wr.heap.size, 1, none⟩ = some (.int .i64 B) := by rw [← hwa]; simp [go_sem]
      have hns : wr.heap.size ∉ [t, gu, gz, gm] := fun hm => by have := HP.out.un.lt _ hm; omega
      rw [hwa] at hP
      have HP1 : Hid (Pl w t gu gz gm n x (.slice sa n sc) wa) := hP
      have HNS : Hid (wr.heap.size ∉ [t, gu, gz, gm]) := hns
      clear hcs HA hP hns HP
      by_cases hab : (wth A n && wth B n) = true
      · rw [Bool.and_eq_true] at hab
        obtain ⟨i, rfl, hi⟩ := wth_out hab.1
        obtain ⟨j, rfl, hj⟩ := wth_out hab.2
        have hlen := HP1.out.len
        have CJ := Join_any i j wa HP1.out.un (by omega) (by omega)
        have W1 := fun w => within_any (i : Int) (n : Int) w
        have W2 := fun w => within_any (j : Int) (n : Int) w
        rw [wth_nat hi] at W1
        rw [wth_nat hj] at W2
        obtain ⟨d, hd⟩ : ∃ d, decide (x.getD i 0 ≠ x.getD j 0) = d := ⟨_, rfl⟩
        rw [hd] at CJ
        have HX : Hid (x.length = n ∧ i < n ∧ j < n) := ⟨hlen, hi, hj⟩
        clear hab hlen hi hj hd
        go_wp2_with fail
        refine CJ.mono ?_
        clear CJ
        rintro e w3 ⟨rfl, hu3, hw3⟩
        have hb0 := cell_wr (a := ⟨wr.heap.size, 0, none⟩) hb0 hw3 HNS.out
        have hb1 := cell_wr (a := ⟨wr.heap.size, 1, none⟩) hb1 hw3 HNS.out
        obtain ⟨hr3, hbl3⟩ := HP1.out.rest hw3
        have CRJ := RJoin_any _ x i j w3 hr3 (by have := HX.out; omega) (by have := HX.out; omega) (by have := HX.out; omega)
        have HP3 : Hid (Un w3 w.heap.size t gu gz gm (jn x i j) ∧ Wr [t, gu, gz, gm] wa w3) := ⟨hu3, hw3⟩
        clear hu3 hw3 hr3 hbl3 hwa
        go_wp2_with fail
        refine (W1 _).mono ?_
        rintro e w4 ⟨rfl, e4⟩
        obtain rfl := e4.symm
        go_wp2_with fail
        refine (W2 _).mono ?_
        rintro e w4 ⟨rfl, e4⟩
        obtain rfl := e4.symm
        go_wp2_with fail
        refine CRJ.mono ?_
        clear CRJ
        rintro e w4 ⟨v4, rfl, hl4, hb4⟩
        have hP4 := HP1.out.next HP3.out.1 HP3.out.2 hl4 hb4 (jn_len x i j)
        obtain ⟨sa4, sc4, rfl, -⟩ := hl4.form
        rw [jn_len, HX.out.1] at hP4 ⊢
        have HP4 : Hid (Pl w t gu gz gm n (jn x i j) (.slice sa4 n sc4) w4) := hP4
        clear hP4 hl4 hb4 HP3 HP1
        go_wp2_with fail
        go_roundg (m - (k + 1))
        case measure => omega
        case rel => exact ⟨k + 1, jn x i j, sa4, sc4, by omega, by simp, rfl, HP4.out⟩
      · have hab : (wth A n && wth B n) = false := by cases h : (wth A n && wth B n); rfl; exact absurd h hab
        have hlen := HP1.out.len
        have CJ := Join_no A B wa HP1.out.un.sb (by rw [hlen]; exact hab)
        have W1 := within_any A n wa
        have W2 := within_any B n wa
        cases ha : wth A n with
        | false =>
          rw [ha] at W1
          clear hab hlen W2 ha
          go_wp2_with fail
          refine CJ.mono ?_
          clear CJ
          rintro e w3 ⟨rfl, e3⟩
          obtain rfl := e3.symm
          go_wp2_with fail
          refine W1.mono ?_
          clear W1
          rintro e w3 ⟨rfl, e3⟩
          obtain rfl := e3.symm
          go_wp2_with fail
          go_roundg (m - (k + 1))
          case measure => omega
          case rel => exact ⟨k + 1, x, sa, sc, by omega, by simp, rfl, HP1.out⟩
        | true =>
          rw [ha] at W1
          rw [ha, Bool.true_and] at hab
          rw [hab] at W2
          clear hab hlen ha
          go_wp2_with fail
          refine CJ.mono ?_
          clear CJ
          rintro e w3 ⟨rfl, e3⟩
          obtain rfl := e3.symm
          go_wp2_with fail
          refine W1.mono ?_
          clear W1
          rintro e w3 ⟨rfl, e3⟩
          obtain rfl := e3.symm
          go_wp2_with fail
          refine W2.mono ?_
          clear W2
          rintro e w3 ⟨rfl, e3⟩
          obtain rfl := e3.symm
          go_wp2_with fail
          go_roundg (m - (k + 1))
          case measure => omega
          case rel => exact ⟨k + 1, x, sa, sc, by omega, by simp, rfl, HP1.out⟩
    · have hkm' : ¬ (k : Int) < m := by omega
      clear hk hkm
      go_wp2_with fail
      refine bodyPost_ret (v := .tuple #[.pointer (some ⟨t, 0, none⟩), .slice sa n sc]) (by simp [results, Try.results18, go_sem]) rfl ?_
      exact ⟨t, sa, sc, rfl, gu, gz, gm, x, HP.out⟩
end Go.Proofs.Ytchbnkapajnjgaa
