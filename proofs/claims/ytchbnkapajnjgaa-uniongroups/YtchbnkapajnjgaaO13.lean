/- gromalaw08 over the loaded program: sets and their list side by side; UnionPlays' law. -/
import Derived.Test.YtchbnkapajnjgaaO10
import Derived.Test.YtchbnkapajnjgaaO3
namespace Go.Proofs.Ytchbnkapajnjgaa
open Go.RowKit Go.Shelf
attribute [local go_sem] Gr.size Gr.cell? Gr.frozen? Gr.setCell Gr.drew Gr.drewN Gr.of_drew Gr.of_drewN Gr.gr Gr.lt_of1 Gr.le_of1 Gr.lt_of2 Gr.le_of2 Gr.lt_of3 Gr.le_of3 Gr.lt_of4 Gr.le_of4 Gr.lt_of5 Gr.le_of5 Gr.lt_of6 Gr.le_of6 Gr.lt_of7 Gr.le_of7 Gr.lt_of8 Gr.le_of8 Gr.lt_of9 Gr.le_of9 Gr.lt_of10 Gr.le_of10 Gr.lt_of11 Gr.le_of11 Gr.lt_of12 Gr.le_of12 Gr.lt_of13 Gr.le_of13 Gr.lt_of14 Gr.le_of14 Gr.lt_of15 Gr.le_of15 Gr.lt_of16 Gr.le_of16 Gr.lt_of17 Gr.le_of17 Gr.lt_of18 Gr.le_of18 Gr.lt_of19 Gr.le_of19 Gr.lt_of20 Gr.le_of20 Gr.lt_of21 Gr.le_of21 Gr.lt_of22 Gr.le_of22 Gr.lt_of23 Gr.le_of23 Gr.lt_of24 Gr.le_of24
theorem Lea.ints {x : List Int} (h : Lea x) (hn : x.length ≤ 1048576) : ∀ z ∈ x, I64 z := fun z hz => by
  obtain ⟨i, hi, rfl⟩ := List.getElem_of_mem hz
  have := h i hi
  have e : x.getD i 0 = x[i] := by simp [List.getD, hi]
  rw [e] at this
  unfold I64
  omega
/-- The sets at t and the list v hold the same. -/
structure Pl (w0 : World) (t gu gz gm n : Nat) (x : List Int) (v : Value) (w : World) : Prop where
  un : Un w w0.heap.size t gu gz gm x
  rd : Rd w v x
  apart : ∀ g, v.ownBlock = some g → g ∉ [t, gu, gz, gm]
  len : x.length = n
  bel : Below w0.heap.size w0 w
section
variable {w0 w w1 w2 : World} {t gu gz gm n : Nat} {x : List Int} {v : Value}
theorem Pl.below (h : Pl w0 t gu gz gm n x v w) (hg : Below w.heap.size w w1) : Pl w0 t gu gz gm n x v w1 :=
  ⟨h.un.below hg, h.rd.below hg, h.apart, h.len, h.bel.trans (hg.mono h.bel.size)⟩
theorem Pl.gr (h : Pl w0 t gu gz gm n x v w) (hg : IsGr w w1) : Pl w0 t gu gz gm n x v w1 := h.below hg.below
theorem Pl.cap {a : Option Addr} {m c : Nat} (h : Pl w0 t gu gz gm n x (.slice a m c) w) : m = n := by rw [← h.len]; exact h.rd.len.1
/-- Behind Join: the list still tells what was. -/
theorem Pl.rest (h : Pl w0 t gu gz gm n x v w) (hw : Wr [t, gu, gz, gm] w w1) : Rd w1 v x ∧ Below w0.heap.size w0 w1 :=
  ⟨h.rd.wr hw h.apart, h.bel.trans (hw.below h.bel.size (fun b hb => h.un.low' b hb))⟩
theorem Pl.next {x' : List Int} {v' : Value} (h : Pl w0 t gu gz gm n x v w) (hu : Un w1 w0.heap.size t gu gz gm x') (hw : Wr [t, gu, gz, gm] w w1) (hl : Lst w2 w1.heap.size v' x') (hb : Below w1.heap.size w1 w2) (he : x'.length = x.length) : Pl w0 t gu gz gm n x' v' w2 := by
  obtain ⟨h1, h2⟩ := h.rest hw
  refine ⟨hu.below hb, Rd.of_lst hl (hu.lea.ints hu.max), fun g e hm => ?_, by rw [he, h.len], h2.trans (hb.mono h2.size)⟩
  have := (own_block hl g e).1
  have := hu.lt g hm
  omega
theorem Pl.new {x : List Int} {v' : Value} (hu : Un w1 w0.heap.size t gu gz gm x) (hb0 : Below w0.heap.size w0 w1) (hl : Lst w2 w1.heap.size v' x) (hb : Below w1.heap.size w1 w2) (he : x.length = n) : Pl w0 t gu gz gm n x v' w2 := by
  refine ⟨hu.below hb, Rd.of_lst hl (hu.lea.ints hu.max), fun g e hm => ?_, he, hb0.trans (hb.mono hb0.size)⟩
  have := (own_block hl g e).1
  have := hu.lt g hm
  omega
end
theorem smB_out {x : List Int} {a b : Int} (h : (wth a x.length && wth b x.length) = false) : smB x a b = false := by
  unfold smB
  rw [← Bool.and_assoc, h]; rfl
theorem smB_in {x : List Int} {a b : Nat} (ha : a < x.length) (hb : b < x.length) : smB x a b = decide (x.getD a 0 = x.getD b 0) := by
  unfold smB
  rw [wth_nat ha, wth_nat hb]; rfl
theorem smB_jn {x : List Int} {a b : Nat} (ha : a < x.length) (hb : b < x.length) : smB (jn x a b) a b = true := by
  rw [smB_in (by rw [jn_len]; exact ha) (by rw [jn_len]; exact hb)]
  exact decide_eq_true ((jn_one ha hb).2 (Or.inr ⟨Or.inl rfl, Or.inr rfl⟩))
set_option maxRecDepth 20000 in set_option maxHeartbeats 2000000 in
theorem law_plays_many (k : Int) (a : Option Addr) (m c : Nat) (w : World) (h : ¬ (0 ≤ k ∧ k ≤ 60 ∧ m ≤ 80)) : Calls Try.prog 3 #[.int .i64 k, .slice a m c] w fun e w' => e = .returned (.bool true) ∧ Below w.heap.size w w' := by
  have CA := awake_any w
  by_cases h1 : k < 0
  · clear h
    go_enter Try.func3, Try.ntmps3
    go_wp2_with fail
    refine CA.mono ?_
    rintro e w2 ⟨rfl, hb⟩
    go_wp2_with fail
    go_ret
    exact ⟨rfl, hb⟩
  · by_cases h2 : 60 < k
    · clear h
      go_enter Try.func3, Try.ntmps3
      go_wp2_with fail
      refine CA.mono ?_
      rintro e w2 ⟨rfl, hb⟩
      go_wp2_with fail
      go_ret
      exact ⟨rfl, hb⟩
    · have h3 : (80 : Int) < m := by omega
      clear h
      go_enter Try.func3, Try.ntmps3
      go_wp2_with fail
      refine CA.mono ?_
      rintro e w2 ⟨rfl, hb⟩
      go_wp2_with fail
      go_ret
      exact ⟨rfl, hb⟩

set_option maxRecDepth 20000 in set_option maxHeartbeats 2000000 in
theorem law_plays_few (n : Nat) (a : Option Addr) (m c : Nat) (l : List (Int × Int)) (w : World) (h : Ops w a m l) (hn : n ≤ 60) (hm : m ≤ 80) : Calls Try.prog 3 #[.int .i64 n, .slice a m c] w fun e w' => e = .returned (.bool true) ∧ Below w.heap.size w w' := by
  have q0 : ¬ (n : Int) < 0 := by omega
  have q1 : ¬ (60 : Int) < n := by omega
  have q2 : ¬ (80 : Int) < m := by omega
  have q3 : (n : Int) ≤ 60 := by omega
  have q4 : (m : Int) ≤ 80 := by omega
  have CN := New_any n w
  rw [show mkn (n : Int) = n by unfold mkn; rw [if_pos (by omega)]; omega] at CN
  have CR := fun w => RNew_any n w (by omega)
  have HO : Hid (Ops w a m l) := h
  clear h
  go_enter Try.func3, Try.ntmps3
  go_wp2_with fail
  refine CN.mono ?_
  clear CN
  rintro e w1 ⟨t, rfl, ⟨gu, gz, gm, hu⟩, hb⟩
  have HU : Hid (Un w1 w.heap.size t gu gz gm (rng n) ∧ Below w.heap.size w w1) := ⟨hu, hb⟩
  clear hu hb
  go_wp2_with fail
  refine (CR _).mono ?_
  clear CR
  rintro e w2 ⟨v2, rfl, hl2, hb2⟩
  have HP : Hid (Pl w t gu gz gm n (rng n) v2 w2) := Pl.new HU.out.1 HU.out.2 hl2 hb2 (rng_len n)
  obtain ⟨sa, sc, rfl, -⟩ := hl2.form
  rw [rng_len] at HP ⊢
  clear HU hl2 hb2
  go_wp2_with fail
  go_loopg [6, 36] m (fun r p6 p36 wr => ∃ (k : Nat) (x : List Int) (sa : Option Addr) (sc : Nat), k + r = m ∧ p36 = .int .i64 k ∧ p6 = .slice sa n sc ∧ Hid (Pl w t gu gz gm n x (.slice sa n sc) wr))
  case atStart => exact ⟨0, rng n, sa, sc, by omega, rfl, rfl, HP.out⟩
  case round =>
    clear HP
    obtain ⟨k, x, sa, sc, hk, rfl, rfl, HP⟩ := hrel
    by_cases hkm : k < m
    · obtain ⟨g, o, A, B, rfl, -, hcs⟩ := HO.out.at hkm
      obtain ⟨c1, c2⟩ := hcs _ HP.out.bel
      have hkm' : (k : Int) < m := by omega
      have e1 : IntKind.i64.wrap ((k : Int) + 1) = (k : Int) + 1 := by rw [IntKind.wrap_i64]; omega
      have HA := (IsGr.refl wr).alloc (.cells #[.int .i64 A, .int .i64 B] 29)
      have hP := HP.out.gr HA
      obtain ⟨wa, hwa⟩ : ∃ W, wr.alloc (.cells #[.int .i64 A, .int .i64 B] 29) = W := ⟨_, rfl⟩
      have hb0 : wa.cell? ⟨wr.heap.size, 0, none⟩ = some (.int .i64 A) := by rw [← hwa]; simp [go_sem]
      have hb1 : wa.cell? ⟨wr.heap.size, 1, none⟩ = some (.int .i64 B) := by rw [← hwa]; simp [go_sem]
      have hns : wr.heap.size ∉ [t, gu, gz, gm] := fun hm => by have := HP.out.un.lt _ hm; omega
      rw [hwa] at hP
      have HP1 : Hid (Pl w t gu gz gm n x (.slice sa n sc) wa) := hP
      have HNS : Hid (wr.heap.size ∉ [t, gu, gz, gm]) := hns
      clear hcs HA hP hns HP
      by_cases hab : (wth A n && wth B n) = true
      · rw [Bool.and_eq_true] at hab
        obtain ⟨i, rfl, hi⟩ := wth_out hab.1
        obtain ⟨j, rfl, hj⟩ := wth_out hab.2
        have hlen := HP1.out.len
        have CJ := Join_any i j wa HP1.out.un (by omega) (by omega)
        have W1 := fun w => within_any (i : Int) (n : Int) w
        have W2 := fun w => within_any (j : Int) (n : Int) w
        rw [wth_nat hi] at W1
        rw [wth_nat hj] at W2
        obtain ⟨p, hp⟩ : ∃ p, x.getD i 0 = p := ⟨_, rfl⟩
        obtain ⟨q, hq⟩ : ∃ q, x.getD j 0 = q := ⟨_, rfl⟩
        rw [hp, hq] at CJ
        have HX : Hid (x.getD i 0 = p ∧ x.getD j 0 = q ∧ x.length = n ∧ i < n ∧ j < n) := ⟨hp, hq, hlen, hi, hj⟩
        have hi' : (i : Int) < n := by omega
        have hj' : (j : Int) < n := by omega
        clear hab hp hq hlen hi hj
        go_wp2_with fail
        refine CJ.mono ?_
        clear CJ
        rintro e w3 ⟨rfl, hu3, hw3⟩
        have hb0 := cell_wr (a := ⟨wr.heap.size, 0, none⟩) hb0 hw3 HNS.out
        have hb1 := cell_wr (a := ⟨wr.heap.size, 1, none⟩) hb1 hw3 HNS.out
        obtain ⟨hr3, hbl3⟩ := HP1.out.rest hw3
        have HP3 : Hid (Un w3 w.heap.size t gu gz gm (jn x i j) ∧ Wr [t, gu, gz, gm] wa w3 ∧ Rd w3 (.slice sa n sc) x ∧ Below w.heap.size w w3) := ⟨hu3, hw3, hr3, hbl3⟩
        obtain ⟨ga, oa, rfl, -, -, -, -, ca⟩ := hr3.at (k := i) (by have := HX.out; omega)
        obtain ⟨ga', oa', e9, -, -, -, -, cb⟩ := hr3.at (k := j) (by have := HX.out; omega)
        cases e9
        rw [HX.out.1] at ca
        rw [HX.out.2.1] at cb
        obtain ⟨d, hd⟩ : ∃ d, decide (p ≠ q) = d := ⟨_, rfl⟩
        have hd2 : (p != q) = d := by
          rw [← hd]
          by_cases e : p = q
          · rw [decide_eq_false (fun h => h e)]; simp [e]
          · rw [decide_eq_true e]; simp [e]
        have hd3 : (d != d) = false := by cases d <;> rfl
        rw [hd]
        clear hu3 hw3 hr3 hbl3 hd hwa
        go_wp2_with fail
        refine (W1 _).mono ?_
        rintro e w4 ⟨rfl, e4⟩
        obtain rfl := e4.symm
        go_wp2_with fail
        refine (W2 _).mono ?_
        rintro e w4 ⟨rfl, e4⟩
        obtain rfl := e4.symm
        go_upto_region 14 with fail
        obtain ⟨C, hin, hcl, hcells, hgr⟩ : ∃ C : World → Prop, (∀ w', IsGr w3 w' → C w') ∧ (∀ u u', C u → IsGr u u' → C u') ∧ (∀ w', C w' → (w'.cell? ⟨wr.heap.size, 0, none⟩ = some (.int .i64 i)) ∧ (w'.cell? ⟨wr.heap.size, 1, none⟩ = some (.int .i64 j)) ∧ (w'.cell? ⟨ga, oa + i, none⟩ = some (.int .i64 p)) ∧ (w'.cell? ⟨ga, oa + j, none⟩ = some (.int .i64 q))) ∧ (∀ w', C w' → IsGr w3 w') := ⟨fun w' => IsGr w3 w', fun _ h => h, fun _ _ h k => h.trans k, fun w' hg => ⟨cellk hb0 hg, cellk hb1 hg, cellk ca hg, cellk cb hg⟩, fun _ h => h⟩
        refine wp_region_quietV C (by kernel_rfl) (by kernel_rfl) (hin _ (by with_reducible repeat (first | exact IsGr.refl _ | refine IsGr.gr ?_ _ _ | refine IsGr.alloc ?_ _ | refine IsGr.drew ?_ | refine IsGr.drewN ?_ _))) (fun K HK => ?_)
        refine QK.take HK ?_ (by rfl) ?_ ?_
        rotate_left
        · (intro w hw; (try have hcs := hcells w hw); (try go_split_ands); go_simp <;> with_reducible rfl)
        (try simp only [Act.put, List.setIfInBounds_toArray, List.set_cons_zero, List.set_cons_succ])
        refine QK.take HK ?_ (by rfl) ?_ ?_
        rotate_left
        · (intro w hw; (try have hcs := hcells w hw); (try go_split_ands); go_simp <;> with_reducible rfl)
        (try simp only [Act.put, List.setIfInBounds_toArray, List.set_cons_zero, List.set_cons_succ])
        refine QK.take HK ?_ (by rfl) ?_ ?_
        rotate_left
        · (intro w hw; (try have hcs := hcells w hw); (try go_split_ands); go_simp <;> with_reducible rfl)
        (try simp only [Act.put, List.setIfInBounds_toArray, List.set_cons_zero, List.set_cons_succ])
        refine QK.take HK ?_ (by rfl) ?_ ?_
        rotate_left
        · (intro w hw; (try have hcs := hcells w hw); (try go_split_ands); go_simp <;> with_reducible rfl)
        (try simp only [Act.put, List.setIfInBounds_toArray, List.set_cons_zero, List.set_cons_succ])
        refine QK.take HK ?_ (by rfl) ?_ ?_
        rotate_left
        · (intro w hw; (try have hcs := hcells w hw); (try go_split_ands); go_simp <;> with_reducible rfl)
        (try simp only [Act.put, List.setIfInBounds_toArray, List.set_cons_zero, List.set_cons_succ])
        refine QK.take HK ?_ (by rfl) ?_ ?_
        rotate_left
        · (intro w hw; (try have hcs := hcells w hw); (try go_split_ands); go_simp <;> with_reducible rfl)
        (try simp only [Act.put, List.setIfInBounds_toArray, List.set_cons_zero, List.set_cons_succ])
        refine QK.take HK ?_ (by rfl) ?_ ?_
        rotate_left
        · (intro w hw; (try have hcs := hcells w hw); (try go_split_ands); go_simp <;> with_reducible rfl)
        (try simp only [Act.put, List.setIfInBounds_toArray, List.set_cons_zero, List.set_cons_succ])
        refine QK.take HK ?_ (by rfl) ?_ ?_
        rotate_left
        · (intro w hw; (try have hcs := hcells w hw); (try go_split_ands); go_simp <;> with_reducible rfl)
        (try simp only [Act.put, List.setIfInBounds_toArray, List.set_cons_zero, List.set_cons_succ])
        refine QK.take HK ?_ (by rfl) ?_ ?_
        rotate_left
        · (intro w hw; (try have hcs := hcells w hw); (try go_split_ands); go_simp <;> with_reducible rfl)
        (try simp only [Act.put, List.setIfInBounds_toArray, List.set_cons_zero, List.set_cons_succ])
        refine QK.take HK ?_ (by rfl) ?_ ?_
        rotate_left
        · (intro w hw; (try have hcs := hcells w hw); (try go_split_ands); go_simp <;> with_reducible rfl)
        (try simp only [Act.put, List.setIfInBounds_toArray, List.set_cons_zero, List.set_cons_succ])
        refine QK.take HK ?_ (by rfl) ?_ ?_
        rotate_left
        · (intro w hw; (try have hcs := hcells w hw); (try go_split_ands); go_simp <;> with_reducible rfl)
        (try simp only [Act.put, List.setIfInBounds_toArray, List.set_cons_zero, List.set_cons_succ])
        refine QK.take HK ?_ (by rfl) ?_ ?_
        rotate_left
        · (intro w hw; (try have hcs := hcells w hw); (try go_split_ands); go_simp <;> with_reducible rfl)
        (try simp only [Act.put, List.setIfInBounds_toArray, List.set_cons_zero, List.set_cons_succ])
        refine QK.take HK ?_ (by rfl) ?_ ?_
        rotate_left
        · (intro w hw; (try have hcs := hcells w hw); (try go_split_ands); go_simp <;> with_reducible rfl)
        (try simp only [Act.put, List.setIfInBounds_toArray, List.set_cons_zero, List.set_cons_succ])
        refine QK.take HK ?_ (by rfl) ?_ ?_
        rotate_left
        · (intro w hw; (try have hcs := hcells w hw); (try go_split_ands); go_simp <;> with_reducible rfl)
        (try simp only [Act.put, List.setIfInBounds_toArray, List.set_cons_zero, List.set_cons_succ])
        refine QK.take HK ?_ (by rfl) ?_ ?_
        rotate_left
        · (intro w hw; (try have hcs := hcells w hw); (try go_split_ands); go_simp <;> with_reducible rfl)
        (try simp only [Act.put, List.setIfInBounds_toArray, List.set_cons_zero, List.set_cons_succ])
        refine QK.take HK ?_ (by rfl) ?_ ?_
        rotate_left
        · (intro w hw; (try have hcs := hcells w hw); (try go_split_ands); go_simp <;> with_reducible rfl)
        (try simp only [Act.put, List.setIfInBounds_toArray, List.set_cons_zero, List.set_cons_succ])
        refine QK.take HK ?_ (by rfl) ?_ ?_
        rotate_left
        · (intro w hw; (try have hcs := hcells w hw); (try go_split_ands); go_simp <;> with_reducible rfl)
        (try simp only [Act.put, List.setIfInBounds_toArray, List.set_cons_zero, List.set_cons_succ])
        refine QK.nil HK ?_
        clear HK K
        intro wq hq
        have hgq := hgr wq hq
        clear hq hgr hin hcl hcells C ca cb
        replace hb0 := cellk hb0 hgq
        replace hb1 := cellk hb1 hgq
        have HPQ : Hid (IsGr w3 wq) := hgq
        have CRJ := RJoin_any _ x i j wq (HP3.out.2.2.1.gr hgq) (by have := HX.out; omega) (by have := HX.out; omega) (by have := HX.out; omega)
        clear hgq
        go_wp2_with fail
        refine CRJ.mono ?_
        clear CRJ
        rintro e w4 ⟨v4, rfl, hl4, hb4⟩
        have hP4 := HP1.out.next (HP3.out.1.gr HPQ.out) (HP3.out.2.1.gr HPQ.out) hl4 hb4 (jn_len x i j)
        replace hb0 := (hb4.cell (p := ⟨wr.heap.size, 0, none⟩) (block_lt hb0)).trans hb0
        replace hb1 := (hb4.cell (p := ⟨wr.heap.size, 1, none⟩) (block_lt hb1)).trans hb1
        obtain ⟨sa4, sc4, rfl, -⟩ := hl4.form
        rw [jn_len, HX.out.2.2.1] at hP4 ⊢
        have CS := Same_any i j w4 hP4.un
        rw [smB_jn (by have := HX.out; omega) (by have := HX.out; omega)] at CS
        have CC := Count_any w4 hP4.un.sb
        have CU := count_any _ (jn x i j) w4 hP4.rd (by rw [hP4.len]; omega)
        obtain ⟨cu, hcu⟩ : ∃ cu, cntU (jn x i j) (jn x i j).length = cu := ⟨_, rfl⟩
        rw [hcu] at CC CU
        have HP4 : Hid (Pl w t gu gz gm n (jn x i j) (.slice sa4 n sc4) w4) := hP4
        clear hP4 hl4 hb4 HPQ HP3 HP1 hcu
        go_wp2_with fail
        refine CS.mono ?_
        clear CS
        rintro e w5 ⟨rfl, e5⟩
        obtain rfl := e5.symm
        go_wp2_with fail
        refine CC.mono ?_
        clear CC
        rintro e w5 ⟨rfl, e5⟩
        obtain rfl := e5.symm
        go_wp2_with fail
        refine CU.mono ?_
        clear CU
        rintro e w5 ⟨rfl, e5⟩
        obtain rfl := e5.symm
        go_wp2_with fail
        go_roundg (m - (k + 1))
        case measure => omega
        case rel => exact ⟨k + 1, jn x i j, sa4, sc4, by omega, by simp, rfl, HP4.out⟩
      · have hab : (wth A n && wth B n) = false := by cases h : (wth A n && wth B n); rfl; exact absurd h hab
        have hlen := HP1.out.len
        have CJ := Join_no A B wa HP1.out.un.sb (by rw [hlen]; exact hab)
        have CS := Same_any A B wa HP1.out.un
        rw [smB_out (by rw [hlen]; exact hab)] at CS
        have W1 := within_any A n wa
        have W2 := within_any B n wa
        cases ha : wth A n with
        | false =>
          rw [ha] at W1
          clear hab hlen W2 ha
          go_wp2_with fail
          refine CJ.mono ?_
          clear CJ
          rintro e w3 ⟨rfl, e3⟩
          obtain rfl := e3.symm
          go_wp2_with fail
          refine W1.mono ?_
          clear W1
          rintro e w3 ⟨rfl, e3⟩
          obtain rfl := e3.symm
          go_wp2_with fail
          refine CS.mono ?_
          clear CS
          rintro e w3 ⟨rfl, e3⟩
          obtain rfl := e3.symm
          go_wp2_with fail
          go_roundg (m - (k + 1))
          case measure => omega
          case rel => exact ⟨k + 1, x, sa, sc, by omega, by simp, rfl, HP1.out⟩
        | true =>
          rw [ha] at W1
          rw [ha, Bool.true_and] at hab
          rw [hab] at W2
          clear hab hlen ha
          go_wp2_with fail
          refine CJ.mono ?_
          clear CJ
          rintro e w3 ⟨rfl, e3⟩
          obtain rfl := e3.symm
          go_wp2_with fail
          refine W1.mono ?_
          clear W1
          rintro e w3 ⟨rfl, e3⟩
          obtain rfl := e3.symm
          go_wp2_with fail
          refine W2.mono ?_
          clear W2
          rintro e w3 ⟨rfl, e3⟩
          obtain rfl := e3.symm
          go_wp2_with fail
          refine CS.mono ?_
          clear CS
          rintro e w3 ⟨rfl, e3⟩
          obtain rfl := e3.symm
          go_wp2_with fail
          go_roundg (m - (k + 1))
          case measure => omega
          case rel => exact ⟨k + 1, x, sa, sc, by omega, by simp, rfl, HP1.out⟩
    · have hkm' : ¬ (k : Int) < m := by omega
      clear hk hkm
      go_wp2_with fail
      go_loopg [114] n (fun r p114 wr => ∃ i : Nat, i + r = n ∧ p114 = .int .i64 i ∧ Hid (Pl w t gu gz gm n x (.slice sa n sc) wr))
      case atStart => exact ⟨0, by omega, rfl, HP.out⟩
      case round =>
        clear HP
        obtain ⟨i, hi, rfl, HP⟩ := hrel
        by_cases hin : i < n
        · have hlen := HP.out.len
          obtain ⟨ga, oa, rfl, -, -, -, -, ca⟩ := HP.out.rd.at hin
          have CL := Least_yes i wr HP.out.un (by omega)
          obtain ⟨p, hp⟩ : ∃ p, x.getD i 0 = p := ⟨_, rfl⟩
          rw [hp] at ca CL
          have HX : Hid (x.getD i 0 = p ∧ x.length = n ∧ i < n) := ⟨hp, hlen, hin⟩
          have hin' : (i : Int) < n := by omega
          have e1 : IntKind.i64.wrap ((i : Int) + 1) = (i : Int) + 1 := by rw [IntKind.wrap_i64]; omega
          clear hp hlen hin
          go_wp2_with fail
          refine CL.mono ?_
          clear CL
          rintro e w3 ⟨rfl, hg3⟩
          have HP3 : Hid (Pl w t gu gz gm n x (.slice (some ⟨ga, oa, none⟩) n sc) w3) := HP.out.gr hg3
          clear HP hg3 ca
          go_wp2_with fail
          go_loopg [134] n (fun r p134 wr => ∃ j : Nat, j + r = n ∧ p134 = .int .i64 j ∧ Hid (Pl w t gu gz gm n x (.slice (some ⟨ga, oa, none⟩) n sc) wr))
          case atStart => exact ⟨0, by omega, rfl, HP3.out⟩
          case round =>
            clear HP3
            obtain ⟨j, hj, rfl, HP⟩ := hrel
            by_cases hjn : j < n
            · obtain ⟨g1, o1, e9, -, -, -, -, ca⟩ := HP.out.rd.at (k := i) (by have := HX.out; omega)
              cases e9
              obtain ⟨g1, o1, e9, -, -, -, -, cb⟩ := HP.out.rd.at (k := j) hjn
              cases e9
              have CS := fun W (hg : IsGr wr W) => (Same_any i j W (HP.out.un.gr hg)).mono (fun e w2 ⟨h1, h2⟩ => (⟨h1, h2 ▸ IsGr.refl _⟩ : e = _ ∧ IsGr W w2))
              rw [smB_in (by have := HX.out; omega) (by have := HX.out; omega)] at CS
              obtain ⟨q, hq⟩ : ∃ q, x.getD j 0 = q := ⟨_, rfl⟩
              rw [HX.out.1] at ca
              rw [hq] at cb
              rw [HX.out.1, hq] at CS
              obtain ⟨d, hd⟩ : ∃ d, decide (p = q) = d := ⟨_, rfl⟩
              have hd2 : (p == q) = d := by
                rw [← hd]
                by_cases e : p = q
                · rw [decide_eq_true e]; simp [e]
                · rw [decide_eq_false e]; simp [e]
              have hd3 : (d != d) = false := by cases d <;> rfl
              rw [hd] at CS
              have hjn' : (j : Int) < n := by omega
              have e2 : IntKind.i64.wrap ((j : Int) + 1) = (j : Int) + 1 := by rw [IntKind.wrap_i64]; omega
              clear hd hq
              go_upto_region 29 with fail
              obtain ⟨C, hin, hcl, hcells, hgr⟩ : ∃ C : World → Prop, (∀ w', IsGr wr w' → C w') ∧ (∀ u u', C u → IsGr u u' → C u') ∧ (∀ w', C w' → (w'.cell? ⟨ga, oa + i, none⟩ = some (.int .i64 p)) ∧ (w'.cell? ⟨ga, oa + j, none⟩ = some (.int .i64 q))) ∧ (∀ w', C w' → IsGr wr w') := ⟨fun w' => IsGr wr w', fun _ h => h, fun _ _ h k => h.trans k, fun w' hg => ⟨cellk ca hg, cellk cb hg⟩, fun _ h => h⟩
              refine wp_region_quietV C (by kernel_rfl) (by kernel_rfl) (hin _ (by with_reducible repeat (first | exact IsGr.refl _ | refine IsGr.gr ?_ _ _ | refine IsGr.alloc ?_ _ | refine IsGr.drew ?_ | refine IsGr.drewN ?_ _))) (fun K HK => ?_)
              refine QK.take HK ?_ (by rfl) ?_ ?_
              rotate_left
              · (intro w hw; (try have hcs := hcells w hw); (try go_split_ands); go_simp <;> with_reducible rfl)
              (try simp only [Act.put, List.setIfInBounds_toArray, List.set_cons_zero, List.set_cons_succ])
              refine QK.take HK ?_ (by rfl) ?_ ?_
              rotate_left
              · (intro w hw; (try have hcs := hcells w hw); (try go_split_ands); go_simp <;> with_reducible rfl)
              (try simp only [Act.put, List.setIfInBounds_toArray, List.set_cons_zero, List.set_cons_succ])
              refine QK.take HK ?_ (by rfl) ?_ ?_
              rotate_left
              · (intro w hw; (try have hcs := hcells w hw); (try go_split_ands); go_simp <;> with_reducible rfl)
              (try simp only [Act.put, List.setIfInBounds_toArray, List.set_cons_zero, List.set_cons_succ])
              refine QK.callC HK 12 #[.pointer (some ⟨t, 0, none⟩), .int .i64 i, .int .i64 j] (.bool d) hcl (by rfl) (fun w => by go_simp) (fun w hw => CS w (hgr w hw)) ?_
              (try simp only [Act.put, List.setIfInBounds_toArray, List.set_cons_zero, List.set_cons_succ])
              refine QK.take HK ?_ (by rfl) ?_ ?_
              rotate_left
              · (intro w hw; (try have hcs := hcells w hw); (try go_split_ands); go_simp <;> with_reducible rfl)
              (try simp only [Act.put, List.setIfInBounds_toArray, List.set_cons_zero, List.set_cons_succ])
              refine QK.take HK ?_ (by rfl) ?_ ?_
              rotate_left
              · (intro w hw; (try have hcs := hcells w hw); (try go_split_ands); go_simp <;> with_reducible rfl)
              (try simp only [Act.put, List.setIfInBounds_toArray, List.set_cons_zero, List.set_cons_succ])
              refine QK.take HK ?_ (by rfl) ?_ ?_
              rotate_left
              · (intro w hw; (try have hcs := hcells w hw); (try go_split_ands); go_simp <;> with_reducible rfl)
              (try simp only [Act.put, List.setIfInBounds_toArray, List.set_cons_zero, List.set_cons_succ])
              refine QK.take HK ?_ (by rfl) ?_ ?_
              rotate_left
              · (intro w hw; (try have hcs := hcells w hw); (try go_split_ands); go_simp <;> with_reducible rfl)
              (try simp only [Act.put, List.setIfInBounds_toArray, List.set_cons_zero, List.set_cons_succ])
              refine QK.take HK ?_ (by rfl) ?_ ?_
              rotate_left
              · (intro w hw; (try have hcs := hcells w hw); (try go_split_ands); go_simp <;> with_reducible rfl)
              (try simp only [Act.put, List.setIfInBounds_toArray, List.set_cons_zero, List.set_cons_succ])
              refine QK.take HK ?_ (by rfl) ?_ ?_
              rotate_left
              · (intro w hw; (try have hcs := hcells w hw); (try go_split_ands); go_simp <;> with_reducible rfl)
              (try simp only [Act.put, List.setIfInBounds_toArray, List.set_cons_zero, List.set_cons_succ])
              refine QK.take HK ?_ (by rfl) ?_ ?_
              rotate_left
              · (intro w hw; (try have hcs := hcells w hw); (try go_split_ands); go_simp <;> with_reducible rfl)
              (try simp only [Act.put, List.setIfInBounds_toArray, List.set_cons_zero, List.set_cons_succ])
              refine QK.take HK ?_ (by rfl) ?_ ?_
              rotate_left
              · (intro w hw; (try have hcs := hcells w hw); (try go_split_ands); go_simp <;> with_reducible rfl)
              (try simp only [Act.put, List.setIfInBounds_toArray, List.set_cons_zero, List.set_cons_succ])
              refine QK.take HK ?_ (by rfl) ?_ ?_
              rotate_left
              · (intro w hw; (try have hcs := hcells w hw); (try go_split_ands); go_simp <;> with_reducible rfl)
              (try simp only [Act.put, List.setIfInBounds_toArray, List.set_cons_zero, List.set_cons_succ])
              refine QK.take HK ?_ (by rfl) ?_ ?_
              rotate_left
              · (intro w hw; (try have hcs := hcells w hw); (try go_split_ands); go_simp <;> with_reducible rfl)
              (try simp only [Act.put, List.setIfInBounds_toArray, List.set_cons_zero, List.set_cons_succ])
              refine QK.nil HK ?_
              clear HK K
              intro wq hq
              have hgq := hgr wq hq
              have HPQ : Hid (Pl w t gu gz gm n x (.slice (some ⟨ga, oa, none⟩) n sc) wq) := HP.out.gr hgq
              clear hq hgr hin hcl hcells C ca cb CS HP hgq
              go_wp2_with fail
              go_roundg (n - (j + 1))
              case measure => omega
              case rel => exact ⟨j + 1, by omega, by simp, HPQ.out⟩
            · have hjn' : ¬ (j : Int) < n := by omega
              go_wp2_with fail
              go_roundg (n - (i + 1))
              case measure => omega
              case rel => exact ⟨i + 1, by omega, by simp, HP.out⟩
        · have hin' : ¬ (i : Int) < n := by omega
          have CL := Len_any wr HP.out.un.sb
          have CC := Count_any wr HP.out.un.sb
          have CU := count_any _ x wr HP.out.rd (by rw [HP.out.len]; omega)
          have CA := awake_any wr
          obtain ⟨cu, hcu⟩ : ∃ cu, cntU x x.length = cu := ⟨_, rfl⟩
          rw [hcu] at CC CU
          rw [HP.out.len] at CL
          have HB : Hid (Below w.heap.size w wr) := HP.out.bel
          clear HP hcu
          go_wp2_with fail
          refine CL.mono ?_
          clear CL
          rintro e w5 ⟨rfl, e5⟩
          obtain rfl := e5.symm
          go_wp2_with fail
          refine CC.mono ?_
          clear CC
          rintro e w5 ⟨rfl, e5⟩
          obtain rfl := e5.symm
          go_wp2_with fail
          refine CU.mono ?_
          clear CU
          rintro e w5 ⟨rfl, e5⟩
          obtain rfl := e5.symm
          go_wp2_with fail
          refine CA.mono ?_
          clear CA
          rintro e w5 ⟨rfl, hb5⟩
          go_wp2_with fail
          go_ret
          exact ⟨rfl, HB.out.trans (hb5.mono HB.out.size)⟩
theorem law_plays (k : Int) (a : Option Addr) (m c : Nat) (l : List (Int × Int)) (_ : -9223372036854775808 ≤ k) (_ : k < 9223372036854775808) (w : World) (h : Ops w a m l) : Calls Try.prog 3 #[.int .i64 k, .slice a m c] w fun e w' => e = .returned (.bool true) ∧ Below w.heap.size w w' := by
  by_cases hk : 0 ≤ k ∧ k ≤ 60 ∧ m ≤ 80
  · have h1 := law_plays_few k.toNat a m c l w h (by omega) hk.2.2
    have e : ((k.toNat : Nat) : Int) = k := by omega
    rw [e] at h1
    exact h1
  · exact law_plays_many k a m c w hk
end Go.Proofs.Ytchbnkapajnjgaa
