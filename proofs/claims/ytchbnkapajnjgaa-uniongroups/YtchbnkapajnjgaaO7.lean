/- Contracts of package union over the loaded program: Join. -/
import Derived.Test.YtchbnkapajnjgaaO6
import Derived.Test.YtchbnkapajnjgaaH1b
namespace Go.Proofs.Ytchbnkapajnjgaa
open Go.RowKit Go.Shelf
attribute [local go_sem] Gr.size Gr.cell? Gr.frozen? Gr.setCell Gr.drew Gr.drewN Gr.of_drew Gr.of_drewN Gr.gr Gr.lt_of1 Gr.le_of1 Gr.lt_of2 Gr.le_of2 Gr.lt_of3 Gr.le_of3 Gr.lt_of4 Gr.le_of4 Gr.lt_of5 Gr.le_of5 Gr.lt_of6 Gr.le_of6 Gr.lt_of7 Gr.le_of7 Gr.lt_of8 Gr.le_of8 Gr.lt_of9 Gr.le_of9 Gr.lt_of10 Gr.le_of10 Gr.lt_of11 Gr.le_of11 Gr.lt_of12 Gr.le_of12 Gr.lt_of13 Gr.le_of13 Gr.lt_of14 Gr.le_of14 Gr.lt_of15 Gr.le_of15 Gr.lt_of16 Gr.le_of16 Gr.lt_of17 Gr.le_of17 Gr.lt_of18 Gr.le_of18 Gr.lt_of19 Gr.le_of19 Gr.lt_of20 Gr.le_of20 Gr.lt_of21 Gr.le_of21 Gr.lt_of22 Gr.le_of22 Gr.lt_of23 Gr.le_of23 Gr.lt_of24 Gr.le_of24
set_option maxRecDepth 20000 in set_option maxHeartbeats 2000000 in
theorem Join_no {t gu gz gm n : Nat} {k : Int} (a b : Int) (w : World) (h : Sb w t gu gz gm n k) (hab : (wth a n && wth b n) = false) :
    Calls Try.prog 10 #[.pointer (some ⟨t, 0, none⟩), .int .i64 a, .int .i64 b] w fun e w' => e = .returned (.tuple #[.bool false, .int .i64 11]) ∧ w' = w := by
  have CA := has_any a w h
  have CB := has_any b w h
  cases ha : wth a n with
  | false =>
    rw [ha] at CA
    clear h hab ha CB
    go_enter Try.func10, Try.ntmps10
    go_wp2_with fail
    refine CA.mono ?_
    rintro e w1 ⟨rfl, e1⟩
    obtain rfl := e1.symm
    go_wp2_with fail
    exact bodyPost_ret (v := .tuple #[.bool false, .int .i64 11]) (by simp [results, Try.results10, go_sem]) rfl ⟨rfl, rfl⟩
  | true =>
    rw [ha, Bool.true_and] at hab
    rw [ha] at CA
    rw [hab] at CB
    clear h hab ha
    go_enter Try.func10, Try.ntmps10
    go_wp2_with fail
    refine CA.mono ?_
    rintro e w1 ⟨rfl, e1⟩
    obtain rfl := e1.symm
    go_wp2_with fail
    refine CB.mono ?_
    rintro e w1 ⟨rfl, e1⟩
    obtain rfl := e1.symm
    go_wp2_with fail
    exact bodyPost_ret (v := .tuple #[.bool false, .int .i64 11]) (by simp [results, Try.results10, go_sem]) rfl ⟨rfl, rfl⟩
set_option maxRecDepth 20000 in set_option maxHeartbeats 2000000 in
theorem Join_same {base t gu gz gm : Nat} {x : List Int} (a b : Nat) (w : World) (h : Un w base t gu gz gm x) (ha : a < x.length) (hb : b < x.length) (he : x.getD a 0 = x.getD b 0) :
    Calls Try.prog 10 #[.pointer (some ⟨t, 0, none⟩), .int .i64 a, .int .i64 b] w fun e w' => e = .returned (.tuple #[.bool false, .int .i64 0]) ∧ w' = w := by
  obtain ⟨u, z, m, hU, hM⟩ := h.tr
  have CA := has_any a w hM.b
  have CB := has_any b w hM.b
  rw [wth_nat ha] at CA
  rw [wth_nat hb] at CB
  obtain ⟨r, hr⟩ := hU.top ha
  have hq : Tp u x b r := ⟨hr.lt, hr.top, hr.same.trans he⟩
  have CR := top_any hU a r w hM ha hr
  have CQ := top_any hU b r w hM hb hq
  clear h hU hM hr hq ha hb he
  go_enter Try.func10, Try.ntmps10
  go_wp2_with fail
  refine CA.mono ?_
  rintro e w1 ⟨rfl, e1⟩
  obtain rfl := e1.symm
  go_wp2_with fail
  refine CB.mono ?_
  rintro e w1 ⟨rfl, e1⟩
  obtain rfl := e1.symm
  go_wp2_with fail
  refine CR.mono ?_
  rintro e w1 ⟨rfl, e1⟩
  obtain rfl := e1.symm
  go_wp2_with fail
  refine CQ.mono ?_
  rintro e w1 ⟨rfl, e1⟩
  obtain rfl := e1.symm
  go_wp2_with fail
  exact bodyPost_ret (v := .tuple #[.bool false, .int .i64 0]) (by simp [results, Try.results10, go_sem]) rfl ⟨rfl, rfl⟩

set_option maxRecDepth 20000 in set_option maxHeartbeats 2000000 in
theorem Join_ne_lt {t gu gz gm : Nat} {x u z m : List Int} (a b r q : Nat) (w : World) (hds : Ds t gu gz gm) (hU : Up u z m x) (hM : Um w t gu gz gm u z m x.length (cntU x x.length : Nat)) (ha : a < x.length) (hb : b < x.length) (hmax : x.length ≤ 1048576)
    (hr : Tp u x a r) (hq : Tp u x b q) (he : x.getD a 0 ≠ x.getD b 0) (hc : decide (z.getD r 0 < z.getD q 0) = true) :
    Calls Try.prog 10 #[.pointer (some ⟨t, 0, none⟩), .int .i64 a, .int .i64 b] w fun e w' => e = .returned (.tuple #[.bool true, .int .i64 0]) ∧ Um w' t gu gz gm (u.set r q) (z.set q (z.getD q 0 + z.getD r 0)) (m.set q (min (m.getD q 0) (m.getD r 0))) x.length ((cntU x x.length : Nat) - 1) ∧ Wr [t, gu, gz, gm] w w' := by
  have CA := has_any a w hM.b
  have CB := has_any b w hM.b
  rw [wth_nat ha] at CA
  rw [wth_nat hb] at CB
  have CR := top_any hU a r w hM ha hr
  have CQ := top_any hU b q w hM hb hq
  obtain ⟨i, j, hi, hj, hij⟩ := hU.two hr hq he
  have hrq : ((r : Int) == (q : Int)) = false := by
    simp only [beq_eq_false_iff_ne, ne_eq]
    intro e2
    have e3 : r = q := by omega
    exact he (by rw [← hr.same, ← hq.same, e3])
  have hRn := hr.rng
  have hQn := hq.rng
  have hRl := hr.lt
  have hQl := hq.lt
  have hpos : 0 < cntU x x.length := cnt_pos hU.lea ha
  have hcl := cntU_le x x.length
  obtain ⟨n, hn⟩ : ∃ n, x.length = n := ⟨_, rfl⟩
  obtain ⟨k, hk⟩ : ∃ k, cntU x x.length = k := ⟨_, rfl⟩
  rw [hk] at hM hpos hcl ⊢
  obtain ⟨mr, hmr⟩ : ∃ y, m.getD r 0 = y := ⟨_, rfl⟩
  obtain ⟨mq, hmq⟩ : ∃ y, m.getD q 0 = y := ⟨_, rfl⟩
  have HU : Hid ((u.length = n ∧ z.length = n ∧ m.length = n) ∧ (z.getD r 0 = i ∧ z.getD q 0 = j) ∧ m.getD r 0 = mr ∧ m.getD q 0 = mq) := ⟨⟨hn ▸ hU.lu, hn ▸ hU.lz, hn ▸ hU.lm⟩, ⟨hi, hj⟩, hmr, hmq⟩
  rw [hn] at hM hRn hQn hRl hQl hij hcl hmax ⊢
  rw [hi, hj] at hc
  rw [hi, hj, hmr, hmq]
  have hc2 : (i : Int) < j := of_decide_eq_true hc
  have HM : Hid (Um w t gu gz gm u z m n k) := hM
  have HDS : Hid (Ds t gu gz gm) := hds
  have hs1 : IntKind.i64.wrap ((j : Int) + (i : Int)) = (j : Int) + (i : Int) := by rw [IntKind.wrap_i64]; omega
  have hs2 : IntKind.i64.wrap ((k : Int) - 1) = (k : Int) - 1 := by rw [IntKind.wrap_i64]; omega
  have c0 := hM.b.c0
  have c1 := hM.b.c1
  have cr := hM.rz.cell (i := r) (by have := HU.out.1; omega)
  have cq := hM.rz.cell (i := q) (by have := HU.out.1; omega)
  have cu := hM.ru.cell (i := r) (by have := HU.out.1; omega)
  have fu := hM.ru.fz r
  rw [hi] at cr
  rw [hj] at cq
  clear hU hM hr hq ha hb he hi hj hij hpos hcl hn hk hmr hmq hds hmax hRl hQl
  go_enter Try.func10, Try.ntmps10
  go_wp2_with fail
  refine CA.mono ?_
  rintro e w1 ⟨rfl, e1⟩
  obtain rfl := e1.symm
  go_wp2_with fail
  refine CB.mono ?_
  rintro e w1 ⟨rfl, e1⟩
  obtain rfl := e1.symm
  go_wp2_with fail
  refine CR.mono ?_
  rintro e w1 ⟨rfl, e1⟩
  obtain rfl := e1.symm
  go_wp2_with fail
  refine CQ.mono ?_
  rintro e w1 ⟨rfl, e1⟩
  obtain rfl := e1.symm
  go_upto_region 6 with fail
  obtain ⟨C, hin, hcl, hcells, hgr⟩ : ∃ C : World → Prop, (∀ w', IsGr w w' → C w') ∧ (∀ u u', C u → IsGr u u' → C u') ∧ (∀ w', C w' → (w'.cell? ⟨t, 1, none⟩ = some (.slice (some ⟨gz, 0, none⟩) n n)) ∧ (w'.cell? ⟨gz, r, none⟩ = some (.int .i64 i)) ∧ (w'.cell? ⟨gz, q, none⟩ = some (.int .i64 j))) ∧ (∀ w', C w' → IsGr w w') := ⟨fun w' => IsGr w w', fun _ h => h, fun _ _ h k => h.trans k, fun w' hg => ⟨cellk c1 hg, cellk cr hg, cellk cq hg⟩, fun _ h => h⟩
  refine wp_region_quietV C (by kernel_rfl) (by kernel_rfl) (hin _ (by with_reducible repeat (first | exact IsGr.refl _ | refine IsGr.gr ?_ _ _ | refine IsGr.alloc ?_ _ | refine IsGr.drew ?_ | refine IsGr.drewN ?_ _))) (fun K HK => ?_)
  refine QK.take HK ?_ (by rfl) ?_ ?_
  rotate_left
  · (intro w hw; (try have hcs := hcells w hw); (try go_split_ands); go_simp <;> with_reducible rfl)
  (try simp only [Act.put, List.setIfInBounds_toArray, List.set_cons_zero, List.set_cons_succ])
  refine QK.take HK ?_ (by rfl) ?_ ?_
  rotate_left
  · (intro w hw; (try have hcs := hcells w hw); (try go_split_ands); go_simp <;> with_reducible rfl)
  (try simp only [Act.put, List.setIfInBounds_toArray, List.set_cons_zero, List.set_cons_succ])
  refine QK.take HK ?_ (by rfl) ?_ ?_
  rotate_left
  · (intro w hw; (try have hcs := hcells w hw); (try go_split_ands); go_simp <;> with_reducible rfl)
  (try simp only [Act.put, List.setIfInBounds_toArray, List.set_cons_zero, List.set_cons_succ])
  refine QK.take HK ?_ (by rfl) ?_ ?_
  rotate_left
  · (intro w hw; (try have hcs := hcells w hw); (try go_split_ands); go_simp <;> with_reducible rfl)
  (try simp only [Act.put, List.setIfInBounds_toArray, List.set_cons_zero, List.set_cons_succ])
  refine QK.take HK ?_ (by rfl) ?_ ?_
  rotate_left
  · (intro w hw; (try have hcs := hcells w hw); (try go_split_ands); go_simp <;> with_reducible rfl)
  (try simp only [Act.put, List.setIfInBounds_toArray, List.set_cons_zero, List.set_cons_succ])
  refine QK.take HK ?_ (by rfl) ?_ ?_
  rotate_left
  · (intro w hw; (try have hcs := hcells w hw); (try go_split_ands); go_simp <;> with_reducible rfl)
  (try simp only [Act.put, List.setIfInBounds_toArray, List.set_cons_zero, List.set_cons_succ])
  refine QK.take HK ?_ (by rfl) ?_ ?_
  rotate_left
  · (intro w hw; (try have hcs := hcells w hw); (try go_split_ands); go_simp <;> with_reducible rfl)
  (try simp only [Act.put, List.setIfInBounds_toArray, List.set_cons_zero, List.set_cons_succ])
  refine QK.take HK ?_ (by rfl) ?_ ?_
  rotate_left
  · (intro w hw; (try have hcs := hcells w hw); (try go_split_ands); go_simp <;> with_reducible rfl)
  (try simp only [Act.put, List.setIfInBounds_toArray, List.set_cons_zero, List.set_cons_succ])
  refine QK.take HK ?_ (by rfl) ?_ ?_
  rotate_left
  · (intro w hw; (try have hcs := hcells w hw); (try go_split_ands); go_simp <;> with_reducible rfl)
  (try simp only [Act.put, List.setIfInBounds_toArray, List.set_cons_zero, List.set_cons_succ])
  refine QK.take HK ?_ (by rfl) ?_ ?_
  rotate_left
  · (intro w hw; (try have hcs := hcells w hw); (try go_split_ands); go_simp <;> with_reducible rfl)
  (try simp only [Act.put, List.setIfInBounds_toArray, List.set_cons_zero, List.set_cons_succ])
  refine QK.take HK ?_ (by rfl) ?_ ?_
  rotate_left
  · (intro w hw; (try have hcs := hcells w hw); (try go_split_ands); go_simp <;> with_reducible rfl)
  (try simp only [Act.put, List.setIfInBounds_toArray, List.set_cons_zero, List.set_cons_succ])
  refine QK.take HK ?_ (by rfl) ?_ ?_
  rotate_left
  · (intro w hw; (try have hcs := hcells w hw); (try go_split_ands); go_simp <;> with_reducible rfl)
  (try simp only [Act.put, List.setIfInBounds_toArray, List.set_cons_zero, List.set_cons_succ])
  refine QK.take HK ?_ (by rfl) ?_ ?_
  rotate_left
  · (intro w hw; (try have hcs := hcells w hw); (try go_split_ands); go_simp <;> with_reducible rfl)
  (try simp only [Act.put, List.setIfInBounds_toArray, List.set_cons_zero, List.set_cons_succ])
  refine QK.take HK ?_ (by rfl) ?_ ?_
  rotate_left
  · (intro w hw; (try have hcs := hcells w hw); (try go_split_ands); go_simp <;> with_reducible rfl)
  (try simp only [Act.put, List.setIfInBounds_toArray, List.set_cons_zero, List.set_cons_succ])
  refine QK.take HK ?_ (by rfl) ?_ ?_
  rotate_left
  · (intro w hw; (try have hcs := hcells w hw); (try go_split_ands); go_simp <;> with_reducible rfl)
  (try simp only [Act.put, List.setIfInBounds_toArray, List.set_cons_zero, List.set_cons_succ])
  refine QK.nil HK ?_
  clear HK K
  intro wq hq
  have hgq := hgr wq hq
  clear hq hgr hin hcl hcells CA CB CR CQ
  replace c0 := cellk c0 hgq
  replace fu := frzk cu fu hgq
  replace cu := cellk cu hgq
  have HM1 : Hid (Um wq t gu gz gm u z m n k ∧ IsGr w wq) := ⟨HM.out.gr hgq, hgq⟩
  clear HM hgq c1 cr cq
  go_upto_region 9 with fail
  obtain ⟨wa, hwa⟩ : ∃ wa, wa = wq.setCell ⟨gu, r, none⟩ (.int .i64 (q : Nat)) := ⟨_, rfl⟩
  rw [← hwa]
  obtain ⟨d1, d2, d3, d4, d5, d6⟩ := HDS.out
  have HM2 : Hid (Um wa t gu gz gm (u.set r q) z m n k ∧ Wr [t, gu, gz, gm] w wa) := by
    obtain ⟨hM, hg⟩ := HM1.out
    subst hwa
    exact ⟨⟨hM.b.other _ _ d1, hM.ru.set _ _, hM.rz.other _ _ (Ne.symm d4), hM.rm.other _ _ (Ne.symm d5)⟩, (Wr.of_gr hg).set _ _ _ (Or.inl (by simp))⟩
  have c1 := HM2.out.1.b.c1
  have cr := HM2.out.1.rz.cell (i := r) (by have := HU.out.1; omega)
  have cq := HM2.out.1.rz.cell (i := q) (by have := HU.out.1; omega)
  have fz := HM2.out.1.rz.fz q
  rw [HU.out.2.1.1] at cr
  rw [HU.out.2.1.2] at cq
  clear d1 d2 d3 d4 d5 d6 HM1 hwa c0 cu fu hc hc2 hrq
  obtain ⟨C, hin, hcl, hcells, hgr⟩ : ∃ C : World → Prop, (∀ w', IsGr wa w' → C w') ∧ (∀ u u', C u → IsGr u u' → C u') ∧ (∀ w', C w' → (w'.cell? ⟨t, 1, none⟩ = some (.slice (some ⟨gz, 0, none⟩) n n)) ∧ (w'.cell? ⟨gz, r, none⟩ = some (.int .i64 i)) ∧ (w'.cell? ⟨gz, q, none⟩ = some (.int .i64 j)) ∧ (w'.frozen? ⟨gz, q, none⟩ = false)) ∧ (∀ w', C w' → IsGr wa w') := ⟨fun w' => IsGr wa w', fun _ h => h, fun _ _ h k => h.trans k, fun w' hg => ⟨cellk c1 hg, cellk cr hg, cellk cq hg, frzk cq fz hg⟩, fun _ h => h⟩
  refine wp_region_only (S := C) (k := 16) (n := 16) (by kernel_rfl) (by kernel_rfl) (by (try dsimp only); exact hin _ (by with_reducible repeat (first | exact IsGr.refl _ | refine IsGr.gr ?_ _ _ | refine IsGr.alloc ?_ _ | refine IsGr.drew ?_ | refine IsGr.drewN ?_ _))) (fun hHeld => ?_)
  refine wpAnyH_take (i := 0) (oi := { dst := some 53, op := Op.move (Operand.tmp 0), type := 24, pos := "union.go:63", after := #[], guard := none }) (v := ?_) rfl (by kernel_rfl) (by kernel_rfl) (by kernel_rfl) (fun _ _ _ h => h) (Or.inl ⟨by rfl, ?_⟩) (by assumption) ?_
  rotate_left
  · (intro w hSw; (try dsimp only at hSw); (try have hcs := hcells w hSw); (try go_split_ands); go_simp <;> with_reducible rfl)
  (try simp only [Act.put, List.setIfInBounds_toArray, List.set_cons_zero, List.set_cons_succ])
  refine wpAnyH_take (i := 1) (oi := { dst := some 54, op := Op.nilCheck (Operand.tmp 53), type := 0, pos := "union.go:63", after := #[{ on := 0, ground := Ground.data }], guard := none }) (v := ?_) rfl (by kernel_rfl) (by kernel_rfl) (by kernel_rfl) (fun _ _ _ h => h) (Or.inl ⟨by rfl, ?_⟩) (by assumption) ?_
  rotate_left
  · (intro w hSw; (try dsimp only at hSw); (try have hcs := hcells w hSw); (try go_split_ands); go_simp <;> with_reducible rfl)
  (try simp only [Act.put, List.setIfInBounds_toArray, List.set_cons_zero, List.set_cons_succ])
  refine wpAnyH_take (i := 2) (oi := { dst := some 55, op := Op.fieldAddr 51 (Operand.tmp 54) 1, type := 0, pos := "union.go:63", after := #[{ on := 1, ground := Ground.data }], guard := none }) (v := ?_) rfl (by kernel_rfl) (by kernel_rfl) (by kernel_rfl) (fun _ _ _ h => h) (Or.inl ⟨by rfl, ?_⟩) (by assumption) ?_
  rotate_left
  · (intro w hSw; (try dsimp only at hSw); (try have hcs := hcells w hSw); (try go_split_ands); go_simp <;> with_reducible rfl)
  (try simp only [Act.put, List.setIfInBounds_toArray, List.set_cons_zero, List.set_cons_succ])
  refine wpAnyH_take (i := 3) (oi := { dst := some 56, op := Op.load 26 (Operand.tmp 55), type := 26, pos := "union.go:63", after := #[{ on := 2, ground := Ground.data }], guard := none }) (v := ?_) rfl (by kernel_rfl) (by kernel_rfl) (by kernel_rfl) (fun _ _ _ h => h) (Or.inl ⟨by rfl, ?_⟩) (by assumption) ?_
  rotate_left
  · (intro w hSw; (try dsimp only at hSw); (try have hcs := hcells w hSw); (try go_split_ands); go_simp <;> with_reducible rfl)
  (try simp only [Act.put, List.setIfInBounds_toArray, List.set_cons_zero, List.set_cons_succ])
  refine wpAnyH_take (i := 4) (oi := { dst := some 57, op := Op.move (Operand.tmp 8), type := 3, pos := "union.go:63", after := #[], guard := none }) (v := ?_) rfl (by kernel_rfl) (by kernel_rfl) (by kernel_rfl) (fun _ _ _ h => h) (Or.inl ⟨by rfl, ?_⟩) (by assumption) ?_
  rotate_left
  · (intro w hSw; (try dsimp only at hSw); (try have hcs := hcells w hSw); (try go_split_ands); go_simp <;> with_reducible rfl)
  (try simp only [Act.put, List.setIfInBounds_toArray, List.set_cons_zero, List.set_cons_succ])
  refine wpAnyH_take (i := 5) (oi := { dst := some 58, op := Op.indexAddr 26 (Operand.tmp 56) (Operand.tmp 57), type := 0, pos := "union.go:63", after := #[{ on := 3, ground := Ground.data }, { on := 4, ground := Ground.data }], guard := none }) (v := ?_) rfl (by kernel_rfl) (by kernel_rfl) (by kernel_rfl) (fun _ _ _ h => h) (Or.inl ⟨by rfl, ?_⟩) (by assumption) ?_
  rotate_left
  · (intro w hSw; (try dsimp only at hSw); (try have hcs := hcells w hSw); (try go_split_ands); go_simp <;> with_reducible rfl)
  (try simp only [Act.put, List.setIfInBounds_toArray, List.set_cons_zero, List.set_cons_succ])
  refine wpAnyH_take (i := 6) (oi := { dst := some 59, op := Op.load 3 (Operand.tmp 58), type := 3, pos := "union.go:63", after := #[{ on := 5, ground := Ground.data }], guard := none }) (v := ?_) rfl (by kernel_rfl) (by kernel_rfl) (by kernel_rfl) (fun _ _ _ h => h) (Or.inl ⟨by rfl, ?_⟩) (by assumption) ?_
  rotate_left
  · (intro w hSw; (try dsimp only at hSw); (try have hcs := hcells w hSw); (try go_split_ands); go_simp <;> with_reducible rfl)
  (try simp only [Act.put, List.setIfInBounds_toArray, List.set_cons_zero, List.set_cons_succ])
  refine wpAnyH_take (i := 7) (oi := { dst := some 60, op := Op.move (Operand.tmp 0), type := 24, pos := "union.go:63", after := #[], guard := none }) (v := ?_) rfl (by kernel_rfl) (by kernel_rfl) (by kernel_rfl) (fun _ _ _ h => h) (Or.inl ⟨by rfl, ?_⟩) (by assumption) ?_
  rotate_left
  · (intro w hSw; (try dsimp only at hSw); (try have hcs := hcells w hSw); (try go_split_ands); go_simp <;> with_reducible rfl)
  (try simp only [Act.put, List.setIfInBounds_toArray, List.set_cons_zero, List.set_cons_succ])
  refine wpAnyH_take (i := 8) (oi := { dst := some 61, op := Op.nilCheck (Operand.tmp 60), type := 0, pos := "union.go:63", after := #[{ on := 7, ground := Ground.data }], guard := none }) (v := ?_) rfl (by kernel_rfl) (by kernel_rfl) (by kernel_rfl) (fun _ _ _ h => h) (Or.inl ⟨by rfl, ?_⟩) (by assumption) ?_
  rotate_left
  · (intro w hSw; (try dsimp only at hSw); (try have hcs := hcells w hSw); (try go_split_ands); go_simp <;> with_reducible rfl)
  (try simp only [Act.put, List.setIfInBounds_toArray, List.set_cons_zero, List.set_cons_succ])
  refine wpAnyH_take (i := 9) (oi := { dst := some 62, op := Op.fieldAddr 51 (Operand.tmp 61) 1, type := 0, pos := "union.go:63", after := #[{ on := 8, ground := Ground.data }], guard := none }) (v := ?_) rfl (by kernel_rfl) (by kernel_rfl) (by kernel_rfl) (fun _ _ _ h => h) (Or.inl ⟨by rfl, ?_⟩) (by assumption) ?_
  rotate_left
  · (intro w hSw; (try dsimp only at hSw); (try have hcs := hcells w hSw); (try go_split_ands); go_simp <;> with_reducible rfl)
  (try simp only [Act.put, List.setIfInBounds_toArray, List.set_cons_zero, List.set_cons_succ])
  refine wpAnyH_take (i := 10) (oi := { dst := some 63, op := Op.load 26 (Operand.tmp 62), type := 26, pos := "union.go:63", after := #[{ on := 9, ground := Ground.data }], guard := none }) (v := ?_) rfl (by kernel_rfl) (by kernel_rfl) (by kernel_rfl) (fun _ _ _ h => h) (Or.inl ⟨by rfl, ?_⟩) (by assumption) ?_
  rotate_left
  · (intro w hSw; (try dsimp only at hSw); (try have hcs := hcells w hSw); (try go_split_ands); go_simp <;> with_reducible rfl)
  (try simp only [Act.put, List.setIfInBounds_toArray, List.set_cons_zero, List.set_cons_succ])
  refine wpAnyH_take (i := 11) (oi := { dst := some 64, op := Op.move (Operand.tmp 9), type := 3, pos := "union.go:63", after := #[], guard := none }) (v := ?_) rfl (by kernel_rfl) (by kernel_rfl) (by kernel_rfl) (fun _ _ _ h => h) (Or.inl ⟨by rfl, ?_⟩) (by assumption) ?_
  rotate_left
  · (intro w hSw; (try dsimp only at hSw); (try have hcs := hcells w hSw); (try go_split_ands); go_simp <;> with_reducible rfl)
  (try simp only [Act.put, List.setIfInBounds_toArray, List.set_cons_zero, List.set_cons_succ])
  refine wpAnyH_take (i := 12) (oi := { dst := some 65, op := Op.indexAddr 26 (Operand.tmp 63) (Operand.tmp 64), type := 0, pos := "union.go:63", after := #[{ on := 10, ground := Ground.data }, { on := 11, ground := Ground.data }], guard := none }) (v := ?_) rfl (by kernel_rfl) (by kernel_rfl) (by kernel_rfl) (fun _ _ _ h => h) (Or.inl ⟨by rfl, ?_⟩) (by assumption) ?_
  rotate_left
  · (intro w hSw; (try dsimp only at hSw); (try have hcs := hcells w hSw); (try go_split_ands); go_simp <;> with_reducible rfl)
  (try simp only [Act.put, List.setIfInBounds_toArray, List.set_cons_zero, List.set_cons_succ])
  refine wpAnyH_take (i := 13) (oi := { dst := some 66, op := Op.load 3 (Operand.tmp 65), type := 3, pos := "union.go:63", after := #[{ on := 12, ground := Ground.data }], guard := none }) (v := ?_) rfl (by kernel_rfl) (by kernel_rfl) (by kernel_rfl) (fun _ _ _ h => h) (Or.inl ⟨by rfl, ?_⟩) (by assumption) ?_
  rotate_left
  · (intro w hSw; (try dsimp only at hSw); (try have hcs := hcells w hSw); (try go_split_ands); go_simp <;> with_reducible rfl)
  (try simp only [Act.put, List.setIfInBounds_toArray, List.set_cons_zero, List.set_cons_succ])
  refine wpAnyH_take (i := 14) (oi := { dst := some 67, op := Op.binOp BinOp.add 3 (Operand.tmp 59) (Operand.tmp 66) 3, type := 3, pos := "union.go:63", after := #[{ on := 6, ground := Ground.data }, { on := 13, ground := Ground.data }], guard := none }) (v := ?_) rfl (by kernel_rfl) (by kernel_rfl) (by kernel_rfl) (fun _ _ _ h => h) (Or.inl ⟨by rfl, ?_⟩) (by assumption) ?_
  rotate_left
  · (intro w hSw; (try dsimp only at hSw); (try have hcs := hcells w hSw); (try go_split_ands); go_simp <;> with_reducible rfl)
  (try simp only [Act.put, List.setIfInBounds_toArray, List.set_cons_zero, List.set_cons_succ])
  refine wpAnyH_take (i := 15) (oi := { dst := some 68, op := Op.indexAddr 26 (Operand.tmp 56) (Operand.tmp 57), type := 0, pos := "union.go:63", after := #[{ on := 3, ground := Ground.data }, { on := 4, ground := Ground.data }, { on := 0, ground := Ground.phase }, { on := 1, ground := Ground.phase }, { on := 2, ground := Ground.phase }, { on := 3, ground := Ground.phase }, { on := 4, ground := Ground.phase }, { on := 5, ground := Ground.phase }, { on := 6, ground := Ground.phase }, { on := 7, ground := Ground.phase }, { on := 8, ground := Ground.phase }, { on := 9, ground := Ground.phase }, { on := 10, ground := Ground.phase }, { on := 11, ground := Ground.phase }, { on := 12, ground := Ground.phase }, { on := 13, ground := Ground.phase }, { on := 14, ground := Ground.phase }], guard := none }) (v := ?_) rfl (by kernel_rfl) (by kernel_rfl) (by kernel_rfl) (fun _ _ _ h => h) (Or.inl ⟨by rfl, ?_⟩) (by assumption) ?_
  rotate_left
  · (intro w hSw; (try dsimp only at hSw); (try have hcs := hcells w hSw); (try go_split_ands); go_simp <;> with_reducible rfl)
  (try simp only [Act.put, List.setIfInBounds_toArray, List.set_cons_zero, List.set_cons_succ])
  refine wpAnyH_done (by kernel_rfl) ?_ _
  obtain ⟨z1, z2, z3, z4⟩ := hcells _ hHeld
  have hg := hgr _ hHeld
  refine butLast_step (o := { dst := none, op := Op.store 3 (Operand.tmp 68) (Operand.tmp 67), type := 0, pos := "union.go:63", after := #[{ on := 15, ground := Ground.data }, { on := 14, ground := Ground.data }, { on := 0, ground := Ground.phase }, { on := 1, ground := Ground.phase }, { on := 2, ground := Ground.phase }, { on := 3, ground := Ground.phase }, { on := 4, ground := Ground.phase }, { on := 5, ground := Ground.phase }, { on := 6, ground := Ground.phase }, { on := 7, ground := Ground.phase }, { on := 8, ground := Ground.phase }, { on := 9, ground := Ground.phase }, { on := 10, ground := Ground.phase }, { on := 11, ground := Ground.phase }, { on := 12, ground := Ground.phase }, { on := 13, ground := Ground.phase }, { on := 14, ground := Ground.phase }], guard := none }) rfl (fun K hK => ?_)
  go_simp
  refine hK.out _ _ ?_
  clear hK K
  (try simp only [Act.put, List.setIfInBounds_toArray, List.set_cons_zero, List.set_cons_succ])
  clear z1 z2 z3 z4 hHeld hgr hcells hcl hin C c1 cr cq fz
  go_upto_region 10 with fail
  obtain ⟨wb, hwb⟩ : ∃ wb, wb = (wa.setCell ⟨gz, q, none⟩ (.int .i64 ((j : Int) + (i : Int)))).drew := ⟨_, rfl⟩
  rw [← hwb]
  obtain ⟨d1, d2, d3, d4, d5, d6⟩ := HDS.out
  have HM3 : Hid (Um wb t gu gz gm (u.set r q) (z.set q ((j : Int) + (i : Int))) m n k ∧ Wr [t, gu, gz, gm] w wb) := by
    obtain ⟨hM, hW⟩ := HM2.out
    subst hwb
    exact ⟨Um.gr ⟨hM.b.other _ _ d2, hM.ru.other _ _ d4, hM.rz.set _ _, hM.rm.other _ _ (Ne.symm d6)⟩ ((IsGr.refl _).drew), (hW.set _ _ _ (Or.inl (by simp))).drew⟩
  have c2 := HM3.out.1.b.c2
  have cr := HM3.out.1.rm.cell (i := r) (by have := HU.out.1; omega)
  have cq := HM3.out.1.rm.cell (i := q) (by have := HU.out.1; omega)
  have fz := HM3.out.1.rm.fz q
  rw [HU.out.2.2.1] at cr
  rw [HU.out.2.2.2] at cq
  clear d1 d2 d3 d4 d5 d6 HM2 hwb hg
  obtain ⟨C, hin, hcl, hcells, hgr⟩ : ∃ C : World → Prop, (∀ w', IsGr wb w' → C w') ∧ (∀ u u', C u → IsGr u u' → C u') ∧ (∀ w', C w' → (w'.cell? ⟨t, 2, none⟩ = some (.slice (some ⟨gm, 0, none⟩) n n)) ∧ (w'.cell? ⟨gm, r, none⟩ = some (.int .i64 mr)) ∧ (w'.cell? ⟨gm, q, none⟩ = some (.int .i64 mq)) ∧ (w'.frozen? ⟨gm, q, none⟩ = false)) ∧ (∀ w', C w' → IsGr wb w') := ⟨fun w' => IsGr wb w', fun _ h => h, fun _ _ h k => h.trans k, fun w' hg => ⟨cellk c2 hg, cellk cr hg, cellk cq hg, frzk cq fz hg⟩, fun _ h => h⟩
  refine wp_region_only (S := C) (k := 21) (n := 21) (by kernel_rfl) (by kernel_rfl) (by (try dsimp only); exact hin _ (by with_reducible repeat (first | exact IsGr.refl _ | refine IsGr.gr ?_ _ _ | refine IsGr.alloc ?_ _ | refine IsGr.drew ?_ | refine IsGr.drewN ?_ _))) (fun hHeld => ?_)
  refine wpAnyH_take (i := 0) (oi := { dst := some 69, op := Op.move (Operand.tmp 0), type := 24, pos := "union.go:64", after := #[], guard := none }) (v := ?_) rfl (by kernel_rfl) (by kernel_rfl) (by kernel_rfl) (fun _ _ _ h => h) (Or.inl ⟨by rfl, ?_⟩) (by assumption) ?_
  rotate_left
  · (intro w hSw; (try dsimp only at hSw); (try have hcs := hcells w hSw); (try go_split_ands); go_simp <;> with_reducible rfl)
  (try simp only [Act.put, List.setIfInBounds_toArray, List.set_cons_zero, List.set_cons_succ])
  refine wpAnyH_take (i := 1) (oi := { dst := some 70, op := Op.nilCheck (Operand.tmp 69), type := 0, pos := "union.go:64", after := #[{ on := 0, ground := Ground.data }], guard := none }) (v := ?_) rfl (by kernel_rfl) (by kernel_rfl) (by kernel_rfl) (fun _ _ _ h => h) (Or.inl ⟨by rfl, ?_⟩) (by assumption) ?_
  rotate_left
  · (intro w hSw; (try dsimp only at hSw); (try have hcs := hcells w hSw); (try go_split_ands); go_simp <;> with_reducible rfl)
  (try simp only [Act.put, List.setIfInBounds_toArray, List.set_cons_zero, List.set_cons_succ])
  refine wpAnyH_take (i := 2) (oi := { dst := some 71, op := Op.fieldAddr 51 (Operand.tmp 70) 2, type := 0, pos := "union.go:64", after := #[{ on := 1, ground := Ground.data }], guard := none }) (v := ?_) rfl (by kernel_rfl) (by kernel_rfl) (by kernel_rfl) (fun _ _ _ h => h) (Or.inl ⟨by rfl, ?_⟩) (by assumption) ?_
  rotate_left
  · (intro w hSw; (try dsimp only at hSw); (try have hcs := hcells w hSw); (try go_split_ands); go_simp <;> with_reducible rfl)
  (try simp only [Act.put, List.setIfInBounds_toArray, List.set_cons_zero, List.set_cons_succ])
  refine wpAnyH_take (i := 3) (oi := { dst := some 72, op := Op.load 26 (Operand.tmp 71), type := 26, pos := "union.go:64", after := #[{ on := 2, ground := Ground.data }], guard := none }) (v := ?_) rfl (by kernel_rfl) (by kernel_rfl) (by kernel_rfl) (fun _ _ _ h => h) (Or.inl ⟨by rfl, ?_⟩) (by assumption) ?_
  rotate_left
  · (intro w hSw; (try dsimp only at hSw); (try have hcs := hcells w hSw); (try go_split_ands); go_simp <;> with_reducible rfl)
  (try simp only [Act.put, List.setIfInBounds_toArray, List.set_cons_zero, List.set_cons_succ])
  refine wpAnyH_take (i := 4) (oi := { dst := some 73, op := Op.move (Operand.tmp 8), type := 3, pos := "union.go:64", after := #[], guard := none }) (v := ?_) rfl (by kernel_rfl) (by kernel_rfl) (by kernel_rfl) (fun _ _ _ h => h) (Or.inl ⟨by rfl, ?_⟩) (by assumption) ?_
  rotate_left
  · (intro w hSw; (try dsimp only at hSw); (try have hcs := hcells w hSw); (try go_split_ands); go_simp <;> with_reducible rfl)
  (try simp only [Act.put, List.setIfInBounds_toArray, List.set_cons_zero, List.set_cons_succ])
  refine wpAnyH_take (i := 5) (oi := { dst := some 74, op := Op.move (Operand.tmp 0), type := 24, pos := "union.go:64", after := #[], guard := none }) (v := ?_) rfl (by kernel_rfl) (by kernel_rfl) (by kernel_rfl) (fun _ _ _ h => h) (Or.inl ⟨by rfl, ?_⟩) (by assumption) ?_
  rotate_left
  · (intro w hSw; (try dsimp only at hSw); (try have hcs := hcells w hSw); (try go_split_ands); go_simp <;> with_reducible rfl)
  (try simp only [Act.put, List.setIfInBounds_toArray, List.set_cons_zero, List.set_cons_succ])
  refine wpAnyH_take (i := 6) (oi := { dst := some 75, op := Op.nilCheck (Operand.tmp 74), type := 0, pos := "union.go:64", after := #[{ on := 5, ground := Ground.data }], guard := none }) (v := ?_) rfl (by kernel_rfl) (by kernel_rfl) (by kernel_rfl) (fun _ _ _ h => h) (Or.inl ⟨by rfl, ?_⟩) (by assumption) ?_
  rotate_left
  · (intro w hSw; (try dsimp only at hSw); (try have hcs := hcells w hSw); (try go_split_ands); go_simp <;> with_reducible rfl)
  (try simp only [Act.put, List.setIfInBounds_toArray, List.set_cons_zero, List.set_cons_succ])
  refine wpAnyH_take (i := 7) (oi := { dst := some 76, op := Op.fieldAddr 51 (Operand.tmp 75) 2, type := 0, pos := "union.go:64", after := #[{ on := 6, ground := Ground.data }], guard := none }) (v := ?_) rfl (by kernel_rfl) (by kernel_rfl) (by kernel_rfl) (fun _ _ _ h => h) (Or.inl ⟨by rfl, ?_⟩) (by assumption) ?_
  rotate_left
  · (intro w hSw; (try dsimp only at hSw); (try have hcs := hcells w hSw); (try go_split_ands); go_simp <;> with_reducible rfl)
  (try simp only [Act.put, List.setIfInBounds_toArray, List.set_cons_zero, List.set_cons_succ])
  refine wpAnyH_take (i := 8) (oi := { dst := some 77, op := Op.load 26 (Operand.tmp 76), type := 26, pos := "union.go:64", after := #[{ on := 7, ground := Ground.data }], guard := none }) (v := ?_) rfl (by kernel_rfl) (by kernel_rfl) (by kernel_rfl) (fun _ _ _ h => h) (Or.inl ⟨by rfl, ?_⟩) (by assumption) ?_
  rotate_left
  · (intro w hSw; (try dsimp only at hSw); (try have hcs := hcells w hSw); (try go_split_ands); go_simp <;> with_reducible rfl)
  (try simp only [Act.put, List.setIfInBounds_toArray, List.set_cons_zero, List.set_cons_succ])
  refine wpAnyH_take (i := 9) (oi := { dst := some 78, op := Op.move (Operand.tmp 8), type := 3, pos := "union.go:64", after := #[], guard := none }) (v := ?_) rfl (by kernel_rfl) (by kernel_rfl) (by kernel_rfl) (fun _ _ _ h => h) (Or.inl ⟨by rfl, ?_⟩) (by assumption) ?_
  rotate_left
  · (intro w hSw; (try dsimp only at hSw); (try have hcs := hcells w hSw); (try go_split_ands); go_simp <;> with_reducible rfl)
  (try simp only [Act.put, List.setIfInBounds_toArray, List.set_cons_zero, List.set_cons_succ])
  refine wpAnyH_take (i := 10) (oi := { dst := some 79, op := Op.indexAddr 26 (Operand.tmp 77) (Operand.tmp 78), type := 0, pos := "union.go:64", after := #[{ on := 8, ground := Ground.data }, { on := 9, ground := Ground.data }], guard := none }) (v := ?_) rfl (by kernel_rfl) (by kernel_rfl) (by kernel_rfl) (fun _ _ _ h => h) (Or.inl ⟨by rfl, ?_⟩) (by assumption) ?_
  rotate_left
  · (intro w hSw; (try dsimp only at hSw); (try have hcs := hcells w hSw); (try go_split_ands); go_simp <;> with_reducible rfl)
  (try simp only [Act.put, List.setIfInBounds_toArray, List.set_cons_zero, List.set_cons_succ])
  refine wpAnyH_take (i := 11) (oi := { dst := some 80, op := Op.load 3 (Operand.tmp 79), type := 3, pos := "union.go:64", after := #[{ on := 10, ground := Ground.data }], guard := none }) (v := ?_) rfl (by kernel_rfl) (by kernel_rfl) (by kernel_rfl) (fun _ _ _ h => h) (Or.inl ⟨by rfl, ?_⟩) (by assumption) ?_
  rotate_left
  · (intro w hSw; (try dsimp only at hSw); (try have hcs := hcells w hSw); (try go_split_ands); go_simp <;> with_reducible rfl)
  (try simp only [Act.put, List.setIfInBounds_toArray, List.set_cons_zero, List.set_cons_succ])
  refine wpAnyH_take (i := 12) (oi := { dst := some 81, op := Op.move (Operand.tmp 0), type := 24, pos := "union.go:64", after := #[], guard := none }) (v := ?_) rfl (by kernel_rfl) (by kernel_rfl) (by kernel_rfl) (fun _ _ _ h => h) (Or.inl ⟨by rfl, ?_⟩) (by assumption) ?_
  rotate_left
  · (intro w hSw; (try dsimp only at hSw); (try have hcs := hcells w hSw); (try go_split_ands); go_simp <;> with_reducible rfl)
  (try simp only [Act.put, List.setIfInBounds_toArray, List.set_cons_zero, List.set_cons_succ])
  refine wpAnyH_take (i := 13) (oi := { dst := some 82, op := Op.nilCheck (Operand.tmp 81), type := 0, pos := "union.go:64", after := #[{ on := 12, ground := Ground.data }], guard := none }) (v := ?_) rfl (by kernel_rfl) (by kernel_rfl) (by kernel_rfl) (fun _ _ _ h => h) (Or.inl ⟨by rfl, ?_⟩) (by assumption) ?_
  rotate_left
  · (intro w hSw; (try dsimp only at hSw); (try have hcs := hcells w hSw); (try go_split_ands); go_simp <;> with_reducible rfl)
  (try simp only [Act.put, List.setIfInBounds_toArray, List.set_cons_zero, List.set_cons_succ])
  refine wpAnyH_take (i := 14) (oi := { dst := some 83, op := Op.fieldAddr 51 (Operand.tmp 82) 2, type := 0, pos := "union.go:64", after := #[{ on := 13, ground := Ground.data }], guard := none }) (v := ?_) rfl (by kernel_rfl) (by kernel_rfl) (by kernel_rfl) (fun _ _ _ h => h) (Or.inl ⟨by rfl, ?_⟩) (by assumption) ?_
  rotate_left
  · (intro w hSw; (try dsimp only at hSw); (try have hcs := hcells w hSw); (try go_split_ands); go_simp <;> with_reducible rfl)
  (try simp only [Act.put, List.setIfInBounds_toArray, List.set_cons_zero, List.set_cons_succ])
  refine wpAnyH_take (i := 15) (oi := { dst := some 84, op := Op.load 26 (Operand.tmp 83), type := 26, pos := "union.go:64", after := #[{ on := 14, ground := Ground.data }], guard := none }) (v := ?_) rfl (by kernel_rfl) (by kernel_rfl) (by kernel_rfl) (fun _ _ _ h => h) (Or.inl ⟨by rfl, ?_⟩) (by assumption) ?_
  rotate_left
  · (intro w hSw; (try dsimp only at hSw); (try have hcs := hcells w hSw); (try go_split_ands); go_simp <;> with_reducible rfl)
  (try simp only [Act.put, List.setIfInBounds_toArray, List.set_cons_zero, List.set_cons_succ])
  refine wpAnyH_take (i := 16) (oi := { dst := some 85, op := Op.move (Operand.tmp 9), type := 3, pos := "union.go:64", after := #[], guard := none }) (v := ?_) rfl (by kernel_rfl) (by kernel_rfl) (by kernel_rfl) (fun _ _ _ h => h) (Or.inl ⟨by rfl, ?_⟩) (by assumption) ?_
  rotate_left
  · (intro w hSw; (try dsimp only at hSw); (try have hcs := hcells w hSw); (try go_split_ands); go_simp <;> with_reducible rfl)
  (try simp only [Act.put, List.setIfInBounds_toArray, List.set_cons_zero, List.set_cons_succ])
  refine wpAnyH_take (i := 17) (oi := { dst := some 86, op := Op.indexAddr 26 (Operand.tmp 84) (Operand.tmp 85), type := 0, pos := "union.go:64", after := #[{ on := 15, ground := Ground.data }, { on := 16, ground := Ground.data }], guard := none }) (v := ?_) rfl (by kernel_rfl) (by kernel_rfl) (by kernel_rfl) (fun _ _ _ h => h) (Or.inl ⟨by rfl, ?_⟩) (by assumption) ?_
  rotate_left
  · (intro w hSw; (try dsimp only at hSw); (try have hcs := hcells w hSw); (try go_split_ands); go_simp <;> with_reducible rfl)
  (try simp only [Act.put, List.setIfInBounds_toArray, List.set_cons_zero, List.set_cons_succ])
  refine wpAnyH_take (i := 18) (oi := { dst := some 87, op := Op.load 3 (Operand.tmp 86), type := 3, pos := "union.go:64", after := #[{ on := 17, ground := Ground.data }], guard := none }) (v := ?_) rfl (by kernel_rfl) (by kernel_rfl) (by kernel_rfl) (fun _ _ _ h => h) (Or.inl ⟨by rfl, ?_⟩) (by assumption) ?_
  rotate_left
  · (intro w hSw; (try dsimp only at hSw); (try have hcs := hcells w hSw); (try go_split_ands); go_simp <;> with_reducible rfl)
  (try simp only [Act.put, List.setIfInBounds_toArray, List.set_cons_zero, List.set_cons_succ])
  refine wpAnyH_ready (rs := [19]) (by kernel_rfl) (by simp) ?_
  refine AllReadyH.cons (o := { dst := some 88, op := Op.call { callee := Callee.builtin Builtin.min, args := #[Operand.tmp 80, Operand.tmp 87], argTypes := #[3, 3] }, type := 3, pos := "union.go:64", after := #[{ on := 11, ground := Ground.data }, { on := 18, ground := Ground.data }], guard := none }) rfl (fun K hK => ?_) AllReadyH.nil
  go_simp
  refine hK.out _ _ (by (try dsimp only); exact hcl _ _ hHeld (by first | with_reducible assumption | with_reducible exact IsGr.refl _ | with_reducible exact (IsGr.refl _).alloc _ | with_reducible exact ((IsGr.refl _).alloc _).alloc _ | assumption)) (fun hHeld2 => ?_)
  clear hK K hHeld
  have hHeld := hHeld2
  clear hHeld2
  (try simp only [Act.put, List.setIfInBounds_toArray, List.set_cons_zero, List.set_cons_succ])
  refine wpAnyH_take (i := 20) (oi := { dst := some 89, op := Op.indexAddr 26 (Operand.tmp 72) (Operand.tmp 73), type := 0, pos := "union.go:64", after := #[{ on := 3, ground := Ground.data }, { on := 4, ground := Ground.data }, { on := 0, ground := Ground.phase }, { on := 1, ground := Ground.phase }, { on := 2, ground := Ground.phase }, { on := 3, ground := Ground.phase }, { on := 4, ground := Ground.phase }, { on := 5, ground := Ground.phase }, { on := 6, ground := Ground.phase }, { on := 7, ground := Ground.phase }, { on := 8, ground := Ground.phase }, { on := 9, ground := Ground.phase }, { on := 10, ground := Ground.phase }, { on := 11, ground := Ground.phase }, { on := 12, ground := Ground.phase }, { on := 13, ground := Ground.phase }, { on := 14, ground := Ground.phase }, { on := 15, ground := Ground.phase }, { on := 16, ground := Ground.phase }, { on := 17, ground := Ground.phase }, { on := 18, ground := Ground.phase }, { on := 19, ground := Ground.phase }], guard := none }) (v := ?_) rfl (by kernel_rfl) (by kernel_rfl) (by kernel_rfl) (fun _ _ _ h => h) (Or.inl ⟨by rfl, ?_⟩) (by assumption) ?_
  rotate_left
  · (intro w hSw; (try dsimp only at hSw); (try have hcs := hcells w hSw); (try go_split_ands); go_simp <;> with_reducible rfl)
  (try simp only [Act.put, List.setIfInBounds_toArray, List.set_cons_zero, List.set_cons_succ])
  refine wpAnyH_done (by kernel_rfl) ?_ _
  obtain ⟨z1, z2, z3, z4⟩ := hcells _ hHeld
  have hg := hgr _ hHeld
  refine butLast_step (o := { dst := none, op := Op.store 3 (Operand.tmp 89) (Operand.tmp 88), type := 0, pos := "union.go:64", after := #[{ on := 20, ground := Ground.data }, { on := 19, ground := Ground.data }, { on := 0, ground := Ground.phase }, { on := 1, ground := Ground.phase }, { on := 2, ground := Ground.phase }, { on := 3, ground := Ground.phase }, { on := 4, ground := Ground.phase }, { on := 5, ground := Ground.phase }, { on := 6, ground := Ground.phase }, { on := 7, ground := Ground.phase }, { on := 8, ground := Ground.phase }, { on := 9, ground := Ground.phase }, { on := 10, ground := Ground.phase }, { on := 11, ground := Ground.phase }, { on := 12, ground := Ground.phase }, { on := 13, ground := Ground.phase }, { on := 14, ground := Ground.phase }, { on := 15, ground := Ground.phase }, { on := 16, ground := Ground.phase }, { on := 17, ground := Ground.phase }, { on := 18, ground := Ground.phase }, { on := 19, ground := Ground.phase }], guard := none }) rfl (fun K hK => ?_)
  go_simp
  refine hK.out _ _ ?_
  clear hK K
  (try simp only [Act.put, List.setIfInBounds_toArray, List.set_cons_zero, List.set_cons_succ])
  clear z1 z2 z3 z4 hHeld hgr hcells hcl hin C c2 cr cq fz
  go_upto_region 11 with fail
  obtain ⟨mn, hmn⟩ : ∃ mn, (if mr < mq then mr else mq) = mn := ⟨_, rfl⟩
  rw [hmn]
  have hmn2 : mn = min mq mr := by rw [← hmn]; split <;> omega
  obtain ⟨wc, hwc⟩ : ∃ wc, wc = (wb.setCell ⟨gm, q, none⟩ (.int .i64 mn)).drew := ⟨_, rfl⟩
  rw [← hwc]
  rw [hmn2] at hwc
  clear hmn hmn2
  obtain ⟨d1, d2, d3, d4, d5, d6⟩ := HDS.out
  have HM4 : Hid (Um wc t gu gz gm (u.set r q) (z.set q ((j : Int) + (i : Int))) (m.set q (min mq mr)) n k ∧ Wr [t, gu, gz, gm] w wc) := by
    obtain ⟨hM, hW⟩ := HM3.out
    subst hwc
    exact ⟨Um.gr ⟨hM.b.other _ _ d3, hM.ru.other _ _ d5, hM.rz.other _ _ d6, hM.rm.set _ _⟩ ((IsGr.refl _).drew), (hW.set _ _ _ (Or.inl (by simp))).drew⟩
  have c3 := HM4.out.1.b.c3
  have f3 := HM4.out.1.b.fz 3
  clear d1 d2 d3 d4 d5 d6 HM3 hwc hg
  go_wp2_with fail
  refine bodyPost_ret (v := .tuple #[.bool true, .int .i64 0]) (by simp [results, Try.results10, go_sem]) rfl ⟨rfl, ?_⟩
  obtain ⟨d1, d2, d3, d4, d5, d6⟩ := HDS.out
  obtain ⟨hM, hW⟩ := HM4.out
  exact ⟨⟨hM.b.set3 _, hM.ru.other _ _ (Ne.symm d1), hM.rz.other _ _ (Ne.symm d2), hM.rm.other _ _ (Ne.symm d3)⟩, hW.set _ _ _ (Or.inl (by simp))⟩

set_option maxRecDepth 20000 in set_option maxHeartbeats 2000000 in
theorem Join_ne_ge {t gu gz gm : Nat} {x u z m : List Int} (a b r q : Nat) (w : World) (hds : Ds t gu gz gm) (hU : Up u z m x) (hM : Um w t gu gz gm u z m x.length (cntU x x.length : Nat)) (ha : a < x.length) (hb : b < x.length) (hmax : x.length ≤ 1048576)
    (hr : Tp u x a r) (hq : Tp u x b q) (he : x.getD a 0 ≠ x.getD b 0) (hc : decide (z.getD r 0 < z.getD q 0) = false) :
    Calls Try.prog 10 #[.pointer (some ⟨t, 0, none⟩), .int .i64 a, .int .i64 b] w fun e w' => e = .returned (.tuple #[.bool true, .int .i64 0]) ∧ Um w' t gu gz gm (u.set q r) (z.set r (z.getD r 0 + z.getD q 0)) (m.set r (min (m.getD r 0) (m.getD q 0))) x.length ((cntU x x.length : Nat) - 1) ∧ Wr [t, gu, gz, gm] w w' := by
  have CA := has_any a w hM.b
  have CB := has_any b w hM.b
  rw [wth_nat ha] at CA
  rw [wth_nat hb] at CB
  have CR := top_any hU a r w hM ha hr
  have CQ := top_any hU b q w hM hb hq
  obtain ⟨i, j, hi, hj, hij⟩ := hU.two hr hq he
  have hrq : ((r : Int) == (q : Int)) = false := by
    simp only [beq_eq_false_iff_ne, ne_eq]
    intro e2
    have e3 : r = q := by omega
    exact he (by rw [← hr.same, ← hq.same, e3])
  have hRn := hr.rng
  have hQn := hq.rng
  have hRl := hr.lt
  have hQl := hq.lt
  have hpos : 0 < cntU x x.length := cnt_pos hU.lea ha
  have hcl := cntU_le x x.length
  obtain ⟨n, hn⟩ : ∃ n, x.length = n := ⟨_, rfl⟩
  obtain ⟨k, hk⟩ : ∃ k, cntU x x.length = k := ⟨_, rfl⟩
  rw [hk] at hM hpos hcl ⊢
  obtain ⟨mr, hmr⟩ : ∃ y, m.getD r 0 = y := ⟨_, rfl⟩
  obtain ⟨mq, hmq⟩ : ∃ y, m.getD q 0 = y := ⟨_, rfl⟩
  have HU : Hid ((u.length = n ∧ z.length = n ∧ m.length = n) ∧ (z.getD r 0 = i ∧ z.getD q 0 = j) ∧ m.getD r 0 = mr ∧ m.getD q 0 = mq) := ⟨⟨hn ▸ hU.lu, hn ▸ hU.lz, hn ▸ hU.lm⟩, ⟨hi, hj⟩, hmr, hmq⟩
  rw [hn] at hM hRn hQn hRl hQl hij hcl hmax ⊢
  rw [hi, hj] at hc
  rw [hi, hj, hmr, hmq]
  have hc2 : ¬ (i : Int) < j := of_decide_eq_false hc
  have HM : Hid (Um w t gu gz gm u z m n k) := hM
  have HDS : Hid (Ds t gu gz gm) := hds
  have hs1 : IntKind.i64.wrap ((i : Int) + (j : Int)) = (i : Int) + (j : Int) := by rw [IntKind.wrap_i64]; omega
  have hs2 : IntKind.i64.wrap ((k : Int) - 1) = (k : Int) - 1 := by rw [IntKind.wrap_i64]; omega
  have c0 := hM.b.c0
  have c1 := hM.b.c1
  have cr := hM.rz.cell (i := r) (by have := HU.out.1; omega)
  have cq := hM.rz.cell (i := q) (by have := HU.out.1; omega)
  have cu := hM.ru.cell (i := q) (by have := HU.out.1; omega)
  have fu := hM.ru.fz q
  rw [hi] at cr
  rw [hj] at cq
  clear hU hM hr hq ha hb he hi hj hij hpos hcl hn hk hmr hmq hds hmax hRl hQl
  go_enter Try.func10, Try.ntmps10
  go_wp2_with fail
  refine CA.mono ?_
  rintro e w1 ⟨rfl, e1⟩
  obtain rfl := e1.symm
  go_wp2_with fail
  refine CB.mono ?_
  rintro e w1 ⟨rfl, e1⟩
  obtain rfl := e1.symm
  go_wp2_with fail
  refine CR.mono ?_
  rintro e w1 ⟨rfl, e1⟩
  obtain rfl := e1.symm
  go_wp2_with fail
  refine CQ.mono ?_
  rintro e w1 ⟨rfl, e1⟩
  obtain rfl := e1.symm
  go_upto_region 6 with fail
  obtain ⟨C, hin, hcl, hcells, hgr⟩ : ∃ C : World → Prop, (∀ w', IsGr w w' → C w') ∧ (∀ u u', C u → IsGr u u' → C u') ∧ (∀ w', C w' → (w'.cell? ⟨t, 1, none⟩ = some (.slice (some ⟨gz, 0, none⟩) n n)) ∧ (w'.cell? ⟨gz, r, none⟩ = some (.int .i64 i)) ∧ (w'.cell? ⟨gz, q, none⟩ = some (.int .i64 j))) ∧ (∀ w', C w' → IsGr w w') := ⟨fun w' => IsGr w w', fun _ h => h, fun _ _ h k => h.trans k, fun w' hg => ⟨cellk c1 hg, cellk cr hg, cellk cq hg⟩, fun _ h => h⟩
  refine wp_region_quietV C (by kernel_rfl) (by kernel_rfl) (hin _ (by with_reducible repeat (first | exact IsGr.refl _ | refine IsGr.gr ?_ _ _ | refine IsGr.alloc ?_ _ | refine IsGr.drew ?_ | refine IsGr.drewN ?_ _))) (fun K HK => ?_)
  refine QK.take HK ?_ (by rfl) ?_ ?_
  rotate_left
  · (intro w hw; (try have hcs := hcells w hw); (try go_split_ands); go_simp <;> with_reducible rfl)
  (try simp only [Act.put, List.setIfInBounds_toArray, List.set_cons_zero, List.set_cons_succ])
  refine QK.take HK ?_ (by rfl) ?_ ?_
  rotate_left
  · (intro w hw; (try have hcs := hcells w hw); (try go_split_ands); go_simp <;> with_reducible rfl)
  (try simp only [Act.put, List.setIfInBounds_toArray, List.set_cons_zero, List.set_cons_succ])
  refine QK.take HK ?_ (by rfl) ?_ ?_
  rotate_left
  · (intro w hw; (try have hcs := hcells w hw); (try go_split_ands); go_simp <;> with_reducible rfl)
  (try simp only [Act.put, List.setIfInBounds_toArray, List.set_cons_zero, List.set_cons_succ])
  refine QK.take HK ?_ (by rfl) ?_ ?_
  rotate_left
  · (intro w hw; (try have hcs := hcells w hw); (try go_split_ands); go_simp <;> with_reducible rfl)
  (try simp only [Act.put, List.setIfInBounds_toArray, List.set_cons_zero, List.set_cons_succ])
  refine QK.take HK ?_ (by rfl) ?_ ?_
  rotate_left
  · (intro w hw; (try have hcs := hcells w hw); (try go_split_ands); go_simp <;> with_reducible rfl)
  (try simp only [Act.put, List.setIfInBounds_toArray, List.set_cons_zero, List.set_cons_succ])
  refine QK.take HK ?_ (by rfl) ?_ ?_
  rotate_left
  · (intro w hw; (try have hcs := hcells w hw); (try go_split_ands); go_simp <;> with_reducible rfl)
  (try simp only [Act.put, List.setIfInBounds_toArray, List.set_cons_zero, List.set_cons_succ])
  refine QK.take HK ?_ (by rfl) ?_ ?_
  rotate_left
  · (intro w hw; (try have hcs := hcells w hw); (try go_split_ands); go_simp <;> with_reducible rfl)
  (try simp only [Act.put, List.setIfInBounds_toArray, List.set_cons_zero, List.set_cons_succ])
  refine QK.take HK ?_ (by rfl) ?_ ?_
  rotate_left
  · (intro w hw; (try have hcs := hcells w hw); (try go_split_ands); go_simp <;> with_reducible rfl)
  (try simp only [Act.put, List.setIfInBounds_toArray, List.set_cons_zero, List.set_cons_succ])
  refine QK.take HK ?_ (by rfl) ?_ ?_
  rotate_left
  · (intro w hw; (try have hcs := hcells w hw); (try go_split_ands); go_simp <;> with_reducible rfl)
  (try simp only [Act.put, List.setIfInBounds_toArray, List.set_cons_zero, List.set_cons_succ])
  refine QK.take HK ?_ (by rfl) ?_ ?_
  rotate_left
  · (intro w hw; (try have hcs := hcells w hw); (try go_split_ands); go_simp <;> with_reducible rfl)
  (try simp only [Act.put, List.setIfInBounds_toArray, List.set_cons_zero, List.set_cons_succ])
  refine QK.take HK ?_ (by rfl) ?_ ?_
  rotate_left
  · (intro w hw; (try have hcs := hcells w hw); (try go_split_ands); go_simp <;> with_reducible rfl)
  (try simp only [Act.put, List.setIfInBounds_toArray, List.set_cons_zero, List.set_cons_succ])
  refine QK.take HK ?_ (by rfl) ?_ ?_
  rotate_left
  · (intro w hw; (try have hcs := hcells w hw); (try go_split_ands); go_simp <;> with_reducible rfl)
  (try simp only [Act.put, List.setIfInBounds_toArray, List.set_cons_zero, List.set_cons_succ])
  refine QK.take HK ?_ (by rfl) ?_ ?_
  rotate_left
  · (intro w hw; (try have hcs := hcells w hw); (try go_split_ands); go_simp <;> with_reducible rfl)
  (try simp only [Act.put, List.setIfInBounds_toArray, List.set_cons_zero, List.set_cons_succ])
  refine QK.take HK ?_ (by rfl) ?_ ?_
  rotate_left
  · (intro w hw; (try have hcs := hcells w hw); (try go_split_ands); go_simp <;> with_reducible rfl)
  (try simp only [Act.put, List.setIfInBounds_toArray, List.set_cons_zero, List.set_cons_succ])
  refine QK.take HK ?_ (by rfl) ?_ ?_
  rotate_left
  · (intro w hw; (try have hcs := hcells w hw); (try go_split_ands); go_simp <;> with_reducible rfl)
  (try simp only [Act.put, List.setIfInBounds_toArray, List.set_cons_zero, List.set_cons_succ])
  refine QK.nil HK ?_
  clear HK K
  intro wq hq
  have hgq := hgr wq hq
  clear hq hgr hin hcl hcells CA CB CR CQ
  replace c0 := cellk c0 hgq
  replace fu := frzk cu fu hgq
  replace cu := cellk cu hgq
  have HM1 : Hid (Um wq t gu gz gm u z m n k ∧ IsGr w wq) := ⟨HM.out.gr hgq, hgq⟩
  clear HM hgq c1 cr cq
  go_upto_region 9 with fail
  obtain ⟨wa, hwa⟩ : ∃ wa, wa = wq.setCell ⟨gu, q, none⟩ (.int .i64 (r : Nat)) := ⟨_, rfl⟩
  rw [← hwa]
  obtain ⟨d1, d2, d3, d4, d5, d6⟩ := HDS.out
  have HM2 : Hid (Um wa t gu gz gm (u.set q r) z m n k ∧ Wr [t, gu, gz, gm] w wa) := by
    obtain ⟨hM, hg⟩ := HM1.out
    subst hwa
    exact ⟨⟨hM.b.other _ _ d1, hM.ru.set _ _, hM.rz.other _ _ (Ne.symm d4), hM.rm.other _ _ (Ne.symm d5)⟩, (Wr.of_gr hg).set _ _ _ (Or.inl (by simp))⟩
  have c1 := HM2.out.1.b.c1
  have cr := HM2.out.1.rz.cell (i := r) (by have := HU.out.1; omega)
  have cq := HM2.out.1.rz.cell (i := q) (by have := HU.out.1; omega)
  have fz := HM2.out.1.rz.fz r
  rw [HU.out.2.1.1] at cr
  rw [HU.out.2.1.2] at cq
  clear d1 d2 d3 d4 d5 d6 HM1 hwa c0 cu fu hc hc2 hrq
  obtain ⟨C, hin, hcl, hcells, hgr⟩ : ∃ C : World → Prop, (∀ w', IsGr wa w' → C w') ∧ (∀ u u', C u → IsGr u u' → C u') ∧ (∀ w', C w' → (w'.cell? ⟨t, 1, none⟩ = some (.slice (some ⟨gz, 0, none⟩) n n)) ∧ (w'.cell? ⟨gz, r, none⟩ = some (.int .i64 i)) ∧ (w'.cell? ⟨gz, q, none⟩ = some (.int .i64 j)) ∧ (w'.frozen? ⟨gz, r, none⟩ = false)) ∧ (∀ w', C w' → IsGr wa w') := ⟨fun w' => IsGr wa w', fun _ h => h, fun _ _ h k => h.trans k, fun w' hg => ⟨cellk c1 hg, cellk cr hg, cellk cq hg, frzk cr fz hg⟩, fun _ h => h⟩
  refine wp_region_only (S := C) (k := 16) (n := 16) (by kernel_rfl) (by kernel_rfl) (by (try dsimp only); exact hin _ (by with_reducible repeat (first | exact IsGr.refl _ | refine IsGr.gr ?_ _ _ | refine IsGr.alloc ?_ _ | refine IsGr.drew ?_ | refine IsGr.drewN ?_ _))) (fun hHeld => ?_)
  refine wpAnyH_take (i := 0) (oi := { dst := some 53, op := Op.move (Operand.tmp 0), type := 24, pos := "union.go:63", after := #[], guard := none }) (v := ?_) rfl (by kernel_rfl) (by kernel_rfl) (by kernel_rfl) (fun _ _ _ h => h) (Or.inl ⟨by rfl, ?_⟩) (by assumption) ?_
  rotate_left
  · (intro w hSw; (try dsimp only at hSw); (try have hcs := hcells w hSw); (try go_split_ands); go_simp <;> with_reducible rfl)
  (try simp only [Act.put, List.setIfInBounds_toArray, List.set_cons_zero, List.set_cons_succ])
  refine wpAnyH_take (i := 1) (oi := { dst := some 54, op := Op.nilCheck (Operand.tmp 53), type := 0, pos := "union.go:63", after := #[{ on := 0, ground := Ground.data }], guard := none }) (v := ?_) rfl (by kernel_rfl) (by kernel_rfl) (by kernel_rfl) (fun _ _ _ h => h) (Or.inl ⟨by rfl, ?_⟩) (by assumption) ?_
  rotate_left
  · (intro w hSw; (try dsimp only at hSw); (try have hcs := hcells w hSw); (try go_split_ands); go_simp <;> with_reducible rfl)
  (try simp only [Act.put, List.setIfInBounds_toArray, List.set_cons_zero, List.set_cons_succ])
  refine wpAnyH_take (i := 2) (oi := { dst := some 55, op := Op.fieldAddr 51 (Operand.tmp 54) 1, type := 0, pos := "union.go:63", after := #[{ on := 1, ground := Ground.data }], guard := none }) (v := ?_) rfl (by kernel_rfl) (by kernel_rfl) (by kernel_rfl) (fun _ _ _ h => h) (Or.inl ⟨by rfl, ?_⟩) (by assumption) ?_
  rotate_left
  · (intro w hSw; (try dsimp only at hSw); (try have hcs := hcells w hSw); (try go_split_ands); go_simp <;> with_reducible rfl)
  (try simp only [Act.put, List.setIfInBounds_toArray, List.set_cons_zero, List.set_cons_succ])
  refine wpAnyH_take (i := 3) (oi := { dst := some 56, op := Op.load 26 (Operand.tmp 55), type := 26, pos := "union.go:63", after := #[{ on := 2, ground := Ground.data }], guard := none }) (v := ?_) rfl (by kernel_rfl) (by kernel_rfl) (by kernel_rfl) (fun _ _ _ h => h) (Or.inl ⟨by rfl, ?_⟩) (by assumption) ?_
  rotate_left
  · (intro w hSw; (try dsimp only at hSw); (try have hcs := hcells w hSw); (try go_split_ands); go_simp <;> with_reducible rfl)
  (try simp only [Act.put, List.setIfInBounds_toArray, List.set_cons_zero, List.set_cons_succ])
  refine wpAnyH_take (i := 4) (oi := { dst := some 57, op := Op.move (Operand.tmp 8), type := 3, pos := "union.go:63", after := #[], guard := none }) (v := ?_) rfl (by kernel_rfl) (by kernel_rfl) (by kernel_rfl) (fun _ _ _ h => h) (Or.inl ⟨by rfl, ?_⟩) (by assumption) ?_
  rotate_left
  · (intro w hSw; (try dsimp only at hSw); (try have hcs := hcells w hSw); (try go_split_ands); go_simp <;> with_reducible rfl)
  (try simp only [Act.put, List.setIfInBounds_toArray, List.set_cons_zero, List.set_cons_succ])
  refine wpAnyH_take (i := 5) (oi := { dst := some 58, op := Op.indexAddr 26 (Operand.tmp 56) (Operand.tmp 57), type := 0, pos := "union.go:63", after := #[{ on := 3, ground := Ground.data }, { on := 4, ground := Ground.data }], guard := none }) (v := ?_) rfl (by kernel_rfl) (by kernel_rfl) (by kernel_rfl) (fun _ _ _ h => h) (Or.inl ⟨by rfl, ?_⟩) (by assumption) ?_
  rotate_left
  · (intro w hSw; (try dsimp only at hSw); (try have hcs := hcells w hSw); (try go_split_ands); go_simp <;> with_reducible rfl)
  (try simp only [Act.put, List.setIfInBounds_toArray, List.set_cons_zero, List.set_cons_succ])
  refine wpAnyH_take (i := 6) (oi := { dst := some 59, op := Op.load 3 (Operand.tmp 58), type := 3, pos := "union.go:63", after := #[{ on := 5, ground := Ground.data }], guard := none }) (v := ?_) rfl (by kernel_rfl) (by kernel_rfl) (by kernel_rfl) (fun _ _ _ h => h) (Or.inl ⟨by rfl, ?_⟩) (by assumption) ?_
  rotate_left
  · (intro w hSw; (try dsimp only at hSw); (try have hcs := hcells w hSw); (try go_split_ands); go_simp <;> with_reducible rfl)
  (try simp only [Act.put, List.setIfInBounds_toArray, List.set_cons_zero, List.set_cons_succ])
  refine wpAnyH_take (i := 7) (oi := { dst := some 60, op := Op.move (Operand.tmp 0), type := 24, pos := "union.go:63", after := #[], guard := none }) (v := ?_) rfl (by kernel_rfl) (by kernel_rfl) (by kernel_rfl) (fun _ _ _ h => h) (Or.inl ⟨by rfl, ?_⟩) (by assumption) ?_
  rotate_left
  · (intro w hSw; (try dsimp only at hSw); (try have hcs := hcells w hSw); (try go_split_ands); go_simp <;> with_reducible rfl)
  (try simp only [Act.put, List.setIfInBounds_toArray, List.set_cons_zero, List.set_cons_succ])
  refine wpAnyH_take (i := 8) (oi := { dst := some 61, op := Op.nilCheck (Operand.tmp 60), type := 0, pos := "union.go:63", after := #[{ on := 7, ground := Ground.data }], guard := none }) (v := ?_) rfl (by kernel_rfl) (by kernel_rfl) (by kernel_rfl) (fun _ _ _ h => h) (Or.inl ⟨by rfl, ?_⟩) (by assumption) ?_
  rotate_left
  · (intro w hSw; (try dsimp only at hSw); (try have hcs := hcells w hSw); (try go_split_ands); go_simp <;> with_reducible rfl)
  (try simp only [Act.put, List.setIfInBounds_toArray, List.set_cons_zero, List.set_cons_succ])
  refine wpAnyH_take (i := 9) (oi := { dst := some 62, op := Op.fieldAddr 51 (Operand.tmp 61) 1, type := 0, pos := "union.go:63", after := #[{ on := 8, ground := Ground.data }], guard := none }) (v := ?_) rfl (by kernel_rfl) (by kernel_rfl) (by kernel_rfl) (fun _ _ _ h => h) (Or.inl ⟨by rfl, ?_⟩) (by assumption) ?_
  rotate_left
  · (intro w hSw; (try dsimp only at hSw); (try have hcs := hcells w hSw); (try go_split_ands); go_simp <;> with_reducible rfl)
  (try simp only [Act.put, List.setIfInBounds_toArray, List.set_cons_zero, List.set_cons_succ])
  refine wpAnyH_take (i := 10) (oi := { dst := some 63, op := Op.load 26 (Operand.tmp 62), type := 26, pos := "union.go:63", after := #[{ on := 9, ground := Ground.data }], guard := none }) (v := ?_) rfl (by kernel_rfl) (by kernel_rfl) (by kernel_rfl) (fun _ _ _ h => h) (Or.inl ⟨by rfl, ?_⟩) (by assumption) ?_
  rotate_left
  · (intro w hSw; (try dsimp only at hSw); (try have hcs := hcells w hSw); (try go_split_ands); go_simp <;> with_reducible rfl)
  (try simp only [Act.put, List.setIfInBounds_toArray, List.set_cons_zero, List.set_cons_succ])
  refine wpAnyH_take (i := 11) (oi := { dst := some 64, op := Op.move (Operand.tmp 9), type := 3, pos := "union.go:63", after := #[], guard := none }) (v := ?_) rfl (by kernel_rfl) (by kernel_rfl) (by kernel_rfl) (fun _ _ _ h => h) (Or.inl ⟨by rfl, ?_⟩) (by assumption) ?_
  rotate_left
  · (intro w hSw; (try dsimp only at hSw); (try have hcs := hcells w hSw); (try go_split_ands); go_simp <;> with_reducible rfl)
  (try simp only [Act.put, List.setIfInBounds_toArray, List.set_cons_zero, List.set_cons_succ])
  refine wpAnyH_take (i := 12) (oi := { dst := some 65, op := Op.indexAddr 26 (Operand.tmp 63) (Operand.tmp 64), type := 0, pos := "union.go:63", after := #[{ on := 10, ground := Ground.data }, { on := 11, ground := Ground.data }], guard := none }) (v := ?_) rfl (by kernel_rfl) (by kernel_rfl) (by kernel_rfl) (fun _ _ _ h => h) (Or.inl ⟨by rfl, ?_⟩) (by assumption) ?_
  rotate_left
  · (intro w hSw; (try dsimp only at hSw); (try have hcs := hcells w hSw); (try go_split_ands); go_simp <;> with_reducible rfl)
  (try simp only [Act.put, List.setIfInBounds_toArray, List.set_cons_zero, List.set_cons_succ])
  refine wpAnyH_take (i := 13) (oi := { dst := some 66, op := Op.load 3 (Operand.tmp 65), type := 3, pos := "union.go:63", after := #[{ on := 12, ground := Ground.data }], guard := none }) (v := ?_) rfl (by kernel_rfl) (by kernel_rfl) (by kernel_rfl) (fun _ _ _ h => h) (Or.inl ⟨by rfl, ?_⟩) (by assumption) ?_
  rotate_left
  · (intro w hSw; (try dsimp only at hSw); (try have hcs := hcells w hSw); (try go_split_ands); go_simp <;> with_reducible rfl)
  (try simp only [Act.put, List.setIfInBounds_toArray, List.set_cons_zero, List.set_cons_succ])
  refine wpAnyH_take (i := 14) (oi := { dst := some 67, op := Op.binOp BinOp.add 3 (Operand.tmp 59) (Operand.tmp 66) 3, type := 3, pos := "union.go:63", after := #[{ on := 6, ground := Ground.data }, { on := 13, ground := Ground.data }], guard := none }) (v := ?_) rfl (by kernel_rfl) (by kernel_rfl) (by kernel_rfl) (fun _ _ _ h => h) (Or.inl ⟨by rfl, ?_⟩) (by assumption) ?_
  rotate_left
  · (intro w hSw; (try dsimp only at hSw); (try have hcs := hcells w hSw); (try go_split_ands); go_simp <;> with_reducible rfl)
  (try simp only [Act.put, List.setIfInBounds_toArray, List.set_cons_zero, List.set_cons_succ])
  refine wpAnyH_take (i := 15) (oi := { dst := some 68, op := Op.indexAddr 26 (Operand.tmp 56) (Operand.tmp 57), type := 0, pos := "union.go:63", after := #[{ on := 3, ground := Ground.data }, { on := 4, ground := Ground.data }, { on := 0, ground := Ground.phase }, { on := 1, ground := Ground.phase }, { on := 2, ground := Ground.phase }, { on := 3, ground := Ground.phase }, { on := 4, ground := Ground.phase }, { on := 5, ground := Ground.phase }, { on := 6, ground := Ground.phase }, { on := 7, ground := Ground.phase }, { on := 8, ground := Ground.phase }, { on := 9, ground := Ground.phase }, { on := 10, ground := Ground.phase }, { on := 11, ground := Ground.phase }, { on := 12, ground := Ground.phase }, { on := 13, ground := Ground.phase }, { on := 14, ground := Ground.phase }], guard := none }) (v := ?_) rfl (by kernel_rfl) (by kernel_rfl) (by kernel_rfl) (fun _ _ _ h => h) (Or.inl ⟨by rfl, ?_⟩) (by assumption) ?_
  rotate_left
  · (intro w hSw; (try dsimp only at hSw); (try have hcs := hcells w hSw); (try go_split_ands); go_simp <;> with_reducible rfl)
  (try simp only [Act.put, List.setIfInBounds_toArray, List.set_cons_zero, List.set_cons_succ])
  refine wpAnyH_done (by kernel_rfl) ?_ _
  obtain ⟨z1, z2, z3, z4⟩ := hcells _ hHeld
  have hg := hgr _ hHeld
  refine butLast_step (o := { dst := none, op := Op.store 3 (Operand.tmp 68) (Operand.tmp 67), type := 0, pos := "union.go:63", after := #[{ on := 15, ground := Ground.data }, { on := 14, ground := Ground.data }, { on := 0, ground := Ground.phase }, { on := 1, ground := Ground.phase }, { on := 2, ground := Ground.phase }, { on := 3, ground := Ground.phase }, { on := 4, ground := Ground.phase }, { on := 5, ground := Ground.phase }, { on := 6, ground := Ground.phase }, { on := 7, ground := Ground.phase }, { on := 8, ground := Ground.phase }, { on := 9, ground := Ground.phase }, { on := 10, ground := Ground.phase }, { on := 11, ground := Ground.phase }, { on := 12, ground := Ground.phase }, { on := 13, ground := Ground.phase }, { on := 14, ground := Ground.phase }], guard := none }) rfl (fun K hK => ?_)
  go_simp
  refine hK.out _ _ ?_
  clear hK K
  (try simp only [Act.put, List.setIfInBounds_toArray, List.set_cons_zero, List.set_cons_succ])
  clear z1 z2 z3 z4 hHeld hgr hcells hcl hin C c1 cr cq fz
  go_upto_region 10 with fail
  obtain ⟨wb, hwb⟩ : ∃ wb, wb = (wa.setCell ⟨gz, r, none⟩ (.int .i64 ((i : Int) + (j : Int)))).drew := ⟨_, rfl⟩
  rw [← hwb]
  obtain ⟨d1, d2, d3, d4, d5, d6⟩ := HDS.out
  have HM3 : Hid (Um wb t gu gz gm (u.set q r) (z.set r ((i : Int) + (j : Int))) m n k ∧ Wr [t, gu, gz, gm] w wb) := by
    obtain ⟨hM, hW⟩ := HM2.out
    subst hwb
    exact ⟨Um.gr ⟨hM.b.other _ _ d2, hM.ru.other _ _ d4, hM.rz.set _ _, hM.rm.other _ _ (Ne.symm d6)⟩ ((IsGr.refl _).drew), (hW.set _ _ _ (Or.inl (by simp))).drew⟩
  have c2 := HM3.out.1.b.c2
  have cr := HM3.out.1.rm.cell (i := r) (by have := HU.out.1; omega)
  have cq := HM3.out.1.rm.cell (i := q) (by have := HU.out.1; omega)
  have fz := HM3.out.1.rm.fz r
  rw [HU.out.2.2.1] at cr
  rw [HU.out.2.2.2] at cq
  clear d1 d2 d3 d4 d5 d6 HM2 hwb hg
  obtain ⟨C, hin, hcl, hcells, hgr⟩ : ∃ C : World → Prop, (∀ w', IsGr wb w' → C w') ∧ (∀ u u', C u → IsGr u u' → C u') ∧ (∀ w', C w' → (w'.cell? ⟨t, 2, none⟩ = some (.slice (some ⟨gm, 0, none⟩) n n)) ∧ (w'.cell? ⟨gm, r, none⟩ = some (.int .i64 mr)) ∧ (w'.cell? ⟨gm, q, none⟩ = some (.int .i64 mq)) ∧ (w'.frozen? ⟨gm, r, none⟩ = false)) ∧ (∀ w', C w' → IsGr wb w') := ⟨fun w' => IsGr wb w', fun _ h => h, fun _ _ h k => h.trans k, fun w' hg => ⟨cellk c2 hg, cellk cr hg, cellk cq hg, frzk cr fz hg⟩, fun _ h => h⟩
  refine wp_region_only (S := C) (k := 21) (n := 21) (by kernel_rfl) (by kernel_rfl) (by (try dsimp only); exact hin _ (by with_reducible repeat (first | exact IsGr.refl _ | refine IsGr.gr ?_ _ _ | refine IsGr.alloc ?_ _ | refine IsGr.drew ?_ | refine IsGr.drewN ?_ _))) (fun hHeld => ?_)
  refine wpAnyH_take (i := 0) (oi := { dst := some 69, op := Op.move (Operand.tmp 0), type := 24, pos := "union.go:64", after := #[], guard := none }) (v := ?_) rfl (by kernel_rfl) (by kernel_rfl) (by kernel_rfl) (fun _ _ _ h => h) (Or.inl ⟨by rfl, ?_⟩) (by assumption) ?_
  rotate_left
  · (intro w hSw; (try dsimp only at hSw); (try have hcs := hcells w hSw); (try go_split_ands); go_simp <;> with_reducible rfl)
  (try simp only [Act.put, List.setIfInBounds_toArray, List.set_cons_zero, List.set_cons_succ])
  refine wpAnyH_take (i := 1) (oi := { dst := some 70, op := Op.nilCheck (Operand.tmp 69), type := 0, pos := "union.go:64", after := #[{ on := 0, ground := Ground.data }], guard := none }) (v := ?_) rfl (by kernel_rfl) (by kernel_rfl) (by kernel_rfl) (fun _ _ _ h => h) (Or.inl ⟨by rfl, ?_⟩) (by assumption) ?_
  rotate_left
  · (intro w hSw; (try dsimp only at hSw); (try have hcs := hcells w hSw); (try go_split_ands); go_simp <;> with_reducible rfl)
  (try simp only [Act.put, List.setIfInBounds_toArray, List.set_cons_zero, List.set_cons_succ])
  refine wpAnyH_take (i := 2) (oi := { dst := some 71, op := Op.fieldAddr 51 (Operand.tmp 70) 2, type := 0, pos := "union.go:64", after := #[{ on := 1, ground := Ground.data }], guard := none }) (v := ?_) rfl (by kernel_rfl) (by kernel_rfl) (by kernel_rfl) (fun _ _ _ h => h) (Or.inl ⟨by rfl, ?_⟩) (by assumption) ?_
  rotate_left
  · (intro w hSw; (try dsimp only at hSw); (try have hcs := hcells w hSw); (try go_split_ands); go_simp <;> with_reducible rfl)
  (try simp only [Act.put, List.setIfInBounds_toArray, List.set_cons_zero, List.set_cons_succ])
  refine wpAnyH_take (i := 3) (oi := { dst := some 72, op := Op.load 26 (Operand.tmp 71), type := 26, pos := "union.go:64", after := #[{ on := 2, ground := Ground.data }], guard := none }) (v := ?_) rfl (by kernel_rfl) (by kernel_rfl) (by kernel_rfl) (fun _ _ _ h => h) (Or.inl ⟨by rfl, ?_⟩) (by assumption) ?_
  rotate_left
  · (intro w hSw; (try dsimp only at hSw); (try have hcs := hcells w hSw); (try go_split_ands); go_simp <;> with_reducible rfl)
  (try simp only [Act.put, List.setIfInBounds_toArray, List.set_cons_zero, List.set_cons_succ])
  refine wpAnyH_take (i := 4) (oi := { dst := some 73, op := Op.move (Operand.tmp 8), type := 3, pos := "union.go:64", after := #[], guard := none }) (v := ?_) rfl (by kernel_rfl) (by kernel_rfl) (by kernel_rfl) (fun _ _ _ h => h) (Or.inl ⟨by rfl, ?_⟩) (by assumption) ?_
  rotate_left
  · (intro w hSw; (try dsimp only at hSw); (try have hcs := hcells w hSw); (try go_split_ands); go_simp <;> with_reducible rfl)
  (try simp only [Act.put, List.setIfInBounds_toArray, List.set_cons_zero, List.set_cons_succ])
  refine wpAnyH_take (i := 5) (oi := { dst := some 74, op := Op.move (Operand.tmp 0), type := 24, pos := "union.go:64", after := #[], guard := none }) (v := ?_) rfl (by kernel_rfl) (by kernel_rfl) (by kernel_rfl) (fun _ _ _ h => h) (Or.inl ⟨by rfl, ?_⟩) (by assumption) ?_
  rotate_left
  · (intro w hSw; (try dsimp only at hSw); (try have hcs := hcells w hSw); (try go_split_ands); go_simp <;> with_reducible rfl)
  (try simp only [Act.put, List.setIfInBounds_toArray, List.set_cons_zero, List.set_cons_succ])
  refine wpAnyH_take (i := 6) (oi := { dst := some 75, op := Op.nilCheck (Operand.tmp 74), type := 0, pos := "union.go:64", after := #[{ on := 5, ground := Ground.data }], guard := none }) (v := ?_) rfl (by kernel_rfl) (by kernel_rfl) (by kernel_rfl) (fun _ _ _ h => h) (Or.inl ⟨by rfl, ?_⟩) (by assumption) ?_
  rotate_left
  · (intro w hSw; (try dsimp only at hSw); (try have hcs := hcells w hSw); (try go_split_ands); go_simp <;> with_reducible rfl)
  (try simp only [Act.put, List.setIfInBounds_toArray, List.set_cons_zero, List.set_cons_succ])
  refine wpAnyH_take (i := 7) (oi := { dst := some 76, op := Op.fieldAddr 51 (Operand.tmp 75) 2, type := 0, pos := "union.go:64", after := #[{ on := 6, ground := Ground.data }], guard := none }) (v := ?_) rfl (by kernel_rfl) (by kernel_rfl) (by kernel_rfl) (fun _ _ _ h => h) (Or.inl ⟨by rfl, ?_⟩) (by assumption) ?_
  rotate_left
  · (intro w hSw; (try dsimp only at hSw); (try have hcs := hcells w hSw); (try go_split_ands); go_simp <;> with_reducible rfl)
  (try simp only [Act.put, List.setIfInBounds_toArray, List.set_cons_zero, List.set_cons_succ])
  refine wpAnyH_take (i := 8) (oi := { dst := some 77, op := Op.load 26 (Operand.tmp 76), type := 26, pos := "union.go:64", after := #[{ on := 7, ground := Ground.data }], guard := none }) (v := ?_) rfl (by kernel_rfl) (by kernel_rfl) (by kernel_rfl) (fun _ _ _ h => h) (Or.inl ⟨by rfl, ?_⟩) (by assumption) ?_
  rotate_left
  · (intro w hSw; (try dsimp only at hSw); (try have hcs := hcells w hSw); (try go_split_ands); go_simp <;> with_reducible rfl)
  (try simp only [Act.put, List.setIfInBounds_toArray, List.set_cons_zero, List.set_cons_succ])
  refine wpAnyH_take (i := 9) (oi := { dst := some 78, op := Op.move (Operand.tmp 8), type := 3, pos := "union.go:64", after := #[], guard := none }) (v := ?_) rfl (by kernel_rfl) (by kernel_rfl) (by kernel_rfl) (fun _ _ _ h => h) (Or.inl ⟨by rfl, ?_⟩) (by assumption) ?_
  rotate_left
  · (intro w hSw; (try dsimp only at hSw); (try have hcs := hcells w hSw); (try go_split_ands); go_simp <;> with_reducible rfl)
  (try simp only [Act.put, List.setIfInBounds_toArray, List.set_cons_zero, List.set_cons_succ])
  refine wpAnyH_take (i := 10) (oi := { dst := some 79, op := Op.indexAddr 26 (Operand.tmp 77) (Operand.tmp 78), type := 0, pos := "union.go:64", after := #[{ on := 8, ground := Ground.data }, { on := 9, ground := Ground.data }], guard := none }) (v := ?_) rfl (by kernel_rfl) (by kernel_rfl) (by kernel_rfl) (fun _ _ _ h => h) (Or.inl ⟨by rfl, ?_⟩) (by assumption) ?_
  rotate_left
  · (intro w hSw; (try dsimp only at hSw); (try have hcs := hcells w hSw); (try go_split_ands); go_simp <;> with_reducible rfl)
  (try simp only [Act.put, List.setIfInBounds_toArray, List.set_cons_zero, List.set_cons_succ])
  refine wpAnyH_take (i := 11) (oi := { dst := some 80, op := Op.load 3 (Operand.tmp 79), type := 3, pos := "union.go:64", after := #[{ on := 10, ground := Ground.data }], guard := none }) (v := ?_) rfl (by kernel_rfl) (by kernel_rfl) (by kernel_rfl) (fun _ _ _ h => h) (Or.inl ⟨by rfl, ?_⟩) (by assumption) ?_
  rotate_left
  · (intro w hSw; (try dsimp only at hSw); (try have hcs := hcells w hSw); (try go_split_ands); go_simp <;> with_reducible rfl)
  (try simp only [Act.put, List.setIfInBounds_toArray, List.set_cons_zero, List.set_cons_succ])
  refine wpAnyH_take (i := 12) (oi := { dst := some 81, op := Op.move (Operand.tmp 0), type := 24, pos := "union.go:64", after := #[], guard := none }) (v := ?_) rfl (by kernel_rfl) (by kernel_rfl) (by kernel_rfl) (fun _ _ _ h => h) (Or.inl ⟨by rfl, ?_⟩) (by assumption) ?_
  rotate_left
  · (intro w hSw; (try dsimp only at hSw); (try have hcs := hcells w hSw); (try go_split_ands); go_simp <;> with_reducible rfl)
  (try simp only [Act.put, List.setIfInBounds_toArray, List.set_cons_zero, List.set_cons_succ])
  refine wpAnyH_take (i := 13) (oi := { dst := some 82, op := Op.nilCheck (Operand.tmp 81), type := 0, pos := "union.go:64", after := #[{ on := 12, ground := Ground.data }], guard := none }) (v := ?_) rfl (by kernel_rfl) (by kernel_rfl) (by kernel_rfl) (fun _ _ _ h => h) (Or.inl ⟨by rfl, ?_⟩) (by assumption) ?_
  rotate_left
  · (intro w hSw; (try dsimp only at hSw); (try have hcs := hcells w hSw); (try go_split_ands); go_simp <;> with_reducible rfl)
  (try simp only [Act.put, List.setIfInBounds_toArray, List.set_cons_zero, List.set_cons_succ])
  refine wpAnyH_take (i := 14) (oi := { dst := some 83, op := Op.fieldAddr 51 (Operand.tmp 82) 2, type := 0, pos := "union.go:64", after := #[{ on := 13, ground := Ground.data }], guard := none }) (v := ?_) rfl (by kernel_rfl) (by kernel_rfl) (by kernel_rfl) (fun _ _ _ h => h) (Or.inl ⟨by rfl, ?_⟩) (by assumption) ?_
  rotate_left
  · (intro w hSw; (try dsimp only at hSw); (try have hcs := hcells w hSw); (try go_split_ands); go_simp <;> with_reducible rfl)
  (try simp only [Act.put, List.setIfInBounds_toArray, List.set_cons_zero, List.set_cons_succ])
  refine wpAnyH_take (i := 15) (oi := { dst := some 84, op := Op.load 26 (Operand.tmp 83), type := 26, pos := "union.go:64", after := #[{ on := 14, ground := Ground.data }], guard := none }) (v := ?_) rfl (by kernel_rfl) (by kernel_rfl) (by kernel_rfl) (fun _ _ _ h => h) (Or.inl ⟨by rfl, ?_⟩) (by assumption) ?_
  rotate_left
  · (intro w hSw; (try dsimp only at hSw); (try have hcs := hcells w hSw); (try go_split_ands); go_simp <;> with_reducible rfl)
  (try simp only [Act.put, List.setIfInBounds_toArray, List.set_cons_zero, List.set_cons_succ])
  refine wpAnyH_take (i := 16) (oi := { dst := some 85, op := Op.move (Operand.tmp 9), type := 3, pos := "union.go:64", after := #[], guard := none }) (v := ?_) rfl (by kernel_rfl) (by kernel_rfl) (by kernel_rfl) (fun _ _ _ h => h) (Or.inl ⟨by rfl, ?_⟩) (by assumption) ?_
  rotate_left
  · (intro w hSw; (try dsimp only at hSw); (try have hcs := hcells w hSw); (try go_split_ands); go_simp <;> with_reducible rfl)
  (try simp only [Act.put, List.setIfInBounds_toArray, List.set_cons_zero, List.set_cons_succ])
  refine wpAnyH_take (i := 17) (oi := { dst := some 86, op := Op.indexAddr 26 (Operand.tmp 84) (Operand.tmp 85), type := 0, pos := "union.go:64", after := #[{ on := 15, ground := Ground.data }, { on := 16, ground := Ground.data }], guard := none }) (v := ?_) rfl (by kernel_rfl) (by kernel_rfl) (by kernel_rfl) (fun _ _ _ h => h) (Or.inl ⟨by rfl, ?_⟩) (by assumption) ?_
  rotate_left
  · (intro w hSw; (try dsimp only at hSw); (try have hcs := hcells w hSw); (try go_split_ands); go_simp <;> with_reducible rfl)
  (try simp only [Act.put, List.setIfInBounds_toArray, List.set_cons_zero, List.set_cons_succ])
  refine wpAnyH_take (i := 18) (oi := { dst := some 87, op := Op.load 3 (Operand.tmp 86), type := 3, pos := "union.go:64", after := #[{ on := 17, ground := Ground.data }], guard := none }) (v := ?_) rfl (by kernel_rfl) (by kernel_rfl) (by kernel_rfl) (fun _ _ _ h => h) (Or.inl ⟨by rfl, ?_⟩) (by assumption) ?_
  rotate_left
  · (intro w hSw; (try dsimp only at hSw); (try have hcs := hcells w hSw); (try go_split_ands); go_simp <;> with_reducible rfl)
  (try simp only [Act.put, List.setIfInBounds_toArray, List.set_cons_zero, List.set_cons_succ])
  refine wpAnyH_ready (rs := [19]) (by kernel_rfl) (by simp) ?_
  refine AllReadyH.cons (o := { dst := some 88, op := Op.call { callee := Callee.builtin Builtin.min, args := #[Operand.tmp 80, Operand.tmp 87], argTypes := #[3, 3] }, type := 3, pos := "union.go:64", after := #[{ on := 11, ground := Ground.data }, { on := 18, ground := Ground.data }], guard := none }) rfl (fun K hK => ?_) AllReadyH.nil
  go_simp
  refine hK.out _ _ (by (try dsimp only); exact hcl _ _ hHeld (by first | with_reducible assumption | with_reducible exact IsGr.refl _ | with_reducible exact (IsGr.refl _).alloc _ | with_reducible exact ((IsGr.refl _).alloc _).alloc _ | assumption)) (fun hHeld2 => ?_)
  clear hK K hHeld
  have hHeld := hHeld2
  clear hHeld2
  (try simp only [Act.put, List.setIfInBounds_toArray, List.set_cons_zero, List.set_cons_succ])
  refine wpAnyH_take (i := 20) (oi := { dst := some 89, op := Op.indexAddr 26 (Operand.tmp 72) (Operand.tmp 73), type := 0, pos := "union.go:64", after := #[{ on := 3, ground := Ground.data }, { on := 4, ground := Ground.data }, { on := 0, ground := Ground.phase }, { on := 1, ground := Ground.phase }, { on := 2, ground := Ground.phase }, { on := 3, ground := Ground.phase }, { on := 4, ground := Ground.phase }, { on := 5, ground := Ground.phase }, { on := 6, ground := Ground.phase }, { on := 7, ground := Ground.phase }, { on := 8, ground := Ground.phase }, { on := 9, ground := Ground.phase }, { on := 10, ground := Ground.phase }, { on := 11, ground := Ground.phase }, { on := 12, ground := Ground.phase }, { on := 13, ground := Ground.phase }, { on := 14, ground := Ground.phase }, { on := 15, ground := Ground.phase }, { on := 16, ground := Ground.phase }, { on := 17, ground := Ground.phase }, { on := 18, ground := Ground.phase }, { on := 19, ground := Ground.phase }], guard := none }) (v := ?_) rfl (by kernel_rfl) (by kernel_rfl) (by kernel_rfl) (fun _ _ _ h => h) (Or.inl ⟨by rfl, ?_⟩) (by assumption) ?_
  rotate_left
  · (intro w hSw; (try dsimp only at hSw); (try have hcs := hcells w hSw); (try go_split_ands); go_simp <;> with_reducible rfl)
  (try simp only [Act.put, List.setIfInBounds_toArray, List.set_cons_zero, List.set_cons_succ])
  refine wpAnyH_done (by kernel_rfl) ?_ _
  obtain ⟨z1, z2, z3, z4⟩ := hcells _ hHeld
  have hg := hgr _ hHeld
  refine butLast_step (o := { dst := none, op := Op.store 3 (Operand.tmp 89) (Operand.tmp 88), type := 0, pos := "union.go:64", after := #[{ on := 20, ground := Ground.data }, { on := 19, ground := Ground.data }, { on := 0, ground := Ground.phase }, { on := 1, ground := Ground.phase }, { on := 2, ground := Ground.phase }, { on := 3, ground := Ground.phase }, { on := 4, ground := Ground.phase }, { on := 5, ground := Ground.phase }, { on := 6, ground := Ground.phase }, { on := 7, ground := Ground.phase }, { on := 8, ground := Ground.phase }, { on := 9, ground := Ground.phase }, { on := 10, ground := Ground.phase }, { on := 11, ground := Ground.phase }, { on := 12, ground := Ground.phase }, { on := 13, ground := Ground.phase }, { on := 14, ground := Ground.phase }, { on := 15, ground := Ground.phase }, { on := 16, ground := Ground.phase }, { on := 17, ground := Ground.phase }, { on := 18, ground := Ground.phase }, { on := 19, ground := Ground.phase }], guard := none }) rfl (fun K hK => ?_)
  go_simp
  refine hK.out _ _ ?_
  clear hK K
  (try simp only [Act.put, List.setIfInBounds_toArray, List.set_cons_zero, List.set_cons_succ])
  clear z1 z2 z3 z4 hHeld hgr hcells hcl hin C c2 cr cq fz
  go_upto_region 11 with fail
  obtain ⟨mn, hmn⟩ : ∃ mn, (if mq < mr then mq else mr) = mn := ⟨_, rfl⟩
  rw [hmn]
  have hmn2 : mn = min mr mq := by rw [← hmn]; split <;> omega
  obtain ⟨wc, hwc⟩ : ∃ wc, wc = (wb.setCell ⟨gm, r, none⟩ (.int .i64 mn)).drew := ⟨_, rfl⟩
  rw [← hwc]
  rw [hmn2] at hwc
  clear hmn hmn2
  obtain ⟨d1, d2, d3, d4, d5, d6⟩ := HDS.out
  have HM4 : Hid (Um wc t gu gz gm (u.set q r) (z.set r ((i : Int) + (j : Int))) (m.set r (min mr mq)) n k ∧ Wr [t, gu, gz, gm] w wc) := by
    obtain ⟨hM, hW⟩ := HM3.out
    subst hwc
    exact ⟨Um.gr ⟨hM.b.other _ _ d3, hM.ru.other _ _ d5, hM.rz.other _ _ d6, hM.rm.set _ _⟩ ((IsGr.refl _).drew), (hW.set _ _ _ (Or.inl (by simp))).drew⟩
  have c3 := HM4.out.1.b.c3
  have f3 := HM4.out.1.b.fz 3
  clear d1 d2 d3 d4 d5 d6 HM3 hwc hg
  go_wp2_with fail
  refine bodyPost_ret (v := .tuple #[.bool true, .int .i64 0]) (by simp [results, Try.results10, go_sem]) rfl ⟨rfl, ?_⟩
  obtain ⟨d1, d2, d3, d4, d5, d6⟩ := HDS.out
  obtain ⟨hM, hW⟩ := HM4.out
  exact ⟨⟨hM.b.set3 _, hM.ru.other _ _ (Ne.symm d1), hM.rz.other _ _ (Ne.symm d2), hM.rm.other _ _ (Ne.symm d3)⟩, hW.set _ _ _ (Or.inl (by simp))⟩
/-- Two sets are one. -/
theorem Join_ne {base t gu gz gm : Nat} {x : List Int} (a b : Nat) (w : World) (h : Un w base t gu gz gm x) (ha : a < x.length) (hb : b < x.length) (he : x.getD a 0 ≠ x.getD b 0) :
    Calls Try.prog 10 #[.pointer (some ⟨t, 0, none⟩), .int .i64 a, .int .i64 b] w fun e w' => e = .returned (.tuple #[.bool true, .int .i64 0]) ∧ Un w' base t gu gz gm (jn x a b) ∧ Wr [t, gu, gz, gm] w w' := by
  obtain ⟨u, z, m, hU, hM⟩ := h.tr
  obtain ⟨r, hr⟩ := hU.top ha
  obtain ⟨q, hq⟩ := hU.top hb
  have hk : ((cntU x x.length : Nat) : Int) - 1 = (cntU (jn x a b) (jn x a b).length : Nat) := by
    have h1 := cnt_jn he hU.lea ha hb x.length (Nat.le_refl _)
    obtain ⟨p1, h2, h3, _⟩ := hU.lea.tail ha
    obtain ⟨p2, h4, h5, _⟩ := hU.lea.tail hb
    rw [if_pos (by rw [h2, h4]; omega)] at h1
    rw [jn_len]; omega
  by_cases hc : z.getD r 0 < z.getD q 0
  · refine (Join_ne_lt a b r q w h.ds hU hM ha hb h.max hr hq he (decide_eq_true hc)).mono ?_
    rintro e w' ⟨h1, h2, h3⟩
    have hu := hU.join hb ha hq hr (Ne.symm he)
    rw [jn_comm] at hu
    rw [hk] at h2
    exact ⟨h1, ⟨h.ds, h.low, by rw [jn_len]; exact h.max, _, _, _, hu, by rw [jn_len] at h2 ⊢; exact h2⟩, h3⟩
  · refine (Join_ne_ge a b r q w h.ds hU hM ha hb h.max hr hq he (decide_eq_false hc)).mono ?_
    rintro e w' ⟨h1, h2, h3⟩
    have hu := hU.join ha hb hr hq he
    rw [hk] at h2
    exact ⟨h1, ⟨h.ds, h.low, by rw [jn_len]; exact h.max, _, _, _, hu, by rw [jn_len] at h2 ⊢; exact h2⟩, h3⟩
end Go.Proofs.Ytchbnkapajnjgaa
