/- gromalaw09 over the loaded program, given what package lex answers: LexTokens. -/
import Derived.Test.YtpgcfnpnpmpkeaaC5
import Derived.Deep.RegionWith
namespace Go.Proofs.Ytpgcfnpnpmpkeaa
open Go.RowKit Go.Shelf
attribute [local go_sem] Gr.size Gr.cell? Gr.frozen? Gr.setCell Gr.drew Gr.drewN Gr.of_drew Gr.of_drewN Gr.gr Gr.lt_of1 Gr.le_of1 Gr.lt_of2 Gr.le_of2 Gr.lt_of3 Gr.le_of3 Gr.lt_of4 Gr.le_of4 Gr.lt_of5 Gr.le_of5 Gr.lt_of6 Gr.le_of6 Gr.lt_of7 Gr.le_of7 Gr.lt_of8 Gr.le_of8 Gr.lt_of9 Gr.le_of9 Gr.lt_of10 Gr.le_of10 Gr.lt_of11 Gr.le_of11 Gr.lt_of12 Gr.le_of12 Gr.lt_of13 Gr.le_of13 Gr.lt_of14 Gr.le_of14 Gr.lt_of15 Gr.le_of15 Gr.lt_of16 Gr.le_of16 Gr.lt_of17 Gr.le_of17 Gr.lt_of18 Gr.le_of18 Gr.lt_of19 Gr.le_of19 Gr.lt_of20 Gr.le_of20 Gr.lt_of21 Gr.le_of21 Gr.lt_of22 Gr.le_of22 Gr.lt_of23 Gr.le_of23 Gr.lt_of24 Gr.le_of24
theorem tok3_at {pre : List (Nat × Nat × Nat)} {i : Nat} (hi : i < pre.length) : ∃ k a b : Nat, (tok3 pre).getD i (0, 0, 0) = ((k : Int), (a : Int), (b : Int)) ∧ (k, a, b) ∈ pre ∧ pre = pre.take i ++ (k, a, b) :: pre.drop (i + 1) := by
  refine ⟨pre[i].1, pre[i].2.1, pre[i].2.2, ?_, List.getElem_mem hi, ?_⟩
  · simp [tok3, List.getD, hi]
  · rw [← List.drop_eq_getElem_cons hi, List.take_append_drop]
set_option maxRecDepth 20000 in set_option maxHeartbeats 2000000 in
theorem law_tokens_big (C : LexC) (s : ByteArray) (w : World) (hs : ¬ s.size ≤ 3000) : Calls Try.prog 3 #[.string s] w fun e w' => e = .returned (.bool true) ∧ Below w.heap.size w w' := by
  have hs' : (3000 : Int) < s.size := by omega
  have CA := fun w => awake_any C w
  go_enter Try.func3, Try.ntmps3
  go_wp2_with fail
  refine (CA _).mono ?_
  rintro e w1 ⟨rfl, hb1⟩
  go_wp2_with fail
  go_ret
  exact ⟨rfl, hb1⟩
set_option maxRecDepth 20000 in set_option maxHeartbeats 2000000 in
theorem law_tokens_no (C : LexC) (s : ByteArray) (w : World) (hs : s.size ≤ 3000) (pre : List (Nat × Nat × Nat)) (q : Nat) (h : tks (bts s) 0 = (pre, some q)) : Calls Try.prog 3 #[.string s] w fun e w' => e = .returned (.bool true) ∧ Below w.heap.size w w' := by
  have hs' : ¬ (3000 : Int) < s.size := by omega
  have CA := fun w => awake_any C w
  have C1 := C.tokens s w hs
  have C2 := fun w => RTokens_any s w hs
  have H : Hid (tks (bts s) 0 = (pre, some q)) := h
  clear h hs
  go_enter Try.func3, Try.ntmps3
  go_wp2_with fail
  refine C1.mono ?_
  clear C1
  rintro e w1 h1
  obtain ⟨a, c, rfl, hb1⟩ := h1.no H.out
  have HB1 : Hid (Below w.heap.size w w1) := hb1
  clear h1 hb1
  go_wp2_with fail
  refine (C2 _).mono ?_
  clear C2
  rintro e w2 h2
  obtain ⟨rfl, hb2⟩ := h2.no' H.out
  have HB2 : Hid (Below w.heap.size w w2) := HB1.out.trans (hb2.mono HB1.out.size)
  have hq : 0 ≤ (q : Int) := by omega
  clear h2 hb2 HB1
  go_wp2_with fail
  refine (CA _).mono ?_
  rintro e w3 ⟨rfl, hb3⟩
  go_wp2_with fail
  go_ret
  exact ⟨rfl, HB2.out.trans (hb3.mono HB2.out.size)⟩

set_option maxRecDepth 20000 in set_option maxHeartbeats 2000000 in
theorem law_tokens_yes (C : LexC) (s : ByteArray) (w : World) (hs : s.size ≤ 3000) (pre : List (Nat × Nat × Nat)) (h : tks (bts s) 0 = (pre, none)) : Calls Try.prog 3 #[.string s] w fun e w' => e = .returned (.bool true) ∧ Below w.heap.size w w' := by
  have hs' : ¬ (3000 : Int) < s.size := by omega
  have CA := fun w => awake_any C w
  have C1 := C.tokens s w hs
  have C2 := fun w => RTokens_any s w hs
  have H : Hid (tks (bts s) 0 = (pre, none)) := h
  have HS : Hid (s.size ≤ 3000) := hs
  have HT : Hid (∀ t ∈ pre, t.2.1 < t.2.2 ∧ t.2.2 ≤ s.size) := fun t ht => by
    have := tks_in _ (bts s) 0 (Nat.le_refl _) t (by rw [h]; exact ht)
    rw [bts_len] at this
    omega
  have HPL : Hid (pre.length ≤ 3000) := by
    have h2 := tks_len (bts s)
    rw [h, bts_len] at h2
    simp only at h2
    show _ ≤ _
    omega
  have CT := fun k i j w => C.text k i j s w hs
  clear h hs
  go_enter Try.func3, Try.ntmps3
  go_wp2_with fail
  refine C1.mono ?_
  clear C1
  rintro e w1 h1
  obtain ⟨v1, rfl, hl1, hb1⟩ := h1.yes H.out
  obtain ⟨a1, c1, rfl, hlc1, hf1⟩ := hl1.form
  have HB1 : Hid (Below w.heap.size w w1) := hb1
  rw [tok3_len] at hl1 hlc1 ⊢
  clear h1 hb1
  go_wp2_with fail
  refine (C2 _).mono ?_
  clear C2
  rintro e w2 h2
  obtain ⟨v2, rfl, hl2, hb2⟩ := h2.yes' H.out
  obtain ⟨a2, c2, rfl, hlc2, hf2⟩ := hl2.form
  have HB2 : Hid (Below w.heap.size w w2) := HB1.out.trans (hb2.mono HB1.out.size)
  have HL : Hid (Ls3 31 w2 w.heap.size (.slice a1 pre.length c1) (tok3 pre) ∧ Ls3 32 w2 w1.heap.size (.slice a2 pre.length c2) (tok3 pre)) := ⟨hl1.below hb2, by rw [tok3_len] at hl2; exact hl2⟩
  rw [tok3_len] at hlc2 ⊢
  obtain ⟨n, hn⟩ : ∃ n, pre.length = n := ⟨_, rfl⟩
  have HN : Hid (pre.length = n ∧ n ≤ 3000) := ⟨hn, hn ▸ HPL.out⟩
  rw [hn] at HL hlc1 hlc2 ⊢
  clear h2 hb2 HB1 hl1 hl2 hf1 hf2 hn
  go_wp2_with fail
  go_loopg [57] n (fun r p57 wr => ∃ i : Nat, i + r = n ∧ p57 = .int .i64 i ∧ Hid (IsGr w2 wr))
  case atStart => exact ⟨0, by omega, rfl, IsGr.refl _⟩
  case round =>
    obtain ⟨q, hq, rfl, HG⟩ := hrel
    by_cases hqn : q < n
    · obtain ⟨k, i, j, htk, hmem, -⟩ := tok3_at (pre := pre) (i := q) (by have := HN.out; omega)
      have L1 := HL.out.1.gr HG.out
      have L2 := HL.out.2.gr HG.out
      obtain ⟨a1', c1', e1, -, hf1⟩ := L1.form
      obtain ⟨a2', c2', e2, -, hf2⟩ := L2.form
      rw [tok3_len, HN.out.1] at hf1 hf2
      injection e1 with e1a e1b e1c
      injection e2 with e2a e2b e2c
      subst e1a e2a
      rcases hf1 with ⟨h, -⟩ | ⟨g1, rfl, -, -, hc1⟩
      · have := congrArg List.length h; rw [tok3_len, HN.out.1] at this; simp at this; omega
      rcases hf2 with ⟨h, -⟩ | ⟨g2, rfl, -, -, hc2⟩
      · have := congrArg List.length h; rw [tok3_len, HN.out.1] at this; simp at this; omega
      obtain ⟨x1, x2, x3⟩ := hc1 q hqn
      obtain ⟨y1, y2, y3⟩ := hc2 q hqn
      rw [htk] at x1 x2 x3 y1 y2 y3
      simp only at x1 x2 x3 y1 y2 y3
      obtain ⟨hij, hjs⟩ := HT.out _ hmem
      simp only at hij hjs
      have CX := fun w => CT k i j w
      rw [txtOf_in (by omega) hjs] at CX
      have hqn' : (q : Int) < n := by omega
      have hij' : (i : Int) ≤ j := by omega
      have hjs' : (j : Int) ≤ s.size := by omega
      have e4 : IntKind.i64.wrap ((q : Int) + 1) = (q : Int) + 1 := by rw [IntKind.wrap_i64]; have := HN.out; omega
      have HA := (IsGr.refl wr).alloc (.cells #[.int .i64 k, .int .i64 i, .int .i64 j] 31)
      obtain ⟨wa, hwa⟩ : ∃ W, wr.alloc (.cells #[.int .i64 k, .int .i64 i, .int .i64 j] 31) = W := ⟨_, rfl⟩
      have z1 : wa.cell? ⟨wr.heap.size, 0, none⟩ = some (.int .i64 k) := by rw [← hwa]; simp [go_sem]
      have z2 : wa.cell? ⟨wr.heap.size, 1, none⟩ = some (.int .i64 i) := by rw [← hwa]; simp [go_sem]
      have z3 : wa.cell? ⟨wr.heap.size, 2, none⟩ = some (.int .i64 j) := by rw [← hwa]; simp [go_sem]
      rw [hwa] at HA
      replace y1 := cellk y1 HA
      replace y2 := cellk y2 HA
      replace y3 := cellk y3 HA
      have HGA : Hid (IsGr w2 wa) := HG.out.trans HA
      clear htk hmem L1 L2 hc1 hc2 e1b e1c e2b e2c hij hjs HA HG
      go_upto_region 12 with fail
      clear x1 x2 x3 hwa
      obtain ⟨CC, hin, hcl, hcells, hgr⟩ : ∃ CC : World → Prop, (∀ w', IsGr wa w' → CC w') ∧ (∀ u u', CC u → IsGr u u' → CC u') ∧ (∀ w', CC w' → (w'.cell? ⟨wr.heap.size, 0, none⟩ = some (.int .i64 k)) ∧ (w'.cell? ⟨wr.heap.size, 1, none⟩ = some (.int .i64 i)) ∧ (w'.cell? ⟨wr.heap.size, 2, none⟩ = some (.int .i64 j)) ∧ (w'.cell? ⟨g2, q * 3, none⟩ = some (.int .i64 k)) ∧ (w'.cell? ⟨g2, q * 3 + 1, none⟩ = some (.int .i64 i)) ∧ (w'.cell? ⟨g2, q * 3 + 2, none⟩ = some (.int .i64 j))) ∧ (∀ w', CC w' → IsGr wa w') := ⟨fun w' => IsGr wa w', fun _ h => h, fun _ _ h k => h.trans k, fun w' hg => ⟨cellk z1 hg, cellk z2 hg, cellk z3 hg, cellk y1 hg, cellk y2 hg, cellk y3 hg⟩, fun _ h => h⟩
      refine wp_region_quietV CC (by kernel_rfl) (by kernel_rfl) (hin _ (by with_reducible repeat (first | exact IsGr.refl _ | refine IsGr.gr ?_ _ _ | refine IsGr.alloc ?_ _ | refine IsGr.drew ?_ | refine IsGr.drewN ?_ _))) (fun K HK => ?_)
      refine QK.take HK ?_ (by rfl) ?_ ?_
      rotate_left
      · (intro w hw; (try have hcs := hcells w hw); (try go_split_ands); go_simp <;> with_reducible rfl)
      (try simp only [Act.put, List.setIfInBounds_toArray, List.set_cons_zero, List.set_cons_succ])
      refine QK.take HK ?_ (by rfl) ?_ ?_
      rotate_left
      · (intro w hw; (try have hcs := hcells w hw); (try go_split_ands); go_simp <;> with_reducible rfl)
      (try simp only [Act.put, List.setIfInBounds_toArray, List.set_cons_zero, List.set_cons_succ])
      refine QK.take HK ?_ (by rfl) ?_ ?_
      rotate_left
      · (intro w hw; (try have hcs := hcells w hw); (try go_split_ands); go_simp <;> with_reducible rfl)
      (try simp only [Act.put, List.setIfInBounds_toArray, List.set_cons_zero, List.set_cons_succ])
      refine QK.take HK ?_ (by rfl) ?_ ?_
      rotate_left
      · (intro w hw; (try have hcs := hcells w hw); (try go_split_ands); go_simp <;> with_reducible rfl)
      (try simp only [Act.put, List.setIfInBounds_toArray, List.set_cons_zero, List.set_cons_succ])
      refine QK.take HK ?_ (by rfl) ?_ ?_
      rotate_left
      · (intro w hw; (try have hcs := hcells w hw); (try go_split_ands); go_simp <;> with_reducible rfl)
      (try simp only [Act.put, List.setIfInBounds_toArray, List.set_cons_zero, List.set_cons_succ])
      refine QK.take HK ?_ (by rfl) ?_ ?_
      rotate_left
      · (intro w hw; (try have hcs := hcells w hw); (try go_split_ands); go_simp <;> with_reducible rfl)
      (try simp only [Act.put, List.setIfInBounds_toArray, List.set_cons_zero, List.set_cons_succ])
      refine QK.take HK ?_ (by rfl) ?_ ?_
      rotate_left
      · (intro w hw; (try have hcs := hcells w hw); (try go_split_ands); go_simp <;> with_reducible rfl)
      (try simp only [Act.put, List.setIfInBounds_toArray, List.set_cons_zero, List.set_cons_succ])
      refine QK.take HK ?_ (by rfl) ?_ ?_
      rotate_left
      · (intro w hw; (try have hcs := hcells w hw); (try go_split_ands); go_simp <;> with_reducible rfl)
      (try simp only [Act.put, List.setIfInBounds_toArray, List.set_cons_zero, List.set_cons_succ])
      refine QK.take HK ?_ (by rfl) ?_ ?_
      rotate_left
      · (intro w hw; (try have hcs := hcells w hw); (try go_split_ands); go_simp <;> with_reducible rfl)
      (try simp only [Act.put, List.setIfInBounds_toArray, List.set_cons_zero, List.set_cons_succ])
      refine QK.callC HK 10 #[.agg #[.int .i64 k, .int .i64 i, .int .i64 j], .string s] (.string (s.extract i j)) hcl (by rfl) (fun w => by go_simp) (fun w _ => CX w) ?_
      (try simp only [Act.put, List.setIfInBounds_toArray, List.set_cons_zero, List.set_cons_succ])
      refine QK.take HK ?_ (by rfl) ?_ ?_
      rotate_left
      · (intro w hw; (try have hcs := hcells w hw); (try go_split_ands); go_simp <;> with_reducible rfl)
      (try simp only [Act.put, List.setIfInBounds_toArray, List.set_cons_zero, List.set_cons_succ])
      refine QK.take HK ?_ (by rfl) ?_ ?_
      rotate_left
      · (intro w hw; (try have hcs := hcells w hw); (try go_split_ands); go_simp <;> with_reducible rfl)
      (try simp only [Act.put, List.setIfInBounds_toArray, List.set_cons_zero, List.set_cons_succ])
      refine QK.take HK ?_ (by rfl) ?_ ?_
      rotate_left
      · (intro w hw; (try have hcs := hcells w hw); (try go_split_ands); go_simp <;> with_reducible rfl)
      (try simp only [Act.put, List.setIfInBounds_toArray, List.set_cons_zero, List.set_cons_succ])
      refine QK.take HK ?_ (by rfl) ?_ ?_
      rotate_left
      · (intro w hw; (try have hcs := hcells w hw); (try go_split_ands); go_simp <;> with_reducible rfl)
      (try simp only [Act.put, List.setIfInBounds_toArray, List.set_cons_zero, List.set_cons_succ])
      refine QK.take HK ?_ (by rfl) ?_ ?_
      rotate_left
      · (intro w hw; (try have hcs := hcells w hw); (try go_split_ands); go_simp <;> with_reducible rfl)
      (try simp only [Act.put, List.setIfInBounds_toArray, List.set_cons_zero, List.set_cons_succ])
      refine QK.take HK ?_ (by rfl) ?_ ?_
      rotate_left
      · (intro w hw; (try have hcs := hcells w hw); (try go_split_ands); go_simp <;> with_reducible rfl)
      (try simp only [Act.put, List.setIfInBounds_toArray, List.set_cons_zero, List.set_cons_succ])
      refine QK.take HK ?_ (by rfl) ?_ ?_
      rotate_left
      · (intro w hw; (try have hcs := hcells w hw); (try go_split_ands); go_simp <;> with_reducible rfl)
      (try simp only [Act.put, List.setIfInBounds_toArray, List.set_cons_zero, List.set_cons_succ])
      refine QK.take HK ?_ (by rfl) ?_ ?_
      rotate_left
      · (intro w hw; (try have hcs := hcells w hw); (try go_split_ands); go_simp <;> with_reducible rfl)
      (try simp only [Act.put, List.setIfInBounds_toArray, List.set_cons_zero, List.set_cons_succ])
      refine QK.nil HK ?_
      clear HK K
      intro wq hq
      have hgq := hgr wq hq
      have HGq : Hid (IsGr w2 wq) := HGA.out.trans hgq
      clear hq hgr hin hcl hcells z1 z2 z3 y1 y2 y3 CX hgq HGA
      go_wp2_with fail
      go_roundg (n - (q + 1))
      case measure => omega
      case rel => exact ⟨q + 1, by omega, by simp, HGq.out⟩
    · have hqn' : ¬ (q : Int) < n := by omega
      have HBr : Hid (Below w.heap.size w wr) := HB2.out.trans (HG.out.below.mono HB2.out.size)
      go_wp2_with fail
      refine (CA _).mono ?_
      rintro e w3 ⟨rfl, hb3⟩
      go_wp2_with fail
      go_ret
      exact ⟨rfl, HBr.out.trans (hb3.mono HBr.out.size)⟩
theorem law_tokens (C : LexC) (s : ByteArray) (w : World) : Calls Try.prog 3 #[.string s] w fun e w' => e = .returned (.bool true) ∧ Below w.heap.size w w' := by
  by_cases hs : s.size ≤ 3000
  · cases h : tks (bts s) 0 with
    | mk pre b =>
      cases b with
      | none => exact law_tokens_yes C s w hs pre h
      | some q => exact law_tokens_no C s w hs pre q h
  · exact law_tokens_big C s w hs
end Go.Proofs.Ytpgcfnpnpmpkeaa
