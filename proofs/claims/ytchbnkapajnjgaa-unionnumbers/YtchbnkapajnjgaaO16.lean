/- gromalaw08 over the loaded program: UnionNumbers' law. -/
import Derived.Test.YtchbnkapajnjgaaO15
namespace Go.Proofs.Ytchbnkapajnjgaa
open Go.RowKit Go.Shelf
attribute [local go_sem] Gr.size Gr.cell? Gr.frozen? Gr.setCell Gr.drew Gr.drewN Gr.of_drew Gr.of_drewN Gr.gr Gr.lt_of1 Gr.le_of1 Gr.lt_of2 Gr.le_of2 Gr.lt_of3 Gr.le_of3 Gr.lt_of4 Gr.le_of4 Gr.lt_of5 Gr.le_of5 Gr.lt_of6 Gr.le_of6 Gr.lt_of7 Gr.le_of7 Gr.lt_of8 Gr.le_of8 Gr.lt_of9 Gr.le_of9 Gr.lt_of10 Gr.le_of10 Gr.lt_of11 Gr.le_of11 Gr.lt_of12 Gr.le_of12 Gr.lt_of13 Gr.le_of13 Gr.lt_of14 Gr.le_of14 Gr.lt_of15 Gr.le_of15 Gr.lt_of16 Gr.le_of16 Gr.lt_of17 Gr.le_of17 Gr.lt_of18 Gr.le_of18 Gr.lt_of19 Gr.le_of19 Gr.lt_of20 Gr.le_of20 Gr.lt_of21 Gr.le_of21 Gr.lt_of22 Gr.le_of22 Gr.lt_of23 Gr.le_of23 Gr.lt_of24 Gr.le_of24
set_option maxRecDepth 20000 in set_option maxHeartbeats 2000000 in
theorem law_numbers_many (k : Int) (a : Option Addr) (m c : Nat) (z : Int) (w : World) (h : ¬ (0 ≤ k ∧ k ≤ 60 ∧ m ≤ 80)) : Calls Try.prog 5 #[.int .i64 k, .slice a m c, .int .i64 z] w fun e w' => e = .returned (.bool true) ∧ Below w.heap.size w w' := by
  have CA := awake_any w
  by_cases h1 : k < 0
  · clear h
    go_enter Try.func5, Try.ntmps5
    go_wp2_with fail
    refine CA.mono ?_
    rintro e w2 ⟨rfl, hb⟩
    go_wp2_with fail
    go_ret
    exact ⟨rfl, hb⟩
  · by_cases h2 : 60 < k
    · clear h
      go_enter Try.func5, Try.ntmps5
      go_wp2_with fail
      refine CA.mono ?_
      rintro e w2 ⟨rfl, hb⟩
      go_wp2_with fail
      go_ret
      exact ⟨rfl, hb⟩
    · have h3 : (80 : Int) < m := by omega
      clear h
      go_enter Try.func5, Try.ntmps5
      go_wp2_with fail
      refine CA.mono ?_
      rintro e w2 ⟨rfl, hb⟩
      go_wp2_with fail
      go_ret
      exact ⟨rfl, hb⟩
theorem cntU_ints (x : List Int) (hn : x.length ≤ 1048576) (h : Lea x) : ∀ z ∈ nums x, I64 z := fun z hz => by
  obtain ⟨i, hi, rfl⟩ := List.getElem_of_mem hz
  rw [nums_len] at hi
  have e : (nums x)[i]'(by rw [nums_len]; exact hi) = (nums x).getD i 0 := by simp [List.getD, nums_len, hi]
  rw [e, nums_at hi]
  have h1 := h i hi
  have h2 := cntU_le x (x.getD i 0).toNat
  unfold I64
  omega

set_option maxRecDepth 20000 in set_option maxHeartbeats 2000000 in
theorem law_numbers_in (n : Nat) (a : Option Addr) (m c : Nat) (l : List (Int × Int)) (z : Nat) (hz : z < n) (w : World) (h : Ops w a m l) (hn : n ≤ 60) (hm : m ≤ 80) : Calls Try.prog 5 #[.int .i64 n, .slice a m c, .int .i64 z] w fun e w' => e = .returned (.bool true) ∧ Below w.heap.size w w' := by
  have q0 : ¬ (n : Int) < 0 := by omega
  have q1 : ¬ (60 : Int) < n := by omega
  have q2 : ¬ (80 : Int) < m := by omega
  have q3 : (n : Int) ≤ 60 := by omega
  have CM := made_any n a m c l w h hn hm
  have CW := fun w => within_any (z : Int) (n : Int) w
  rw [wth_nat hz] at CW
  have HZ : Hid (z < n) := hz
  have hz' : (z : Int) < n := by omega
  clear h
  go_enter Try.func5, Try.ntmps5
  go_wp2_with fail
  refine CM.mono ?_
  clear CM
  rintro e w1 ⟨t, sa, sc, rfl, gu, gz, gm, x, hP⟩
  have C1 := Numbers_any w1 hP.un
  have HP : Hid (Pl w t gu gz gm n x (.slice sa n sc) w1) := hP
  clear hP
  go_wp2_with fail
  refine C1.mono ?_
  clear C1
  rintro e w2 ⟨g, rfl, hr2, hg2, hb2⟩
  have HP2 : Hid (Pl w t gu gz gm n x (.slice sa n sc) w2 ∧ Row w2 g (nums x)) := ⟨HP.out.below hb2, hr2⟩
  have C2 := RNumbers_any _ x w2 HP2.out.1.rd HP2.out.1.un.lea (by rw [HP2.out.1.len]; omega)
  have hlen := HP2.out.1.len
  rw [hlen]
  clear HP hr2 hg2 hb2
  go_wp2_with fail
  refine C2.mono ?_
  clear C2
  rintro e w3 ⟨v3, rfl, hl3, hb3⟩
  obtain ⟨va, vc, rfl, -⟩ := hl3.form
  have hP3 := HP2.out.1.below hb3
  have HP3 : Hid (Pl w t gu gz gm n x (.slice sa n sc) w3 ∧ Row w3 g (nums x) ∧ Rd w3 (.slice va (nums x).length vc) (nums x)) := ⟨hP3, HP2.out.2.below hb3, Rd.of_lst hl3 (cntU_ints x hP3.un.max hP3.un.lea)⟩
  rw [nums_len, hlen] at HP3 ⊢
  have HL : Hid (x.length = n ∧ (nums x).length = n) := ⟨hlen, by rw [nums_len]; exact hlen⟩
  clear HP2 hl3 hb3 hP3 hlen
  go_wp2_with fail
  go_loopg [48] n (fun r p48 wr => ∃ i : Nat, i + r = n ∧ p48 = .int .i64 i ∧ Hid (IsGr w3 wr))
  case atStart => exact ⟨0, by omega, rfl, IsGr.refl _⟩
  case round =>
    obtain ⟨i, hi, rfl, HG⟩ := hrel
    by_cases hin : i < n
    · have cg := (HP3.out.2.1.gr HG.out).cell (i := i) (by have := HL.out.2; omega)
      obtain ⟨gv, ov, rfl, -, hvc, -, -, cv⟩ := (HP3.out.2.2.gr HG.out).at hin
      obtain ⟨p, hp⟩ : ∃ p, (nums x).getD i 0 = p := ⟨_, rfl⟩
      rw [hp] at cg cv
      have hin' : (i : Int) < n := by omega
      have e1 : IntKind.i64.wrap ((i : Int) + 1) = (i : Int) + 1 := by rw [IntKind.wrap_i64]; omega
      clear hp hvc
      go_upto_region 12 with fail
      obtain ⟨C, hin, hcl, hcells, hgr⟩ : ∃ C : World → Prop, (∀ w', IsGr wr w' → C w') ∧ (∀ u u', C u → IsGr u u' → C u') ∧ (∀ w', C w' → (w'.cell? ⟨g, i, none⟩ = some (.int .i64 p)) ∧ (w'.cell? ⟨gv, ov + i, none⟩ = some (.int .i64 p))) ∧ (∀ w', C w' → IsGr wr w') := ⟨fun w' => IsGr wr w', fun _ h => h, fun _ _ h k => h.trans k, fun w' hg => ⟨cellk cg hg, cellk cv hg⟩, fun _ h => h⟩
      refine wp_region_quietV C (by kernel_rfl) (by kernel_rfl) (hin _ (by with_reducible repeat (first | exact IsGr.refl _ | refine IsGr.gr ?_ _ _ | refine IsGr.alloc ?_ _ | refine IsGr.drew ?_ | refine IsGr.drewN ?_ _))) (fun K HK => ?_)
      refine QK.take HK ?_ (by rfl) ?_ ?_
      rotate_left
      · (intro w hw; (try have hcs := hcells w hw); (try go_split_ands); go_simp <;> with_reducible rfl)
      (try simp only [Act.put, List.setIfInBounds_toArray, List.set_cons_zero, List.set_cons_succ])
      refine QK.take HK ?_ (by rfl) ?_ ?_
      rotate_left
      · (intro w hw; (try have hcs := hcells w hw); (try go_split_ands); go_simp <;> with_reducible rfl)
      (try simp only [Act.put, List.setIfInBounds_toArray, List.set_cons_zero, List.set_cons_succ])
      refine QK.take HK ?_ (by rfl) ?_ ?_
      rotate_left
      · (intro w hw; (try have hcs := hcells w hw); (try go_split_ands); go_simp <;> with_reducible rfl)
      (try simp only [Act.put, List.setIfInBounds_toArray, List.set_cons_zero, List.set_cons_succ])
      refine QK.take HK ?_ (by rfl) ?_ ?_
      rotate_left
      · (intro w hw; (try have hcs := hcells w hw); (try go_split_ands); go_simp <;> with_reducible rfl)
      (try simp only [Act.put, List.setIfInBounds_toArray, List.set_cons_zero, List.set_cons_succ])
      refine QK.take HK ?_ (by rfl) ?_ ?_
      rotate_left
      · (intro w hw; (try have hcs := hcells w hw); (try go_split_ands); go_simp <;> with_reducible rfl)
      (try simp only [Act.put, List.setIfInBounds_toArray, List.set_cons_zero, List.set_cons_succ])
      refine QK.take HK ?_ (by rfl) ?_ ?_
      rotate_left
      · (intro w hw; (try have hcs := hcells w hw); (try go_split_ands); go_simp <;> with_reducible rfl)
      (try simp only [Act.put, List.setIfInBounds_toArray, List.set_cons_zero, List.set_cons_succ])
      refine QK.take HK ?_ (by rfl) ?_ ?_
      rotate_left
      · (intro w hw; (try have hcs := hcells w hw); (try go_split_ands); go_simp <;> with_reducible rfl)
      (try simp only [Act.put, List.setIfInBounds_toArray, List.set_cons_zero, List.set_cons_succ])
      refine QK.take HK ?_ (by rfl) ?_ ?_
      rotate_left
      · (intro w hw; (try have hcs := hcells w hw); (try go_split_ands); go_simp <;> with_reducible rfl)
      (try simp only [Act.put, List.setIfInBounds_toArray, List.set_cons_zero, List.set_cons_succ])
      refine QK.take HK ?_ (by rfl) ?_ ?_
      rotate_left
      · (intro w hw; (try have hcs := hcells w hw); (try go_split_ands); go_simp <;> with_reducible rfl)
      (try simp only [Act.put, List.setIfInBounds_toArray, List.set_cons_zero, List.set_cons_succ])
      refine QK.nil HK ?_
      clear HK K
      intro wq hq
      have HGq : Hid (IsGr w3 wq) := HG.out.trans (hgr wq hq)
      clear hq hgr hin hcl hcells C cg cv HG
      go_wp2_with fail
      go_roundg (n - (i + 1))
      case measure => omega
      case rel => exact ⟨i + 1, by omega, by simp, HGq.out⟩
    · have hin' : ¬ (i : Int) < n := by omega
      have HPw : Hid (Pl w t gu gz gm n x (.slice sa n sc) wr) := HP3.out.1.gr HG.out
      clear HP3 HG hi hin
      go_wp2_with fail
      refine (CW _).mono ?_
      rintro e w4 ⟨rfl, e4⟩
      obtain rfl := e4.symm
      have hzx : ∃ s, x.getD z 0 = s := ⟨_, rfl⟩
      obtain ⟨s, hs⟩ := hzx
      have HS : Hid (x.getD z 0 = s) := hs
      clear hs
      go_wp2_with fail
      go_loopg [12, 66] n (fun r p12 p66 w9 => w9 = wr ∧ ∃ i : Nat, i + r = n ∧ p66 = .int .i64 i ∧ ∃ q : Nat, p12 = .int .i64 q ∧ Hid (q = siz x s i) ∧ q ≤ i)
      case atStart => exact ⟨rfl, 0, by omega, rfl, 0, rfl, rfl, Nat.le_refl _⟩
      case round =>
        obtain ⟨hww, i, hi, rfl, q, rfl, HQ, hq⟩ := hrel
        obtain rfl := hww.symm
        by_cases hin : i < n
        · obtain ⟨ga, oa, rfl, -, hac, -, -, ca⟩ := HPw.out.rd.at hin
          obtain ⟨ga', oa', e9, -, -, -, -, cz⟩ := HPw.out.rd.at HZ.out
          cases e9
          rw [HS.out] at cz
          obtain ⟨y, hy⟩ : ∃ y, x.getD i 0 = y := ⟨_, rfl⟩
          have HY : Hid (x.getD i 0 = y) := hy
          rw [hy] at ca
          have hin' : (i : Int) < n := by omega
          have e1 : IntKind.i64.wrap ((i : Int) + 1) = (i : Int) + 1 := by rw [IntKind.wrap_i64]; omega
          have e2 : IntKind.i64.wrap ((q : Int) + 1) = (q : Int) + 1 := by rw [IntKind.wrap_i64]; omega
          clear hy
          by_cases hys : y = s
          · have hb : (y == s) = true := by simpa using hys
            have HC : Hid (y = s) := hys
            clear hys
            go_wp2_with fail
            go_roundg (n - (i + 1))
            case measure => omega
            case rel => exact ⟨rfl, i + 1, by omega, by simp, q + 1, by simp, by show _ = _; rw [siz, HY.out, if_pos HC.out, ← HQ.out], by omega⟩
          · have hb : (y == s) = false := by simpa using hys
            have HC : Hid (¬ y = s) := hys
            clear hys
            go_wp2_with fail
            go_roundg (n - (i + 1))
            case measure => omega
            case rel => exact ⟨rfl, i + 1, by omega, by simp, q, rfl, by show _ = _; rw [siz, HY.out, if_neg HC.out, ← HQ.out]; rfl, by omega⟩
        · have hin' : ¬ (i : Int) < n := by omega
          have CL := Least_yes z wr HPw.out.un (by have := HL.out; have := HZ.out; omega)
          rw [HS.out] at CL
          have hin2 : i = n := by omega
          have HQ2 : Hid (siz x s x.length = q) := by show _ = _; rw [HL.out.1, ← hin2]; exact HQ.out.symm
          clear hi hin hin2 hq HQ
          go_wp2_with fail
          refine CL.mono ?_
          clear CL
          rintro e w5 ⟨rfl, hg5⟩
          have HP5 : Hid (Pl w t gu gz gm n x (.slice sa n sc) w5) := HPw.out.gr hg5
          have CZ := Size_yes z w5 HP5.out.un (by have := HL.out; have := HZ.out; omega)
          rw [HS.out, HQ2.out] at CZ
          clear HPw hg5
          go_wp2_with fail
          refine (CW _).mono ?_
          rintro e w6 ⟨rfl, e6⟩
          obtain rfl := e6.symm
          go_wp2_with fail
          refine CZ.mono ?_
          clear CZ
          rintro e w6 ⟨rfl, hg6⟩
          have HP6 : Hid (Pl w t gu gz gm n x (.slice sa n sc) w6) := HP5.out.gr hg6
          obtain ⟨ga, oa, rfl, -, hac, -, -, cz⟩ := HP6.out.rd.at HZ.out
          rw [HS.out] at cz
          have CA := awake_any w6
          clear HP5 hg6
          go_wp2_with fail
          refine CA.mono ?_
          clear CA
          rintro e w7 ⟨rfl, hb7⟩
          go_wp2_with fail
          go_ret
          exact ⟨rfl, HP6.out.bel.trans (hb7.mono HP6.out.bel.size)⟩

set_option maxRecDepth 20000 in set_option maxHeartbeats 2000000 in
theorem law_numbers_out (n : Nat) (a : Option Addr) (m c : Nat) (l : List (Int × Int)) (z : Int) (hz : wth z n = false) (w : World) (h : Ops w a m l) (hn : n ≤ 60) (hm : m ≤ 80) : Calls Try.prog 5 #[.int .i64 n, .slice a m c, .int .i64 z] w fun e w' => e = .returned (.bool true) ∧ Below w.heap.size w w' := by
  have q0 : ¬ (n : Int) < 0 := by omega
  have q1 : ¬ (60 : Int) < n := by omega
  have q2 : ¬ (80 : Int) < m := by omega
  have q3 : (n : Int) ≤ 60 := by omega
  have CM := made_any n a m c l w h hn hm
  have CW := fun w => within_any z (n : Int) w
  rw [hz] at CW
  have HZ : Hid (wth z n = false) := hz
  clear h
  go_enter Try.func5, Try.ntmps5
  go_wp2_with fail
  refine CM.mono ?_
  clear CM
  rintro e w1 ⟨t, sa, sc, rfl, gu, gz, gm, x, hP⟩
  have C1 := Numbers_any w1 hP.un
  have HP : Hid (Pl w t gu gz gm n x (.slice sa n sc) w1) := hP
  clear hP
  go_wp2_with fail
  refine C1.mono ?_
  clear C1
  rintro e w2 ⟨g, rfl, hr2, hg2, hb2⟩
  have HP2 : Hid (Pl w t gu gz gm n x (.slice sa n sc) w2 ∧ Row w2 g (nums x)) := ⟨HP.out.below hb2, hr2⟩
  have C2 := RNumbers_any _ x w2 HP2.out.1.rd HP2.out.1.un.lea (by rw [HP2.out.1.len]; omega)
  have hlen := HP2.out.1.len
  rw [hlen]
  clear HP hr2 hg2 hb2
  go_wp2_with fail
  refine C2.mono ?_
  clear C2
  rintro e w3 ⟨v3, rfl, hl3, hb3⟩
  obtain ⟨va, vc, rfl, -⟩ := hl3.form
  have hP3 := HP2.out.1.below hb3
  have HP3 : Hid (Pl w t gu gz gm n x (.slice sa n sc) w3 ∧ Row w3 g (nums x) ∧ Rd w3 (.slice va (nums x).length vc) (nums x)) := ⟨hP3, HP2.out.2.below hb3, Rd.of_lst hl3 (cntU_ints x hP3.un.max hP3.un.lea)⟩
  rw [nums_len, hlen] at HP3 ⊢
  have HL : Hid (x.length = n ∧ (nums x).length = n) := ⟨hlen, by rw [nums_len]; exact hlen⟩
  clear HP2 hl3 hb3 hP3 hlen
  go_wp2_with fail
  go_loopg [48] n (fun r p48 wr => ∃ i : Nat, i + r = n ∧ p48 = .int .i64 i ∧ Hid (IsGr w3 wr))
  case atStart => exact ⟨0, by omega, rfl, IsGr.refl _⟩
  case round =>
    obtain ⟨i, hi, rfl, HG⟩ := hrel
    by_cases hin : i < n
    · have cg := (HP3.out.2.1.gr HG.out).cell (i := i) (by have := HL.out.2; omega)
      obtain ⟨gv, ov, rfl, -, hvc, -, -, cv⟩ := (HP3.out.2.2.gr HG.out).at hin
      obtain ⟨p, hp⟩ : ∃ p, (nums x).getD i 0 = p := ⟨_, rfl⟩
      rw [hp] at cg cv
      have hin' : (i : Int) < n := by omega
      have e1 : IntKind.i64.wrap ((i : Int) + 1) = (i : Int) + 1 := by rw [IntKind.wrap_i64]; omega
      clear hp hvc
      go_upto_region 12 with fail
      obtain ⟨C, hin, hcl, hcells, hgr⟩ : ∃ C : World → Prop, (∀ w', IsGr wr w' → C w') ∧ (∀ u u', C u → IsGr u u' → C u') ∧ (∀ w', C w' → (w'.cell? ⟨g, i, none⟩ = some (.int .i64 p)) ∧ (w'.cell? ⟨gv, ov + i, none⟩ = some (.int .i64 p))) ∧ (∀ w', C w' → IsGr wr w') := ⟨fun w' => IsGr wr w', fun _ h => h, fun _ _ h k => h.trans k, fun w' hg => ⟨cellk cg hg, cellk cv hg⟩, fun _ h => h⟩
      refine wp_region_quietV C (by kernel_rfl) (by kernel_rfl) (hin _ (by with_reducible repeat (first | exact IsGr.refl _ | refine IsGr.gr ?_ _ _ | refine IsGr.alloc ?_ _ | refine IsGr.drew ?_ | refine IsGr.drewN ?_ _))) (fun K HK => ?_)
      refine QK.take HK ?_ (by rfl) ?_ ?_
      rotate_left
      · (intro w hw; (try have hcs := hcells w hw); (try go_split_ands); go_simp <;> with_reducible rfl)
      (try simp only [Act.put, List.setIfInBounds_toArray, List.set_cons_zero, List.set_cons_succ])
      refine QK.take HK ?_ (by rfl) ?_ ?_
      rotate_left
      · (intro w hw; (try have hcs := hcells w hw); (try go_split_ands); go_simp <;> with_reducible rfl)
      (try simp only [Act.put, List.setIfInBounds_toArray, List.set_cons_zero, List.set_cons_succ])
      refine QK.take HK ?_ (by rfl) ?_ ?_
      rotate_left
      · (intro w hw; (try have hcs := hcells w hw); (try go_split_ands); go_simp <;> with_reducible rfl)
      (try simp only [Act.put, List.setIfInBounds_toArray, List.set_cons_zero, List.set_cons_succ])
      refine QK.take HK ?_ (by rfl) ?_ ?_
      rotate_left
      · (intro w hw; (try have hcs := hcells w hw); (try go_split_ands); go_simp <;> with_reducible rfl)
      (try simp only [Act.put, List.setIfInBounds_toArray, List.set_cons_zero, List.set_cons_succ])
      refine QK.take HK ?_ (by rfl) ?_ ?_
      rotate_left
      · (intro w hw; (try have hcs := hcells w hw); (try go_split_ands); go_simp <;> with_reducible rfl)
      (try simp only [Act.put, List.setIfInBounds_toArray, List.set_cons_zero, List.set_cons_succ])
      refine QK.take HK ?_ (by rfl) ?_ ?_
      rotate_left
      · (intro w hw; (try have hcs := hcells w hw); (try go_split_ands); go_simp <;> with_reducible rfl)
      (try simp only [Act.put, List.setIfInBounds_toArray, List.set_cons_zero, List.set_cons_succ])
      refine QK.take HK ?_ (by rfl) ?_ ?_
      rotate_left
      · (intro w hw; (try have hcs := hcells w hw); (try go_split_ands); go_simp <;> with_reducible rfl)
      (try simp only [Act.put, List.setIfInBounds_toArray, List.set_cons_zero, List.set_cons_succ])
      refine QK.take HK ?_ (by rfl) ?_ ?_
      rotate_left
      · (intro w hw; (try have hcs := hcells w hw); (try go_split_ands); go_simp <;> with_reducible rfl)
      (try simp only [Act.put, List.setIfInBounds_toArray, List.set_cons_zero, List.set_cons_succ])
      refine QK.take HK ?_ (by rfl) ?_ ?_
      rotate_left
      · (intro w hw; (try have hcs := hcells w hw); (try go_split_ands); go_simp <;> with_reducible rfl)
      (try simp only [Act.put, List.setIfInBounds_toArray, List.set_cons_zero, List.set_cons_succ])
      refine QK.nil HK ?_
      clear HK K
      intro wq hq
      have HGq : Hid (IsGr w3 wq) := HG.out.trans (hgr wq hq)
      clear hq hgr hin hcl hcells C cg cv HG
      go_wp2_with fail
      go_roundg (n - (i + 1))
      case measure => omega
      case rel => exact ⟨i + 1, by omega, by simp, HGq.out⟩
    · have hin' : ¬ (i : Int) < n := by omega
      have HPw : Hid (Pl w t gu gz gm n x (.slice sa n sc) wr) := HP3.out.1.gr HG.out
      clear HP3 HG hi hin
      go_wp2_with fail
      refine (CW _).mono ?_
      rintro e w4 ⟨rfl, e4⟩
      obtain rfl := e4.symm
      have CL := Least_no z wr HPw.out.un.sb (by rw [HL.out.1]; exact HZ.out)
      have CZ := Size_no z wr HPw.out.un.sb (by rw [HL.out.1]; exact HZ.out)
      have CA := awake_any wr
      go_wp2_with fail
      refine CL.mono ?_
      clear CL
      rintro e w5 ⟨rfl, e5⟩
      obtain rfl := e5.symm
      go_wp2_with fail
      refine (CW _).mono ?_
      rintro e w6 ⟨rfl, e6⟩
      obtain rfl := e6.symm
      go_wp2_with fail
      refine CZ.mono ?_
      clear CZ
      rintro e w6 ⟨rfl, e6⟩
      obtain rfl := e6.symm
      go_wp2_with fail
      refine CA.mono ?_
      clear CA
      rintro e w7 ⟨rfl, hb7⟩
      go_wp2_with fail
      go_ret
      exact ⟨rfl, HPw.out.bel.trans (hb7.mono HPw.out.bel.size)⟩
theorem law_numbers (k : Int) (a : Option Addr) (m c : Nat) (l : List (Int × Int)) (z : Int) (_ : -9223372036854775808 ≤ k) (_ : k < 9223372036854775808) (_ : -9223372036854775808 ≤ z) (_ : z < 9223372036854775808) (w : World) (h : Ops w a m l) :
    Calls Try.prog 5 #[.int .i64 k, .slice a m c, .int .i64 z] w fun e w' => e = .returned (.bool true) ∧ Below w.heap.size w w' := by
  by_cases hk : 0 ≤ k ∧ k ≤ 60 ∧ m ≤ 80
  · have e : ((k.toNat : Nat) : Int) = k := by omega
    cases hz : wth z k.toNat with
    | true =>
      obtain ⟨i, rfl, hi⟩ := wth_out hz
      have h1 := law_numbers_in k.toNat a m c l i hi w h (by omega) hk.2.2
      rw [e] at h1
      exact h1
    | false =>
      have h1 := law_numbers_out k.toNat a m c l z hz w h (by omega) hk.2.2
      rw [e] at h1
      exact h1
  · exact law_numbers_many k a m c z w hk
end Go.Proofs.Ytchbnkapajnjgaa
