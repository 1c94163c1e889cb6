/- gromalaw10.divides, walked. -/
import Derived.Test.YtfpifbfnebfdaaaDoorI5
namespace Go.Proofs.YtfpifbfnebfdaaaDoor
open Go.RowKit Go.Shelf
attribute [local go_sem] Gr.size Gr.cell? Gr.frozen? Gr.setCell Gr.drew Gr.drewN Gr.of_drew Gr.of_drewN Gr.gr Gr.lt_of1 Gr.le_of1 Gr.lt_of2 Gr.le_of2 Gr.lt_of3 Gr.le_of3 Gr.lt_of4 Gr.le_of4 Gr.lt_of5 Gr.le_of5 Gr.lt_of6 Gr.le_of6 Gr.lt_of7 Gr.le_of7 Gr.lt_of8 Gr.le_of8 Gr.lt_of9 Gr.le_of9 Gr.lt_of10 Gr.le_of10 Gr.lt_of11 Gr.le_of11 Gr.lt_of12 Gr.le_of12 Gr.lt_of13 Gr.le_of13 Gr.lt_of14 Gr.le_of14 Gr.lt_of15 Gr.le_of15 Gr.lt_of16 Gr.le_of16 Gr.lt_of17 Gr.le_of17 Gr.lt_of18 Gr.le_of18 Gr.lt_of19 Gr.le_of19 Gr.lt_of20 Gr.le_of20 Gr.lt_of21 Gr.le_of21 Gr.lt_of22 Gr.le_of22 Gr.lt_of23 Gr.le_of23 Gr.lt_of24 Gr.le_of24
theorem big_175 {z : Int} (h : -(2 * 10 ^ 175) ≤ z ∧ z ≤ 2 * 10 ^ 175) : Sm z := by
  have h3 : 2 * (10 : Int) ^ 175 ≤ 4149515568880992958512407863691161151012446232242436899995657329690652811412908146399707048947103794288197886611300789182395151075411775307886874834113963687061181803401509523685376 := by decide +kernel
  unfold Sm; omega
theorem cmp_le (a b : Int) : decide (cmpI a b ≤ 0) = decide (a ≤ b) := by
  rw [decide_eq_decide]; unfold cmpI
  repeat' split
  all_goals omega
theorem bw_eta (s : Bool) (a : Option Addr) (n c : Nat) : bwV (s, a, n, c) = .agg #[.bool s, .slice a n c] := rfl

set_option maxRecDepth 20000 in set_option maxHeartbeats 2000000 in
theorem divides_pos (u v : Value) (x0 y : Int) (w : World) (bb : Bool) (hu : IsBig w u x0) (hv : IsBig w v y) (hx0 : 0 ≤ x0) (hx : x0 ≤ 10 ^ 175) (hy0 : 0 < y) (hy : y ≤ 10 ^ 175) (hbb : decide (x0 % y = 0) = bb) :
    Calls Tryd.prog 16 #[u, v] w fun e w' => e = .returned (.bool bb) ∧ IsGr w w' := by
  obtain ⟨xs, xa, xn, xc, rfl⟩ := hu.shape
  obtain ⟨ys, ya, yn, yc, rfl⟩ := hv.shape
  have sx0 : Sm x0 := big_175 (by omega)
  have sy : Sm y := big_175 (by omega)
  have CS := fun w h => BigSign_any (.agg #[.bool xs, .slice xa xn xc]) x0 w h sx0
  have hsg : decide (cmpI x0 0 < 0) = false := decide_eq_false (by unfold cmpI; repeat' split <;> omega)
  have hI0 : DvI w x0 y (.slice none 0 0) [] ((w.alloc (.cells #[.bool xs, .slice xa xn xc] 29)).alloc (.cells #[.bool ys, .slice ya yn yc] 29)) := by
    have g1 := (IsGr.refl w).alloc (.cells #[.bool xs, .slice xa xn xc] 29)
    have g2 := (IsGr.refl (w.alloc (.cells #[.bool xs, .slice xa xn xc] 29))).alloc (.cells #[.bool ys, .slice ya yn yc] 29)
    refine ⟨(BgB.new hu).gr g2, ?_, LsB.nil _ _, fun g e => (by cases e), fun i hi => (by simp at hi), (g1.trans g2).below⟩
    have := BgB.new (hv.gr g1)
    simpa using this
  have hux := hu.gr (((IsGr.refl w).alloc (.cells #[.bool xs, .slice xa xn xc] 29)).alloc (.cells #[.bool ys, .slice ya yn yc] 29))
  have HBB : Hid (decide (x0 % y = 0) = bb) := hbb
  have HX0 : Hid (0 ≤ x0 ∧ x0 ≤ 10 ^ 175 ∧ 0 < y ∧ y ≤ 10 ^ 175) := ⟨hx0, hx, hy0, hy⟩
  clear hx0 hx hy0 hy hu hv hbb
  go_enter Tryd.func16, Tryd.ntmps16
  go_wp2_with fail
  refine (CS _ hux).mono ?_
  clear CS hux
  rintro e w1 ⟨rfl, hg1⟩
  have hI1 := hI0.gr hg1
  obtain ⟨x, hx⟩ : ∃ x, x0 = x := ⟨_, rfl⟩
  rw [hx] at hI1 HBB
  have HX : Hid (0 ≤ x ∧ x ≤ 10 ^ 175 ∧ 0 < y ∧ y ≤ 10 ^ 175) := hx ▸ HX0.out
  have sx : Sm x := hx ▸ sx0
  clear hx hI0 hg1 sx0
  go_upto_region 3 with fail
  obtain ⟨y1s, y1a, y1n, y1c, hyb, hyB⟩ := hI1.bs
  obtain ⟨c0, c1, f0, f1⟩ := block_two hyb
  have HI1 : Hid (DvI w x y (.slice none 0 0) [] (w1.alloc (.cells #[.bool y1s, .slice y1a y1n y1c] 29)) ∧ BgB (w1.alloc (.cells #[.bool y1s, .slice y1a y1n y1c] 29)) w1.heap.size (y * 2 ^ 0) ∧ w.heap.size + 2 ≤ w1.heap.size) := by
    refine ⟨hI1.gr ((IsGr.refl w1).alloc _), ?_, ?_⟩
    · rw [Int.pow_zero, Int.mul_one]; exact BgB.new hyB
    · have := hI1.bs.lt; omega
  clear hI1 hyb hyB
  go_wp2_with fail
  obtain ⟨P0, hP0⟩ : ∃ P, w1.heap.size = P := ⟨_, rfl⟩
  rw [hP0] at HI1 ⊢
  clear hP0 c0 c1 f0 f1
  go_loopg [5, 6] 600 (fun r p5 p6 wr => ∃ (k P : Nat) (va : Option Addr) (vc : Nat) (vs : List Bw), k + r = 600 ∧ p6 = .pointer (some ⟨P, 0, none⟩) ∧ p5 = .slice va k vc ∧ Hid (vs.length = k ∧ DvI w x y (.slice va k vc) vs wr ∧ BgB wr P (y * 2 ^ k) ∧ w.heap.size + 2 ≤ P ∧ (∀ g, (Value.slice va k vc).ownBlock = some g → g ≠ P) ∧ y * 2 ^ k ≤ 2 * 10 ^ 175))
  case atStart => exact ⟨0, P0, none, 0, [], by omega, rfl, rfl, rfl, HI1.out.1, HI1.out.2.1, HI1.out.2.2, fun g e => (by cases e), by rw [Int.pow_zero]; have := HX.out; omega⟩
  case round =>
    obtain ⟨k, P, va, vc, vs, hk, rfl, rfl, HR⟩ := hrel
    obtain ⟨ds, da, dn, dc, hdb, hdB⟩ := HR.out.2.2.1
    obtain ⟨es, ea, en, ec, heb, heB⟩ := HR.out.2.1.bx
    obtain ⟨c0, c1, f0, f1⟩ := block_two hdb
    obtain ⟨d0, d1, g0, g1⟩ := block_two heb
    have hpos : 0 ≤ y * 2 ^ k := Int.mul_nonneg (by have := HX.out; omega) (Int.le_of_lt (Int.pow_pos (by omega)))
    have sd : Sm (y * 2 ^ k) := big_175 ⟨by omega, HR.out.2.2.2.2.2⟩
    have CC := fun w h1 h2 => BigCmp_any (.agg #[.bool ds, .slice da dn dc]) (.agg #[.bool es, .slice ea en ec]) (y * 2 ^ k) x w h1 h2 sd sx
    have hcl := cmp_le (y * 2 ^ k) x
    have HD : Hid (IsBig wr (.agg #[.bool ds, .slice da dn dc]) (y * 2 ^ k) ∧ wr.heap[P]? = some (.cells #[.bool ds, .slice da dn dc] 29 (0, 0))) := ⟨hdB, hdb⟩
    clear hdb heb
    go_wp2_with fail
    refine (CC _ hdB heB).mono ?_
    clear CC hdB heB
    rintro e w2 ⟨rfl, hg2⟩
    by_cases hle : y * 2 ^ k ≤ x
    · have hle2 : cmpI (y * 2 ^ k) x ≤ 0 := by rw [decide_eq_true hle, decide_eq_true_eq] at hcl; exact hcl
      have hk6 := dbl_lt HX.out.2.2.1 HX.out.2.1 hle
      obtain ⟨cm, hcm⟩ : ∃ z, cmpI (y * 2 ^ k) x = z := ⟨_, rfl⟩
      rw [hcm] at hle2 ⊢
      have HLE : Hid (y * 2 ^ k ≤ x ∧ k < 600 ∧ y * 2 ^ k + y * 2 ^ k ≤ 2 * 10 ^ 175) := ⟨hle, hk6, by have := HX.out; omega⟩
      have q0 := cellk c0 hg2
      have q1 := cellk c1 hg2
      have HI2 := HR.out.2.1.gr hg2
      have HP2 := HR.out.2.2.1.gr hg2
      have hl1 := HI2.ls.gr ((IsGr.refl w2).alloc (.cells #[.bool ds, .slice da dn dc] 29))
      have hn1 := HI2.ni.keep (W' := w2.alloc (.cells #[.bool ds, .slice da dn dc] 29)) (fun g e => Below.heap_alloc _ _ _ (HI2.ls.own g e).2)
      have HB : Hid (vs.length ≤ 1000000 ∧ w.heap.size + 2 ≤ (w2.alloc (.cells #[.bool ds, .slice da dn dc] 29)).heap.size) := ⟨by have := HR.out.1; omega, by have := HP2.lt; have := HR.out.2.2.2.1; simp; omega⟩
      have HA : Hid (DvI w x y (.slice va k vc) vs w2 ∧ BgB w2 P (y * 2 ^ k) ∧ IsBig w2 (.agg #[.bool ds, .slice da dn dc]) (y * 2 ^ k)) := ⟨HI2, HP2, HD.out.1.gr hg2⟩
      have hpb := (hg2.below.block P (Array.getElem?_eq_some_iff.1 HD.out.2).1).trans HD.out.2
      have HPB : Hid (w2.heap[P]? = some (.cells #[.bool ds, .slice da dn dc] 29 (0, 0))) := hpb
      have CA := fun w h1 h2 => BigAdd_any (.agg #[.bool ds, .slice da dn dc]) (.agg #[.bool ds, .slice da dn dc]) (y * 2 ^ k) (y * 2 ^ k) w h1 h2 sd sd
      clear hle hcm hcl hk6 HI2 HP2 c0 c1 f0 f1 d0 d1 g0 g1 hg2 hpb
      go_wp2_with (at_builtin; refine wpList_append_big rfl _ _ rfl (w.heap.size + 2) (.slice va k vc) vs (ds, da, dn, dc) w2.heap.size 1 rfl rfl hl1 hn1 (by simp [go_sem]) (by simp [go_sem]) HB.out.1 HB.out.2 ?_; intro v9 w9 h9 i9 g9; obtain ⟨hI9, hP9⟩ := dv_app HA.out.1 HA.out.2.1 HR.out.2.2.2.2.1 (by rw [HR.out.1, bw_eta]; exact HA.out.2.2) ((IsGr.refl w2).alloc (.cells #[.bool ds, .slice da dn dc] 29)) h9 i9 g9; obtain ⟨va9, vc9, e9, -⟩ := h9.form; rw [List.length_append, HR.out.1, List.length_cons, List.length_nil, Nat.zero_add] at e9; subst e9; have hp9 : w9.heap[P]? = some (.cells #[.bool ds, .slice da dn dc] 29 (0, 0)) := ((g9.block P (by have := (Array.getElem?_eq_some_iff.1 HPB.out).1; simp; omega) (fun e => HR.out.2.2.2.2.1 _ e.symm rfl)).trans (Below.heap_alloc _ _ _ (Array.getElem?_eq_some_iff.1 HPB.out).1)).trans HPB.out; obtain ⟨r0, r1, -, -⟩ := block_two hp9; have HI9 : Hid (DvI w x y (.slice va9 (k + 1) vc9) (vs ++ [(ds, da, dn, dc)]) w9 ∧ w9.heap[P]? = some (.cells #[.bool ds, .slice da dn dc] 29 (0, 0)) ∧ BgB w9 P (y * 2 ^ k)) := ⟨hI9, hp9, hP9⟩; clear hI9 hP9 h9 i9 g9 hp9 q0 q1 hl1 hn1)
      have hB9 : IsBig (w9.alloc (.cells #[.bool ds, .slice da dn dc] 29)) (.agg #[.bool ds, .slice da dn dc]) (y * 2 ^ k) := (HI9.out.2.2.at HI9.out.2.1).gr ((IsGr.refl w9).alloc _)
      have hPn : BgB (w9.alloc (.cells #[.bool ds, .slice da dn dc] 29)) w9.heap.size (y * 2 ^ k) := BgB.new (HI9.out.2.2.at HI9.out.2.1)
      refine (CA _ hB9 hB9).mono ?_
      clear CA
      rintro e w10 ⟨R, rfl, hR, hg10⟩
      obtain ⟨Rs, Ra, Rn, Rc, rfl⟩ := hR.shape
      have hP10 := hPn.gr hg10
      have hI10 := HI9.out.1.gr (((IsGr.refl w9).alloc (.cells #[.bool ds, .slice da dn dc] 29)).trans hg10)
      have hown9 : ∀ g, (Value.slice va9 (k + 1) vc9).ownBlock = some g → g ≠ w9.heap.size := fun g e => by have := (HI9.out.1.ls.own g e).2; omega
      have hlo9 : w.heap.size + 2 ≤ w9.heap.size := by have := HI9.out.1.bs.lt; omega
      obtain ⟨p0s, p0a, p0n, p0c, hpb, -⟩ := hP10
      have hP10 := hPn.gr hg10
      obtain ⟨s0, s1, s2, s3⟩ := block_two hpb
      have e2k : y * 2 ^ k + y * 2 ^ k = y * 2 ^ (k + 1) := by rw [Int.pow_succ, ← Int.mul_assoc]; omega
      rw [e2k] at hR
      obtain ⟨hIF, hPF⟩ := dv_put hI10 hP10 hlo9 hown9 hR
      have HF : Hid (DvI w x y (.slice va9 (k + 1) vc9) (vs ++ [(ds, da, dn, dc)]) ((w10.setCell ⟨w9.heap.size, 0, none⟩ (.bool Rs)).setCell ⟨w9.heap.size, 1, none⟩ (.slice Ra Rn Rc)) ∧ BgB ((w10.setCell ⟨w9.heap.size, 0, none⟩ (.bool Rs)).setCell ⟨w9.heap.size, 1, none⟩ (.slice Ra Rn Rc)) w9.heap.size (y * 2 ^ (k + 1)) ∧ w.heap.size + 2 ≤ w9.heap.size ∧ (∀ g, (Value.slice va9 (k + 1) vc9).ownBlock = some g → g ≠ w9.heap.size) ∧ y * 2 ^ (k + 1) ≤ 2 * 10 ^ 175) := ⟨hIF, hPF, hlo9, hown9, by rw [← e2k]; exact HLE.out.2.2⟩
      clear hIF hPF hR hP10 hI10 hown9 hlo9 hpb e2k hPn hB9 hg10 r0 r1
      go_wp2_with fail
      go_roundg (600 - (k + 1))
      case measure => have := HLE.out; omega
      case rel => exact ⟨k + 1, w9.heap.size, va9, vc9, vs ++ [(ds, da, dn, dc)], by have := HLE.out; omega, rfl, rfl, by rw [List.length_append, HR.out.1]; rfl, HF.out⟩
    · have hle2 : ¬ cmpI (y * 2 ^ k) x ≤ 0 := by rw [decide_eq_false hle, decide_eq_false_iff_not] at hcl; exact hcl
      obtain ⟨cm, hcm⟩ : ∃ z, cmpI (y * 2 ^ k) x = z := ⟨_, rfl⟩
      rw [hcm] at hle2 ⊢
      have HRM : Hid (RmI x y k x ∧ vs.length = k ∧ DvI w x y (.slice va k vc) vs w2 ∧ k ≤ 600) := ⟨RmI.start HX.out.1 HX.out.2.1 HX.out.2.2.1 hle HR.out.2.2.2.2.2, HR.out.1, HR.out.2.1.gr hg2, by omega⟩
      have hk1 : IntKind.i64.wrap ((k : Int) - 1) = (k : Int) - 1 := by rw [IntKind.wrap_i64]; have := HRM.out.2.2.2; omega
      clear hle hcm hcl hg2 c0 c1 f0 f1 d0 d1 g0 g1 HR HD
      go_wp2_with fail
      go_loopg [7] k (fun r p7 wr => ∃ (j : Nat) (z q : Int), j = r ∧ j ≤ k ∧ q + 1 = (j : Int) ∧ p7 = .int .i64 q ∧ Hid (RmI x y j z ∧ DvI w z y (.slice va k vc) vs wr))
      case atStart => exact ⟨k, x, _, rfl, Nat.le_refl _, by omega, rfl, HRM.out.1, HRM.out.2.2.1⟩
      case round =>
        obtain ⟨j, z, q, hj, hjk, hq, rfl, HR⟩ := hrel
        have hzb : 0 ≤ z ∧ z ≤ 2 * 10 ^ 175 := ⟨HR.out.1.1, HR.out.1.2.2.1.1⟩
        have sz : Sm z := big_175 (by omega)
        cases j with
        | zero =>
          obtain rfl : q = -1 := by omega
          obtain ⟨zs, za, zn, zc, hzb, hzB⟩ := HR.out.2.bx
          obtain ⟨c0, c1, f0, f1⟩ := block_two hzb
          have CS := BigSign_any _ z wr hzB sz
          have HF : Hid ((cmpI z 0 == 0) = bb ∧ Below w.heap.size w wr) := ⟨HR.out.1.fin.trans HBB.out, HR.out.2.bel⟩
          clear hzb hzB hj hq
          go_wp2_with fail
          refine CS.mono ?_
          clear CS
          rintro e w3 ⟨rfl, hg3⟩
          have HG : Hid (IsGr w w3) := (IsGr.of_below HF.out.2).trans hg3
          obtain ⟨cm, hcm⟩ : ∃ m, cmpI z 0 = m := ⟨_, rfl⟩
          have HC : Hid ((cm == 0) = bb) := by show _ = _; rw [← hcm]; exact HF.out.1
          rw [hcm]
          clear hcm hg3
          go_wp2_with fail
          go_ret
          exact ⟨congrArg (fun z => Ending.returned (.bool z)) HC.out, HG.out⟩
        | succ i =>
          obtain rfl : q = (i : Int) := by omega
          have hik : i < k := by omega
          obtain ⟨va', vc', e1, hf⟩ := HR.out.2.ls.form
          rw [HRM.out.2.1] at e1 hf
          injection e1 with e1a e1b e1c
          subst e1a
          rcases hf with ⟨h, -⟩ | ⟨g, rfl, -, hgw, hc⟩
          · exfalso
            have := congrArg List.length h
            rw [HRM.out.2.1] at this
            simp at this
            omega
          obtain ⟨t0, t1⟩ := hc i hik
          have hbi := HR.out.2.bg i (by rw [HRM.out.2.1]; exact hik)
          obtain ⟨⟨ts, ta, tn, tc⟩, ht⟩ : ∃ t, vs.getD i bw0 = t := ⟨_, rfl⟩
          rw [ht] at t0 t1 hbi
          simp only at t0 t1
          rw [bw_eta] at hbi
          obtain ⟨zs, za, zn, zc, hxb, hxB⟩ := HR.out.2.bx
          obtain ⟨c0, c1, f0, f1⟩ := block_two hxb
          have hyi : 0 ≤ y * 2 ^ i ∧ y * 2 ^ i ≤ 2 * 10 ^ 175 := ⟨Int.mul_nonneg (by have := HX.out; omega) (Int.le_of_lt (Int.pow_pos (by omega))), HR.out.1.2.2.1.2 i (by omega)⟩
          have si : Sm (y * 2 ^ i) := big_175 (by omega)
          have HT : Hid (IsBig wr (.agg #[.bool ts, .slice ta tn tc]) (y * 2 ^ i) ∧ IsBig wr (.agg #[.bool zs, .slice za zn zc]) z ∧ wr.heap[w.heap.size]? = some (.cells #[.bool zs, .slice za zn zc] 29 (0, 0))) := ⟨hbi, hxB, hxb⟩
          have e7 : IntKind.i64.wrap ((i : Int) - 1) = (i : Int) - 1 := by rw [IntKind.wrap_i64]; have := HRM.out.2.2.2; omega
          have hik' : (i : Int) < k := by omega
          have hcl := cmp_le (y * 2 ^ i) z
          have HCL : Hid (decide (cmpI (y * 2 ^ i) z ≤ 0) = decide (y * 2 ^ i ≤ z)) := hcl
          have HJ : Hid (_ = _) := hj
          clear e1b e1c hbi ht hxb hxB hzb hyi hgw hc hcl hj hq hik
          go_upto_region 13 with fail
          obtain ⟨C, hin, hcl, hcells, hgr⟩ : ∃ C : World → Prop, (∀ w', IsGr wr w' → C w') ∧ (∀ u u', C u → IsGr u u' → C u') ∧ (∀ w', C w' → (w'.cell? ⟨g, i * 2, none⟩ = some (.bool ts)) ∧ (w'.cell? ⟨g, i * 2 + 1, none⟩ = some (.slice ta tn tc)) ∧ (w'.cell? ⟨w.heap.size, 0, none⟩ = some (.bool zs)) ∧ (w'.cell? ⟨w.heap.size, 1, none⟩ = some (.slice za zn zc)) ∧ (w'.frozen? ⟨w.heap.size, 0, none⟩ = false) ∧ (w'.frozen? ⟨w.heap.size, 1, none⟩ = false)) ∧ (∀ w', C w' → IsGr wr w') := ⟨fun w' => IsGr wr w', fun _ h => h, fun _ _ h k => h.trans k, fun w' hg => ⟨cellk t0 hg, cellk t1 hg, cellk c0 hg, cellk c1 hg, frzk c0 f0 hg, frzk c1 f1 hg⟩, fun _ h => h⟩
          refine wp_region_held_drew (S := C) (by kernel_rfl) (by (try dsimp only); exact hin _ (by with_reducible repeat (first | exact IsGr.refl _ | refine IsGr.gr ?_ _ _ | refine IsGr.alloc ?_ _ | refine IsGr.drew ?_ | refine IsGr.drewN ?_ _))) (fun hHeld => ?_)
          refine wpAnyH_take (i := 0) (oi := { dst := some 33, op := Op.move (Operand.tmp 5), type := 55, pos := "law.go:82", after := #[], guard := none }) (v := ?_) rfl (by kernel_rfl) (by kernel_rfl) (by kernel_rfl) (fun _ _ _ h => h) (Or.inl ⟨by rfl, ?_⟩) (by assumption) ?_
          rotate_left
          · (intro w hSw; (try dsimp only at hSw); (try have hcs := hcells w hSw); (try go_split_ands); go_simp <;> with_reducible rfl)
          (try simp only [Act.put, List.setIfInBounds_toArray, List.set_cons_zero, List.set_cons_succ])
          refine wpAnyH_take (i := 1) (oi := { dst := some 34, op := Op.move (Operand.tmp 7), type := 3, pos := "law.go:82", after := #[], guard := none }) (v := ?_) rfl (by kernel_rfl) (by kernel_rfl) (by kernel_rfl) (fun _ _ _ h => h) (Or.inl ⟨by rfl, ?_⟩) (by assumption) ?_
          rotate_left
          · (intro w hSw; (try dsimp only at hSw); (try have hcs := hcells w hSw); (try go_split_ands); go_simp <;> with_reducible rfl)
          (try simp only [Act.put, List.setIfInBounds_toArray, List.set_cons_zero, List.set_cons_succ])
          refine wpAnyH_take (i := 2) (oi := { dst := some 35, op := Op.indexAddr 55 (Operand.tmp 33) (Operand.tmp 34), type := 0, pos := "law.go:82", after := #[{ on := 0, ground := Ground.data }, { on := 1, ground := Ground.data }], guard := none }) (v := ?_) rfl (by kernel_rfl) (by kernel_rfl) (by kernel_rfl) (fun _ _ _ h => h) (Or.inl ⟨by rfl, ?_⟩) (by assumption) ?_
          rotate_left
          · (intro w hSw; (try dsimp only at hSw); (try have hcs := hcells w hSw); (try go_split_ands); go_simp <;> with_reducible rfl)
          (try simp only [Act.put, List.setIfInBounds_toArray, List.set_cons_zero, List.set_cons_succ])
          refine wpAnyH_take (i := 3) (oi := { dst := some 36, op := Op.load 29 (Operand.tmp 35), type := 29, pos := "law.go:82", after := #[{ on := 2, ground := Ground.data }], guard := none }) (v := ?_) rfl (by kernel_rfl) (by kernel_rfl) (by kernel_rfl) (fun _ _ _ h => h) (Or.inl ⟨by rfl, ?_⟩) (by assumption) ?_
          rotate_left
          · (intro w hSw; (try dsimp only at hSw); (try have hcs := hcells w hSw); (try go_split_ands); go_simp <;> with_reducible rfl)
          (try simp only [Act.put, List.setIfInBounds_toArray, List.set_cons_zero, List.set_cons_succ])
          refine wpAnyH_take (i := 4) (oi := { dst := some 37, op := Op.load 29 (Operand.tmp 2), type := 29, pos := "law.go:82", after := #[], guard := none }) (v := ?_) rfl (by kernel_rfl) (by kernel_rfl) (by kernel_rfl) (fun _ _ _ h => h) (Or.inl ⟨by rfl, ?_⟩) (by assumption) ?_
          rotate_left
          · (intro w hSw; (try dsimp only at hSw); (try have hcs := hcells w hSw); (try go_split_ands); go_simp <;> with_reducible rfl)
          (try simp only [Act.put, List.setIfInBounds_toArray, List.set_cons_zero, List.set_cons_succ])
          refine wpAnyH_ready (rs := [5]) (by kernel_rfl) (by simp) ?_
          refine AllReadyH.cons (o := { dst := some 38, op := Op.call { callee := Callee.value (Operand.func 15), args := #[Operand.tmp 36, Operand.tmp 37], argTypes := #[29, 29] }, type := 3, pos := "law.go:82", after := #[{ on := 3, ground := Ground.data }, { on := 4, ground := Ground.data }], guard := none }) rfl (fun K hK => ?_) AllReadyH.nil
          go_simp
          refine (BigCmp_any _ _ (y * 2 ^ i) z _ (HT.out.1.gr (hgr _ hHeld)) (HT.out.2.1.gr (hgr _ hHeld)) si sz).mono ?_
          rintro e w4 ⟨rfl, hg4⟩
          (try go_wp2_with fail)
          refine hK.out _ _ (by (try dsimp only); exact hcl _ _ hHeld (by first | with_reducible assumption | with_reducible exact IsGr.refl _ | with_reducible exact (IsGr.refl _).alloc _ | with_reducible exact ((IsGr.refl _).alloc _).alloc _ | assumption)) (fun hHeld2 => ?_)
          clear hK K hHeld
          have hHeld := hHeld2
          clear hHeld2
          (try simp only [Act.put, List.setIfInBounds_toArray, List.set_cons_zero, List.set_cons_succ])
          refine wpAnyH_take (i := 6) (oi := { dst := some 39, op := Op.binOp BinOp.leq 3 (Operand.tmp 38) (Operand.const (Value.int IntKind.i64 0)) 3, type := 4, pos := "law.go:82", after := #[{ on := 5, ground := Ground.data }], guard := none }) (v := ?_) rfl (by kernel_rfl) (by kernel_rfl) (by kernel_rfl) (fun _ _ _ h => h) (Or.inl ⟨by rfl, ?_⟩) (by assumption) ?_
          rotate_left
          · (intro w hSw; (try dsimp only at hSw); (try have hcs := hcells w hSw); (try go_split_ands); go_simp <;> with_reducible rfl)
          (try simp only [Act.put, List.setIfInBounds_toArray, List.set_cons_zero, List.set_cons_succ])
          refine wpAnyH_done (by kernel_rfl) ?_ _
          have hgq := hgr _ hHeld
          clear hHeld hgr hin hcl hcells
          obtain ⟨cm, hcm⟩ : ∃ m, cmpI (y * 2 ^ i) z = m := ⟨_, rfl⟩
          rw [hcm] at HCL ⊢
          have HQ : Hid (IsGr wr w4) := hgq
          have HC : Hid (decide (cm ≤ 0) = decide (y * 2 ^ i ≤ z)) := HCL.out
          have c0q := cellk c0 hgq
          have c1q := cellk c1 hgq
          have f0q := frzk c0 f0 hgq
          have f1q := frzk c1 f1 hgq
          have t0q := cellk t0 hgq
          have t1q := cellk t1 hgq
          clear hcm HCL hgq c0 c1 f0 f1 t0 t1
          by_cases hle : y * 2 ^ i ≤ z
          · have hc1 : cm ≤ 0 := by have := HC.out; rw [decide_eq_true hle, decide_eq_true_eq] at this; exact this
            have HLE : Hid (y * 2 ^ i ≤ z) := hle
            clear hle
            go_upto_region 14 with fail
            obtain ⟨C, hin, hcl, hcells, hgr⟩ : ∃ C : World → Prop, (∀ w', IsGr w4 w' → C w') ∧ (∀ u u', C u → IsGr u u' → C u') ∧ (∀ w', C w' → (w'.cell? ⟨g, i * 2, none⟩ = some (.bool ts)) ∧ (w'.cell? ⟨g, i * 2 + 1, none⟩ = some (.slice ta tn tc)) ∧ (w'.cell? ⟨w.heap.size, 0, none⟩ = some (.bool zs)) ∧ (w'.cell? ⟨w.heap.size, 1, none⟩ = some (.slice za zn zc)) ∧ (w'.frozen? ⟨w.heap.size, 0, none⟩ = false) ∧ (w'.frozen? ⟨w.heap.size, 1, none⟩ = false)) ∧ (∀ w', C w' → IsGr w4 w') := ⟨fun w' => IsGr w4 w', fun _ h => h, fun _ _ h k => h.trans k, fun w' hg => ⟨cellk t0q hg, cellk t1q hg, cellk c0q hg, cellk c1q hg, frzk c0q f0q hg, frzk c1q f1q hg⟩, fun _ h => h⟩
            refine wp_region_but (S := C) (k := 6) (n := 6) (by kernel_rfl) (by kernel_rfl) (by (try dsimp only); exact hin _ (by with_reducible repeat (first | exact IsGr.refl _ | refine IsGr.gr ?_ _ _ | refine IsGr.alloc ?_ _ | refine IsGr.drew ?_ | refine IsGr.drewN ?_ _))) (fun hHeld => ?_)
            refine wpAnyH_take (i := 0) (oi := { dst := some 40, op := Op.load 29 (Operand.tmp 2), type := 29, pos := "law.go:83", after := #[], guard := none }) (v := ?_) rfl (by kernel_rfl) (by kernel_rfl) (by kernel_rfl) (fun _ _ _ h => h) (Or.inl ⟨by rfl, ?_⟩) (by assumption) ?_
            rotate_left
            · (intro w hSw; (try dsimp only at hSw); (try have hcs := hcells w hSw); (try go_split_ands); go_simp <;> with_reducible rfl)
            (try simp only [Act.put, List.setIfInBounds_toArray, List.set_cons_zero, List.set_cons_succ])
            refine wpAnyH_take (i := 1) (oi := { dst := some 41, op := Op.move (Operand.tmp 5), type := 55, pos := "law.go:83", after := #[], guard := none }) (v := ?_) rfl (by kernel_rfl) (by kernel_rfl) (by kernel_rfl) (fun _ _ _ h => h) (Or.inl ⟨by rfl, ?_⟩) (by assumption) ?_
            rotate_left
            · (intro w hSw; (try dsimp only at hSw); (try have hcs := hcells w hSw); (try go_split_ands); go_simp <;> with_reducible rfl)
            (try simp only [Act.put, List.setIfInBounds_toArray, List.set_cons_zero, List.set_cons_succ])
            refine wpAnyH_take (i := 2) (oi := { dst := some 42, op := Op.move (Operand.tmp 7), type := 3, pos := "law.go:83", after := #[], guard := none }) (v := ?_) rfl (by kernel_rfl) (by kernel_rfl) (by kernel_rfl) (fun _ _ _ h => h) (Or.inl ⟨by rfl, ?_⟩) (by assumption) ?_
            rotate_left
            · (intro w hSw; (try dsimp only at hSw); (try have hcs := hcells w hSw); (try go_split_ands); go_simp <;> with_reducible rfl)
            (try simp only [Act.put, List.setIfInBounds_toArray, List.set_cons_zero, List.set_cons_succ])
            refine wpAnyH_take (i := 3) (oi := { dst := some 43, op := Op.indexAddr 55 (Operand.tmp 41) (Operand.tmp 42), type := 0, pos := "law.go:83", after := #[{ on := 1, ground := Ground.data }, { on := 2, ground := Ground.data }], guard := none }) (v := ?_) rfl (by kernel_rfl) (by kernel_rfl) (by kernel_rfl) (fun _ _ _ h => h) (Or.inl ⟨by rfl, ?_⟩) (by assumption) ?_
            rotate_left
            · (intro w hSw; (try dsimp only at hSw); (try have hcs := hcells w hSw); (try go_split_ands); go_simp <;> with_reducible rfl)
            (try simp only [Act.put, List.setIfInBounds_toArray, List.set_cons_zero, List.set_cons_succ])
            refine wpAnyH_take (i := 4) (oi := { dst := some 44, op := Op.load 29 (Operand.tmp 43), type := 29, pos := "law.go:83", after := #[{ on := 3, ground := Ground.data }], guard := none }) (v := ?_) rfl (by kernel_rfl) (by kernel_rfl) (by kernel_rfl) (fun _ _ _ h => h) (Or.inl ⟨by rfl, ?_⟩) (by assumption) ?_
            rotate_left
            · (intro w hSw; (try dsimp only at hSw); (try have hcs := hcells w hSw); (try go_split_ands); go_simp <;> with_reducible rfl)
            (try simp only [Act.put, List.setIfInBounds_toArray, List.set_cons_zero, List.set_cons_succ])
            refine wpAnyH_ready (rs := [5]) (by kernel_rfl) (by simp) ?_
            refine AllReadyH.cons (o := { dst := some 45, op := Op.call { callee := Callee.value (Operand.func 29), args := #[Operand.tmp 40, Operand.tmp 44], argTypes := #[29, 29] }, type := 29, pos := "law.go:83", after := #[{ on := 0, ground := Ground.data }, { on := 4, ground := Ground.data }], guard := none }) rfl (fun K hK => ?_) ?_
            · go_simp
              refine (BigSub_any _ _ z (y * 2 ^ i) _ ((HT.out.2.1.gr HQ.out).gr (hgr _ hHeld)) ((HT.out.1.gr HQ.out).gr (hgr _ hHeld)) sz si).mono ?_
              rintro e w6 ⟨R, rfl, hR, hg6⟩
              obtain ⟨Rs, Ra, Rn, Rc, rfl⟩ := hR.shape
              (try go_wp2_with fail)
              refine hK.out _ _ (by (try dsimp only); exact hcl _ _ hHeld (by first | with_reducible assumption | with_reducible exact IsGr.refl _ | with_reducible exact (IsGr.refl _).alloc _ | with_reducible exact ((IsGr.refl _).alloc _).alloc _ | assumption)) (fun hHeld2 => ?_)
              clear hK K hHeld
              have hHeld := hHeld2
              clear hHeld2
              (try simp only [Act.put, List.setIfInBounds_toArray, List.set_cons_zero, List.set_cons_succ])
              refine wpAnyH_done (by kernel_rfl) ?_ _
              obtain ⟨-, -, q0, q1, q2, q3⟩ := hcells _ hHeld
              have hg := hgr _ hHeld
              refine butLast_step (o := { dst := none, op := Op.store 29 (Operand.tmp 2) (Operand.tmp 45), type := 0, pos := "law.go:83", after := #[{ on := 5, ground := Ground.data }, { on := 5, ground := Ground.chain }, { on := 0, ground := Ground.phase }, { on := 1, ground := Ground.phase }, { on := 2, ground := Ground.phase }, { on := 3, ground := Ground.phase }, { on := 4, ground := Ground.phase }, { on := 5, ground := Ground.phase }], guard := none }) rfl (fun K hK => ?_)
              go_simp
              refine hK.out _ _ ?_
              clear hK K
              (try simp only [Act.put, List.setIfInBounds_toArray, List.set_cons_zero, List.set_cons_succ])
              have HN : Hid (RmI x y i (z - y * 2 ^ i) ∧ DvI w (z - y * 2 ^ i) y (.slice (some ⟨g, 0, none⟩) k vc) vs ((w6.setCell ⟨w.heap.size, 0, none⟩ (.bool Rs)).setCell ⟨w.heap.size, 1, none⟩ (.slice Ra Rn Rc))) := ⟨HR.out.1.sub HLE.out HX.out.2.2.1, dv_x ((HR.out.2.gr HQ.out).gr hg) hR⟩
              clear hHeld hgr hin hcl hcells q0 q1 q2 q3 hg hR
              go_wp2_with fail
              go_roundg i
              case measure => have := HJ.out; omega
              case rel => exact ⟨i, _, (i : Int) - 1, rfl, by omega, by omega, rfl, HN.out⟩
            exact AllReadyH.nil
          
          · have hc1 : ¬ cm ≤ 0 := by have := HC.out; rw [decide_eq_false hle, decide_eq_false_iff_not] at this; exact this
            have HN : Hid (RmI x y i z ∧ DvI w z y (.slice (some ⟨g, 0, none⟩) k vc) vs w4) := ⟨HR.out.1.less hle, HR.out.2.gr HQ.out⟩
            clear hle
            go_wp2_with fail
            go_roundg i
            case measure => have := HJ.out; omega
            case rel => exact ⟨i, z, (i : Int) - 1, rfl, by omega, by omega, rfl, HN.out⟩

set_option maxRecDepth 20000 in set_option maxHeartbeats 2000000 in
theorem divides_neg (u v : Value) (x0 y : Int) (w : World) (bb : Bool) (hu : IsBig w u x0) (hv : IsBig w v y) (hx0 : x0 < 0) (hx : -(10 ^ 175) ≤ x0) (hy0 : 0 < y) (hy : y ≤ 10 ^ 175) (hbb : decide ((0 - x0) % y = 0) = bb) :
    Calls Tryd.prog 16 #[u, v] w fun e w' => e = .returned (.bool bb) ∧ IsGr w w' := by
  obtain ⟨xs, xa, xn, xc, rfl⟩ := hu.shape
  obtain ⟨ys, ya, yn, yc, rfl⟩ := hv.shape
  have sx0 : Sm x0 := big_175 (by omega)
  have sy : Sm y := big_175 (by omega)
  have CS := fun w h => BigSign_any (.agg #[.bool xs, .slice xa xn xc]) x0 w h sx0
  have hsg : decide (cmpI x0 0 < 0) = true := decide_eq_true (by unfold cmpI; repeat' split <;> omega)
  have hI0 : DvI w x0 y (.slice none 0 0) [] ((w.alloc (.cells #[.bool xs, .slice xa xn xc] 29)).alloc (.cells #[.bool ys, .slice ya yn yc] 29)) := by
    have g1 := (IsGr.refl w).alloc (.cells #[.bool xs, .slice xa xn xc] 29)
    have g2 := (IsGr.refl (w.alloc (.cells #[.bool xs, .slice xa xn xc] 29))).alloc (.cells #[.bool ys, .slice ya yn yc] 29)
    refine ⟨(BgB.new hu).gr g2, ?_, LsB.nil _ _, fun g e => (by cases e), fun i hi => (by simp at hi), (g1.trans g2).below⟩
    have := BgB.new (hv.gr g1)
    simpa using this
  have hux := hu.gr (((IsGr.refl w).alloc (.cells #[.bool xs, .slice xa xn xc] 29)).alloc (.cells #[.bool ys, .slice ya yn yc] 29))
  have HBB : Hid (decide ((0 - x0) % y = 0) = bb) := hbb
  have HX0 : Hid (x0 < 0 ∧ -(10 ^ 175) ≤ x0 ∧ 0 < y ∧ y ≤ 10 ^ 175) := ⟨hx0, hx, hy0, hy⟩
  clear hx0 hx hy0 hy hu hv hbb
  go_enter Tryd.func16, Tryd.ntmps16
  go_wp2_with fail
  refine (CS _ hux).mono ?_
  clear CS hux
  rintro e w0 ⟨rfl, hg0⟩
  have hJ0 := hI0.gr hg0
  obtain ⟨x1s, x1a, x1n, x1c, hxb, hxB⟩ := hJ0.bx
  obtain ⟨c0, c1, f0, f1⟩ := block_two hxb
  have CM := Minus_any _ x0 w0 hxB sx0
  have hsz : w0.heap.size ≤ w0.heap.size := Nat.le_refl _
  clear hxb hxB hI0 hg0
  go_wp2_with fail
  refine CM.mono ?_
  clear CM
  rintro e w00 ⟨R, rfl, hR, hg00⟩
  obtain ⟨Rs, Ra, Rn, Rc, rfl⟩ := hR.shape
  have k0 := cellk c0 hg00
  have k1 := cellk c1 hg00
  have k2 := frzk c0 f0 hg00
  have k3 := frzk c1 f1 hg00
  have hI1 := dv_x (hJ0.gr hg00) hR
  obtain ⟨x, hx⟩ : ∃ x, 0 - x0 = x := ⟨_, rfl⟩
  rw [hx] at hI1 HBB
  have HX : Hid (0 ≤ x ∧ x ≤ 10 ^ 175 ∧ 0 < y ∧ y ≤ 10 ^ 175) := ⟨by have := HX0.out; omega, by have := HX0.out; omega, HX0.out.2.2.1, HX0.out.2.2.2⟩
  have sx : Sm x := big_175 (by have := HX.out; omega)
  clear hx hR hg00 hJ0 hsg c0 c1 f0 f1 hsz sx0
  go_upto_region 3 with fail
  obtain ⟨w1, hw1⟩ : ∃ W, (w00.setCell ⟨w.heap.size, 0, none⟩ (.bool Rs)).setCell ⟨w.heap.size, 1, none⟩ (.slice Ra Rn Rc) = W := ⟨_, rfl⟩
  rw [hw1] at hI1 ⊢
  clear hw1 k0 k1 k2 k3
  obtain ⟨y1s, y1a, y1n, y1c, hyb, hyB⟩ := hI1.bs
  obtain ⟨c0, c1, f0, f1⟩ := block_two hyb
  have HI1 : Hid (DvI w x y (.slice none 0 0) [] (w1.alloc (.cells #[.bool y1s, .slice y1a y1n y1c] 29)) ∧ BgB (w1.alloc (.cells #[.bool y1s, .slice y1a y1n y1c] 29)) w1.heap.size (y * 2 ^ 0) ∧ w.heap.size + 2 ≤ w1.heap.size) := by
    refine ⟨hI1.gr ((IsGr.refl w1).alloc _), ?_, ?_⟩
    · rw [Int.pow_zero, Int.mul_one]; exact BgB.new hyB
    · have := hI1.bs.lt; omega
  clear hI1 hyb hyB
  go_wp2_with fail
  obtain ⟨P0, hP0⟩ : ∃ P, w1.heap.size = P := ⟨_, rfl⟩
  rw [hP0] at HI1 ⊢
  clear hP0 c0 c1 f0 f1
  go_loopg [5, 6] 600 (fun r p5 p6 wr => ∃ (k P : Nat) (va : Option Addr) (vc : Nat) (vs : List Bw), k + r = 600 ∧ p6 = .pointer (some ⟨P, 0, none⟩) ∧ p5 = .slice va k vc ∧ Hid (vs.length = k ∧ DvI w x y (.slice va k vc) vs wr ∧ BgB wr P (y * 2 ^ k) ∧ w.heap.size + 2 ≤ P ∧ (∀ g, (Value.slice va k vc).ownBlock = some g → g ≠ P) ∧ y * 2 ^ k ≤ 2 * 10 ^ 175))
  case atStart => exact ⟨0, P0, none, 0, [], by omega, rfl, rfl, rfl, HI1.out.1, HI1.out.2.1, HI1.out.2.2, fun g e => (by cases e), by rw [Int.pow_zero]; have := HX.out; omega⟩
  case round =>
    obtain ⟨k, P, va, vc, vs, hk, rfl, rfl, HR⟩ := hrel
    obtain ⟨ds, da, dn, dc, hdb, hdB⟩ := HR.out.2.2.1
    obtain ⟨es, ea, en, ec, heb, heB⟩ := HR.out.2.1.bx
    obtain ⟨c0, c1, f0, f1⟩ := block_two hdb
    obtain ⟨d0, d1, g0, g1⟩ := block_two heb
    have hpos : 0 ≤ y * 2 ^ k := Int.mul_nonneg (by have := HX.out; omega) (Int.le_of_lt (Int.pow_pos (by omega)))
    have sd : Sm (y * 2 ^ k) := big_175 ⟨by omega, HR.out.2.2.2.2.2⟩
    have CC := fun w h1 h2 => BigCmp_any (.agg #[.bool ds, .slice da dn dc]) (.agg #[.bool es, .slice ea en ec]) (y * 2 ^ k) x w h1 h2 sd sx
    have hcl := cmp_le (y * 2 ^ k) x
    have HD : Hid (IsBig wr (.agg #[.bool ds, .slice da dn dc]) (y * 2 ^ k) ∧ wr.heap[P]? = some (.cells #[.bool ds, .slice da dn dc] 29 (0, 0))) := ⟨hdB, hdb⟩
    clear hdb heb
    go_wp2_with fail
    refine (CC _ hdB heB).mono ?_
    clear CC hdB heB
    rintro e w2 ⟨rfl, hg2⟩
    by_cases hle : y * 2 ^ k ≤ x
    · have hle2 : cmpI (y * 2 ^ k) x ≤ 0 := by rw [decide_eq_true hle, decide_eq_true_eq] at hcl; exact hcl
      have hk6 := dbl_lt HX.out.2.2.1 HX.out.2.1 hle
      obtain ⟨cm, hcm⟩ : ∃ z, cmpI (y * 2 ^ k) x = z := ⟨_, rfl⟩
      rw [hcm] at hle2 ⊢
      have HLE : Hid (y * 2 ^ k ≤ x ∧ k < 600 ∧ y * 2 ^ k + y * 2 ^ k ≤ 2 * 10 ^ 175) := ⟨hle, hk6, by have := HX.out; omega⟩
      have q0 := cellk c0 hg2
      have q1 := cellk c1 hg2
      have HI2 := HR.out.2.1.gr hg2
      have HP2 := HR.out.2.2.1.gr hg2
      have hl1 := HI2.ls.gr ((IsGr.refl w2).alloc (.cells #[.bool ds, .slice da dn dc] 29))
      have hn1 := HI2.ni.keep (W' := w2.alloc (.cells #[.bool ds, .slice da dn dc] 29)) (fun g e => Below.heap_alloc _ _ _ (HI2.ls.own g e).2)
      have HB : Hid (vs.length ≤ 1000000 ∧ w.heap.size + 2 ≤ (w2.alloc (.cells #[.bool ds, .slice da dn dc] 29)).heap.size) := ⟨by have := HR.out.1; omega, by have := HP2.lt; have := HR.out.2.2.2.1; simp; omega⟩
      have HA : Hid (DvI w x y (.slice va k vc) vs w2 ∧ BgB w2 P (y * 2 ^ k) ∧ IsBig w2 (.agg #[.bool ds, .slice da dn dc]) (y * 2 ^ k)) := ⟨HI2, HP2, HD.out.1.gr hg2⟩
      have hpb := (hg2.below.block P (Array.getElem?_eq_some_iff.1 HD.out.2).1).trans HD.out.2
      have HPB : Hid (w2.heap[P]? = some (.cells #[.bool ds, .slice da dn dc] 29 (0, 0))) := hpb
      have CA := fun w h1 h2 => BigAdd_any (.agg #[.bool ds, .slice da dn dc]) (.agg #[.bool ds, .slice da dn dc]) (y * 2 ^ k) (y * 2 ^ k) w h1 h2 sd sd
      clear hle hcm hcl hk6 HI2 HP2 c0 c1 f0 f1 d0 d1 g0 g1 hg2 hpb
      go_wp2_with (at_builtin; refine wpList_append_big rfl _ _ rfl (w.heap.size + 2) (.slice va k vc) vs (ds, da, dn, dc) w2.heap.size 1 rfl rfl hl1 hn1 (by simp [go_sem]) (by simp [go_sem]) HB.out.1 HB.out.2 ?_; intro v9 w9 h9 i9 g9; obtain ⟨hI9, hP9⟩ := dv_app HA.out.1 HA.out.2.1 HR.out.2.2.2.2.1 (by rw [HR.out.1, bw_eta]; exact HA.out.2.2) ((IsGr.refl w2).alloc (.cells #[.bool ds, .slice da dn dc] 29)) h9 i9 g9; obtain ⟨va9, vc9, e9, -⟩ := h9.form; rw [List.length_append, HR.out.1, List.length_cons, List.length_nil, Nat.zero_add] at e9; subst e9; have hp9 : w9.heap[P]? = some (.cells #[.bool ds, .slice da dn dc] 29 (0, 0)) := ((g9.block P (by have := (Array.getElem?_eq_some_iff.1 HPB.out).1; simp; omega) (fun e => HR.out.2.2.2.2.1 _ e.symm rfl)).trans (Below.heap_alloc _ _ _ (Array.getElem?_eq_some_iff.1 HPB.out).1)).trans HPB.out; obtain ⟨r0, r1, -, -⟩ := block_two hp9; have HI9 : Hid (DvI w x y (.slice va9 (k + 1) vc9) (vs ++ [(ds, da, dn, dc)]) w9 ∧ w9.heap[P]? = some (.cells #[.bool ds, .slice da dn dc] 29 (0, 0)) ∧ BgB w9 P (y * 2 ^ k)) := ⟨hI9, hp9, hP9⟩; clear hI9 hP9 h9 i9 g9 hp9 q0 q1 hl1 hn1)
      have hB9 : IsBig (w9.alloc (.cells #[.bool ds, .slice da dn dc] 29)) (.agg #[.bool ds, .slice da dn dc]) (y * 2 ^ k) := (HI9.out.2.2.at HI9.out.2.1).gr ((IsGr.refl w9).alloc _)
      have hPn : BgB (w9.alloc (.cells #[.bool ds, .slice da dn dc] 29)) w9.heap.size (y * 2 ^ k) := BgB.new (HI9.out.2.2.at HI9.out.2.1)
      refine (CA _ hB9 hB9).mono ?_
      clear CA
      rintro e w10 ⟨R, rfl, hR, hg10⟩
      obtain ⟨Rs, Ra, Rn, Rc, rfl⟩ := hR.shape
      have hP10 := hPn.gr hg10
      have hI10 := HI9.out.1.gr (((IsGr.refl w9).alloc (.cells #[.bool ds, .slice da dn dc] 29)).trans hg10)
      have hown9 : ∀ g, (Value.slice va9 (k + 1) vc9).ownBlock = some g → g ≠ w9.heap.size := fun g e => by have := (HI9.out.1.ls.own g e).2; omega
      have hlo9 : w.heap.size + 2 ≤ w9.heap.size := by have := HI9.out.1.bs.lt; omega
      obtain ⟨p0s, p0a, p0n, p0c, hpb, -⟩ := hP10
      have hP10 := hPn.gr hg10
      obtain ⟨s0, s1, s2, s3⟩ := block_two hpb
      have e2k : y * 2 ^ k + y * 2 ^ k = y * 2 ^ (k + 1) := by rw [Int.pow_succ, ← Int.mul_assoc]; omega
      rw [e2k] at hR
      obtain ⟨hIF, hPF⟩ := dv_put hI10 hP10 hlo9 hown9 hR
      have HF : Hid (DvI w x y (.slice va9 (k + 1) vc9) (vs ++ [(ds, da, dn, dc)]) ((w10.setCell ⟨w9.heap.size, 0, none⟩ (.bool Rs)).setCell ⟨w9.heap.size, 1, none⟩ (.slice Ra Rn Rc)) ∧ BgB ((w10.setCell ⟨w9.heap.size, 0, none⟩ (.bool Rs)).setCell ⟨w9.heap.size, 1, none⟩ (.slice Ra Rn Rc)) w9.heap.size (y * 2 ^ (k + 1)) ∧ w.heap.size + 2 ≤ w9.heap.size ∧ (∀ g, (Value.slice va9 (k + 1) vc9).ownBlock = some g → g ≠ w9.heap.size) ∧ y * 2 ^ (k + 1) ≤ 2 * 10 ^ 175) := ⟨hIF, hPF, hlo9, hown9, by rw [← e2k]; exact HLE.out.2.2⟩
      clear hIF hPF hR hP10 hI10 hown9 hlo9 hpb e2k hPn hB9 hg10 r0 r1
      go_wp2_with fail
      go_roundg (600 - (k + 1))
      case measure => have := HLE.out; omega
      case rel => exact ⟨k + 1, w9.heap.size, va9, vc9, vs ++ [(ds, da, dn, dc)], by have := HLE.out; omega, rfl, rfl, by rw [List.length_append, HR.out.1]; rfl, HF.out⟩
    · have hle2 : ¬ cmpI (y * 2 ^ k) x ≤ 0 := by rw [decide_eq_false hle, decide_eq_false_iff_not] at hcl; exact hcl
      obtain ⟨cm, hcm⟩ : ∃ z, cmpI (y * 2 ^ k) x = z := ⟨_, rfl⟩
      rw [hcm] at hle2 ⊢
      have HRM : Hid (RmI x y k x ∧ vs.length = k ∧ DvI w x y (.slice va k vc) vs w2 ∧ k ≤ 600) := ⟨RmI.start HX.out.1 HX.out.2.1 HX.out.2.2.1 hle HR.out.2.2.2.2.2, HR.out.1, HR.out.2.1.gr hg2, by omega⟩
      have hk1 : IntKind.i64.wrap ((k : Int) - 1) = (k : Int) - 1 := by rw [IntKind.wrap_i64]; have := HRM.out.2.2.2; omega
      clear hle hcm hcl hg2 c0 c1 f0 f1 d0 d1 g0 g1 HR HD
      go_wp2_with fail
      go_loopg [7] k (fun r p7 wr => ∃ (j : Nat) (z q : Int), j = r ∧ j ≤ k ∧ q + 1 = (j : Int) ∧ p7 = .int .i64 q ∧ Hid (RmI x y j z ∧ DvI w z y (.slice va k vc) vs wr))
      case atStart => exact ⟨k, x, _, rfl, Nat.le_refl _, by omega, rfl, HRM.out.1, HRM.out.2.2.1⟩
      case round =>
        obtain ⟨j, z, q, hj, hjk, hq, rfl, HR⟩ := hrel
        have hzb : 0 ≤ z ∧ z ≤ 2 * 10 ^ 175 := ⟨HR.out.1.1, HR.out.1.2.2.1.1⟩
        have sz : Sm z := big_175 (by omega)
        cases j with
        | zero =>
          obtain rfl : q = -1 := by omega
          obtain ⟨zs, za, zn, zc, hzb, hzB⟩ := HR.out.2.bx
          obtain ⟨c0, c1, f0, f1⟩ := block_two hzb
          have CS := BigSign_any _ z wr hzB sz
          have HF : Hid ((cmpI z 0 == 0) = bb ∧ Below w.heap.size w wr) := ⟨HR.out.1.fin.trans HBB.out, HR.out.2.bel⟩
          clear hzb hzB hj hq
          go_wp2_with fail
          refine CS.mono ?_
          clear CS
          rintro e w3 ⟨rfl, hg3⟩
          have HG : Hid (IsGr w w3) := (IsGr.of_below HF.out.2).trans hg3
          obtain ⟨cm, hcm⟩ : ∃ m, cmpI z 0 = m := ⟨_, rfl⟩
          have HC : Hid ((cm == 0) = bb) := by show _ = _; rw [← hcm]; exact HF.out.1
          rw [hcm]
          clear hcm hg3
          go_wp2_with fail
          go_ret
          exact ⟨congrArg (fun z => Ending.returned (.bool z)) HC.out, HG.out⟩
        | succ i =>
          obtain rfl : q = (i : Int) := by omega
          have hik : i < k := by omega
          obtain ⟨va', vc', e1, hf⟩ := HR.out.2.ls.form
          rw [HRM.out.2.1] at e1 hf
          injection e1 with e1a e1b e1c
          subst e1a
          rcases hf with ⟨h, -⟩ | ⟨g, rfl, -, hgw, hc⟩
          · exfalso
            have := congrArg List.length h
            rw [HRM.out.2.1] at this
            simp at this
            omega
          obtain ⟨t0, t1⟩ := hc i hik
          have hbi := HR.out.2.bg i (by rw [HRM.out.2.1]; exact hik)
          obtain ⟨⟨ts, ta, tn, tc⟩, ht⟩ : ∃ t, vs.getD i bw0 = t := ⟨_, rfl⟩
          rw [ht] at t0 t1 hbi
          simp only at t0 t1
          rw [bw_eta] at hbi
          obtain ⟨zs, za, zn, zc, hxb, hxB⟩ := HR.out.2.bx
          obtain ⟨c0, c1, f0, f1⟩ := block_two hxb
          have hyi : 0 ≤ y * 2 ^ i ∧ y * 2 ^ i ≤ 2 * 10 ^ 175 := ⟨Int.mul_nonneg (by have := HX.out; omega) (Int.le_of_lt (Int.pow_pos (by omega))), HR.out.1.2.2.1.2 i (by omega)⟩
          have si : Sm (y * 2 ^ i) := big_175 (by omega)
          have HT : Hid (IsBig wr (.agg #[.bool ts, .slice ta tn tc]) (y * 2 ^ i) ∧ IsBig wr (.agg #[.bool zs, .slice za zn zc]) z ∧ wr.heap[w.heap.size]? = some (.cells #[.bool zs, .slice za zn zc] 29 (0, 0))) := ⟨hbi, hxB, hxb⟩
          have e7 : IntKind.i64.wrap ((i : Int) - 1) = (i : Int) - 1 := by rw [IntKind.wrap_i64]; have := HRM.out.2.2.2; omega
          have hik' : (i : Int) < k := by omega
          have hcl := cmp_le (y * 2 ^ i) z
          have HCL : Hid (decide (cmpI (y * 2 ^ i) z ≤ 0) = decide (y * 2 ^ i ≤ z)) := hcl
          have HJ : Hid (_ = _) := hj
          clear e1b e1c hbi ht hxb hxB hzb hyi hgw hc hcl hj hq hik
          go_upto_region 13 with fail
          obtain ⟨C, hin, hcl, hcells, hgr⟩ : ∃ C : World → Prop, (∀ w', IsGr wr w' → C w') ∧ (∀ u u', C u → IsGr u u' → C u') ∧ (∀ w', C w' → (w'.cell? ⟨g, i * 2, none⟩ = some (.bool ts)) ∧ (w'.cell? ⟨g, i * 2 + 1, none⟩ = some (.slice ta tn tc)) ∧ (w'.cell? ⟨w.heap.size, 0, none⟩ = some (.bool zs)) ∧ (w'.cell? ⟨w.heap.size, 1, none⟩ = some (.slice za zn zc)) ∧ (w'.frozen? ⟨w.heap.size, 0, none⟩ = false) ∧ (w'.frozen? ⟨w.heap.size, 1, none⟩ = false)) ∧ (∀ w', C w' → IsGr wr w') := ⟨fun w' => IsGr wr w', fun _ h => h, fun _ _ h k => h.trans k, fun w' hg => ⟨cellk t0 hg, cellk t1 hg, cellk c0 hg, cellk c1 hg, frzk c0 f0 hg, frzk c1 f1 hg⟩, fun _ h => h⟩
          refine wp_region_held_drew (S := C) (by kernel_rfl) (by (try dsimp only); exact hin _ (by with_reducible repeat (first | exact IsGr.refl _ | refine IsGr.gr ?_ _ _ | refine IsGr.alloc ?_ _ | refine IsGr.drew ?_ | refine IsGr.drewN ?_ _))) (fun hHeld => ?_)
          refine wpAnyH_take (i := 0) (oi := { dst := some 33, op := Op.move (Operand.tmp 5), type := 55, pos := "law.go:82", after := #[], guard := none }) (v := ?_) rfl (by kernel_rfl) (by kernel_rfl) (by kernel_rfl) (fun _ _ _ h => h) (Or.inl ⟨by rfl, ?_⟩) (by assumption) ?_
          rotate_left
          · (intro w hSw; (try dsimp only at hSw); (try have hcs := hcells w hSw); (try go_split_ands); go_simp <;> with_reducible rfl)
          (try simp only [Act.put, List.setIfInBounds_toArray, List.set_cons_zero, List.set_cons_succ])
          refine wpAnyH_take (i := 1) (oi := { dst := some 34, op := Op.move (Operand.tmp 7), type := 3, pos := "law.go:82", after := #[], guard := none }) (v := ?_) rfl (by kernel_rfl) (by kernel_rfl) (by kernel_rfl) (fun _ _ _ h => h) (Or.inl ⟨by rfl, ?_⟩) (by assumption) ?_
          rotate_left
          · (intro w hSw; (try dsimp only at hSw); (try have hcs := hcells w hSw); (try go_split_ands); go_simp <;> with_reducible rfl)
          (try simp only [Act.put, List.setIfInBounds_toArray, List.set_cons_zero, List.set_cons_succ])
          refine wpAnyH_take (i := 2) (oi := { dst := some 35, op := Op.indexAddr 55 (Operand.tmp 33) (Operand.tmp 34), type := 0, pos := "law.go:82", after := #[{ on := 0, ground := Ground.data }, { on := 1, ground := Ground.data }], guard := none }) (v := ?_) rfl (by kernel_rfl) (by kernel_rfl) (by kernel_rfl) (fun _ _ _ h => h) (Or.inl ⟨by rfl, ?_⟩) (by assumption) ?_
          rotate_left
          · (intro w hSw; (try dsimp only at hSw); (try have hcs := hcells w hSw); (try go_split_ands); go_simp <;> with_reducible rfl)
          (try simp only [Act.put, List.setIfInBounds_toArray, List.set_cons_zero, List.set_cons_succ])
          refine wpAnyH_take (i := 3) (oi := { dst := some 36, op := Op.load 29 (Operand.tmp 35), type := 29, pos := "law.go:82", after := #[{ on := 2, ground := Ground.data }], guard := none }) (v := ?_) rfl (by kernel_rfl) (by kernel_rfl) (by kernel_rfl) (fun _ _ _ h => h) (Or.inl ⟨by rfl, ?_⟩) (by assumption) ?_
          rotate_left
          · (intro w hSw; (try dsimp only at hSw); (try have hcs := hcells w hSw); (try go_split_ands); go_simp <;> with_reducible rfl)
          (try simp only [Act.put, List.setIfInBounds_toArray, List.set_cons_zero, List.set_cons_succ])
          refine wpAnyH_take (i := 4) (oi := { dst := some 37, op := Op.load 29 (Operand.tmp 2), type := 29, pos := "law.go:82", after := #[], guard := none }) (v := ?_) rfl (by kernel_rfl) (by kernel_rfl) (by kernel_rfl) (fun _ _ _ h => h) (Or.inl ⟨by rfl, ?_⟩) (by assumption) ?_
          rotate_left
          · (intro w hSw; (try dsimp only at hSw); (try have hcs := hcells w hSw); (try go_split_ands); go_simp <;> with_reducible rfl)
          (try simp only [Act.put, List.setIfInBounds_toArray, List.set_cons_zero, List.set_cons_succ])
          refine wpAnyH_ready (rs := [5]) (by kernel_rfl) (by simp) ?_
          refine AllReadyH.cons (o := { dst := some 38, op := Op.call { callee := Callee.value (Operand.func 15), args := #[Operand.tmp 36, Operand.tmp 37], argTypes := #[29, 29] }, type := 3, pos := "law.go:82", after := #[{ on := 3, ground := Ground.data }, { on := 4, ground := Ground.data }], guard := none }) rfl (fun K hK => ?_) AllReadyH.nil
          go_simp
          refine (BigCmp_any _ _ (y * 2 ^ i) z _ (HT.out.1.gr (hgr _ hHeld)) (HT.out.2.1.gr (hgr _ hHeld)) si sz).mono ?_
          rintro e w4 ⟨rfl, hg4⟩
          (try go_wp2_with fail)
          refine hK.out _ _ (by (try dsimp only); exact hcl _ _ hHeld (by first | with_reducible assumption | with_reducible exact IsGr.refl _ | with_reducible exact (IsGr.refl _).alloc _ | with_reducible exact ((IsGr.refl _).alloc _).alloc _ | assumption)) (fun hHeld2 => ?_)
          clear hK K hHeld
          have hHeld := hHeld2
          clear hHeld2
          (try simp only [Act.put, List.setIfInBounds_toArray, List.set_cons_zero, List.set_cons_succ])
          refine wpAnyH_take (i := 6) (oi := { dst := some 39, op := Op.binOp BinOp.leq 3 (Operand.tmp 38) (Operand.const (Value.int IntKind.i64 0)) 3, type := 4, pos := "law.go:82", after := #[{ on := 5, ground := Ground.data }], guard := none }) (v := ?_) rfl (by kernel_rfl) (by kernel_rfl) (by kernel_rfl) (fun _ _ _ h => h) (Or.inl ⟨by rfl, ?_⟩) (by assumption) ?_
          rotate_left
          · (intro w hSw; (try dsimp only at hSw); (try have hcs := hcells w hSw); (try go_split_ands); go_simp <;> with_reducible rfl)
          (try simp only [Act.put, List.setIfInBounds_toArray, List.set_cons_zero, List.set_cons_succ])
          refine wpAnyH_done (by kernel_rfl) ?_ _
          have hgq := hgr _ hHeld
          clear hHeld hgr hin hcl hcells
          obtain ⟨cm, hcm⟩ : ∃ m, cmpI (y * 2 ^ i) z = m := ⟨_, rfl⟩
          rw [hcm] at HCL ⊢
          have HQ : Hid (IsGr wr w4) := hgq
          have HC : Hid (decide (cm ≤ 0) = decide (y * 2 ^ i ≤ z)) := HCL.out
          have c0q := cellk c0 hgq
          have c1q := cellk c1 hgq
          have f0q := frzk c0 f0 hgq
          have f1q := frzk c1 f1 hgq
          have t0q := cellk t0 hgq
          have t1q := cellk t1 hgq
          clear hcm HCL hgq c0 c1 f0 f1 t0 t1
          by_cases hle : y * 2 ^ i ≤ z
          · have hc1 : cm ≤ 0 := by have := HC.out; rw [decide_eq_true hle, decide_eq_true_eq] at this; exact this
            have HLE : Hid (y * 2 ^ i ≤ z) := hle
            clear hle
            go_upto_region 14 with fail
            obtain ⟨C, hin, hcl, hcells, hgr⟩ : ∃ C : World → Prop, (∀ w', IsGr w4 w' → C w') ∧ (∀ u u', C u → IsGr u u' → C u') ∧ (∀ w', C w' → (w'.cell? ⟨g, i * 2, none⟩ = some (.bool ts)) ∧ (w'.cell? ⟨g, i * 2 + 1, none⟩ = some (.slice ta tn tc)) ∧ (w'.cell? ⟨w.heap.size, 0, none⟩ = some (.bool zs)) ∧ (w'.cell? ⟨w.heap.size, 1, none⟩ = some (.slice za zn zc)) ∧ (w'.frozen? ⟨w.heap.size, 0, none⟩ = false) ∧ (w'.frozen? ⟨w.heap.size, 1, none⟩ = false)) ∧ (∀ w', C w' → IsGr w4 w') := ⟨fun w' => IsGr w4 w', fun _ h => h, fun _ _ h k => h.trans k, fun w' hg => ⟨cellk t0q hg, cellk t1q hg, cellk c0q hg, cellk c1q hg, frzk c0q f0q hg, frzk c1q f1q hg⟩, fun _ h => h⟩
            refine wp_region_but (S := C) (k := 6) (n := 6) (by kernel_rfl) (by kernel_rfl) (by (try dsimp only); exact hin _ (by with_reducible repeat (first | exact IsGr.refl _ | refine IsGr.gr ?_ _ _ | refine IsGr.alloc ?_ _ | refine IsGr.drew ?_ | refine IsGr.drewN ?_ _))) (fun hHeld => ?_)
            refine wpAnyH_take (i := 0) (oi := { dst := some 40, op := Op.load 29 (Operand.tmp 2), type := 29, pos := "law.go:83", after := #[], guard := none }) (v := ?_) rfl (by kernel_rfl) (by kernel_rfl) (by kernel_rfl) (fun _ _ _ h => h) (Or.inl ⟨by rfl, ?_⟩) (by assumption) ?_
            rotate_left
            · (intro w hSw; (try dsimp only at hSw); (try have hcs := hcells w hSw); (try go_split_ands); go_simp <;> with_reducible rfl)
            (try simp only [Act.put, List.setIfInBounds_toArray, List.set_cons_zero, List.set_cons_succ])
            refine wpAnyH_take (i := 1) (oi := { dst := some 41, op := Op.move (Operand.tmp 5), type := 55, pos := "law.go:83", after := #[], guard := none }) (v := ?_) rfl (by kernel_rfl) (by kernel_rfl) (by kernel_rfl) (fun _ _ _ h => h) (Or.inl ⟨by rfl, ?_⟩) (by assumption) ?_
            rotate_left
            · (intro w hSw; (try dsimp only at hSw); (try have hcs := hcells w hSw); (try go_split_ands); go_simp <;> with_reducible rfl)
            (try simp only [Act.put, List.setIfInBounds_toArray, List.set_cons_zero, List.set_cons_succ])
            refine wpAnyH_take (i := 2) (oi := { dst := some 42, op := Op.move (Operand.tmp 7), type := 3, pos := "law.go:83", after := #[], guard := none }) (v := ?_) rfl (by kernel_rfl) (by kernel_rfl) (by kernel_rfl) (fun _ _ _ h => h) (Or.inl ⟨by rfl, ?_⟩) (by assumption) ?_
            rotate_left
            · (intro w hSw; (try dsimp only at hSw); (try have hcs := hcells w hSw); (try go_split_ands); go_simp <;> with_reducible rfl)
            (try simp only [Act.put, List.setIfInBounds_toArray, List.set_cons_zero, List.set_cons_succ])
            refine wpAnyH_take (i := 3) (oi := { dst := some 43, op := Op.indexAddr 55 (Operand.tmp 41) (Operand.tmp 42), type := 0, pos := "law.go:83", after := #[{ on := 1, ground := Ground.data }, { on := 2, ground := Ground.data }], guard := none }) (v := ?_) rfl (by kernel_rfl) (by kernel_rfl) (by kernel_rfl) (fun _ _ _ h => h) (Or.inl ⟨by rfl, ?_⟩) (by assumption) ?_
            rotate_left
            · (intro w hSw; (try dsimp only at hSw); (try have hcs := hcells w hSw); (try go_split_ands); go_simp <;> with_reducible rfl)
            (try simp only [Act.put, List.setIfInBounds_toArray, List.set_cons_zero, List.set_cons_succ])
            refine wpAnyH_take (i := 4) (oi := { dst := some 44, op := Op.load 29 (Operand.tmp 43), type := 29, pos := "law.go:83", after := #[{ on := 3, ground := Ground.data }], guard := none }) (v := ?_) rfl (by kernel_rfl) (by kernel_rfl) (by kernel_rfl) (fun _ _ _ h => h) (Or.inl ⟨by rfl, ?_⟩) (by assumption) ?_
            rotate_left
            · (intro w hSw; (try dsimp only at hSw); (try have hcs := hcells w hSw); (try go_split_ands); go_simp <;> with_reducible rfl)
            (try simp only [Act.put, List.setIfInBounds_toArray, List.set_cons_zero, List.set_cons_succ])
            refine wpAnyH_ready (rs := [5]) (by kernel_rfl) (by simp) ?_
            refine AllReadyH.cons (o := { dst := some 45, op := Op.call { callee := Callee.value (Operand.func 29), args := #[Operand.tmp 40, Operand.tmp 44], argTypes := #[29, 29] }, type := 29, pos := "law.go:83", after := #[{ on := 0, ground := Ground.data }, { on := 4, ground := Ground.data }], guard := none }) rfl (fun K hK => ?_) ?_
            · go_simp
              refine (BigSub_any _ _ z (y * 2 ^ i) _ ((HT.out.2.1.gr HQ.out).gr (hgr _ hHeld)) ((HT.out.1.gr HQ.out).gr (hgr _ hHeld)) sz si).mono ?_
              rintro e w6 ⟨R, rfl, hR, hg6⟩
              obtain ⟨Rs, Ra, Rn, Rc, rfl⟩ := hR.shape
              (try go_wp2_with fail)
              refine hK.out _ _ (by (try dsimp only); exact hcl _ _ hHeld (by first | with_reducible assumption | with_reducible exact IsGr.refl _ | with_reducible exact (IsGr.refl _).alloc _ | with_reducible exact ((IsGr.refl _).alloc _).alloc _ | assumption)) (fun hHeld2 => ?_)
              clear hK K hHeld
              have hHeld := hHeld2
              clear hHeld2
              (try simp only [Act.put, List.setIfInBounds_toArray, List.set_cons_zero, List.set_cons_succ])
              refine wpAnyH_done (by kernel_rfl) ?_ _
              obtain ⟨-, -, q0, q1, q2, q3⟩ := hcells _ hHeld
              have hg := hgr _ hHeld
              refine butLast_step (o := { dst := none, op := Op.store 29 (Operand.tmp 2) (Operand.tmp 45), type := 0, pos := "law.go:83", after := #[{ on := 5, ground := Ground.data }, { on := 5, ground := Ground.chain }, { on := 0, ground := Ground.phase }, { on := 1, ground := Ground.phase }, { on := 2, ground := Ground.phase }, { on := 3, ground := Ground.phase }, { on := 4, ground := Ground.phase }, { on := 5, ground := Ground.phase }], guard := none }) rfl (fun K hK => ?_)
              go_simp
              refine hK.out _ _ ?_
              clear hK K
              (try simp only [Act.put, List.setIfInBounds_toArray, List.set_cons_zero, List.set_cons_succ])
              have HN : Hid (RmI x y i (z - y * 2 ^ i) ∧ DvI w (z - y * 2 ^ i) y (.slice (some ⟨g, 0, none⟩) k vc) vs ((w6.setCell ⟨w.heap.size, 0, none⟩ (.bool Rs)).setCell ⟨w.heap.size, 1, none⟩ (.slice Ra Rn Rc))) := ⟨HR.out.1.sub HLE.out HX.out.2.2.1, dv_x ((HR.out.2.gr HQ.out).gr hg) hR⟩
              clear hHeld hgr hin hcl hcells q0 q1 q2 q3 hg hR
              go_wp2_with fail
              go_roundg i
              case measure => have := HJ.out; omega
              case rel => exact ⟨i, _, (i : Int) - 1, rfl, by omega, by omega, rfl, HN.out⟩
            exact AllReadyH.nil
          
          · have hc1 : ¬ cm ≤ 0 := by have := HC.out; rw [decide_eq_false hle, decide_eq_false_iff_not] at this; exact this
            have HN : Hid (RmI x y i z ∧ DvI w z y (.slice (some ⟨g, 0, none⟩) k vc) vs w4) := ⟨HR.out.1.less hle, HR.out.2.gr HQ.out⟩
            clear hle
            go_wp2_with fail
            go_roundg i
            case measure => have := HJ.out; omega
            case rel => exact ⟨i, z, (i : Int) - 1, rfl, by omega, by omega, rfl, HN.out⟩
theorem divides_any (u v : Value) (x y : Int) (w : World) (hu : IsBig w u x) (hv : IsBig w v y) (hx0 : -(10 ^ 175) ≤ x) (hx : x ≤ 10 ^ 175) (hy0 : 0 < y) (hy : y ≤ 10 ^ 175) :
    Calls Tryd.prog 16 #[u, v] w fun e w' => e = .returned (.bool (decide (x % y = 0))) ∧ IsGr w w' := by
  by_cases h : 0 ≤ x
  · exact divides_pos u v x y w _ hu hv h hx hy0 hy rfl
  · refine divides_neg u v x y w _ hu hv (by omega) hx0 hy0 hy ?_
    rw [decide_eq_decide, Int.zero_sub]
    constructor
    · intro h1
      exact Int.emod_eq_zero_of_dvd (Int.dvd_neg.1 (Int.dvd_of_emod_eq_zero h1))
    · intro h1
      exact Int.emod_eq_zero_of_dvd (Int.dvd_neg.2 (Int.dvd_of_emod_eq_zero h1))
end Go.Proofs.YtfpifbfnebfdaaaDoor
