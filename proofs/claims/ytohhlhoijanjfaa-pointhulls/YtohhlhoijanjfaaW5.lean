/- Contracts of package wide over the loaded program: products. -/
import Derived.Test.YtohhlhoijanjfaaW4
import Derived.Test.YtohhlhoijanjfaaM3
namespace Go.Proofs.Ytohhlhoijanjfaa
open Go.RowKit Go.Shelf
attribute [local go_sem] Gr.size Gr.cell? Gr.frozen? Gr.setCell Gr.drew Gr.drewN Gr.of_drew Gr.of_drewN Gr.gr Gr.lt_of1 Gr.le_of1 Gr.lt_of2 Gr.le_of2 Gr.lt_of3 Gr.le_of3 Gr.lt_of4 Gr.le_of4 Gr.lt_of5 Gr.le_of5 Gr.lt_of6 Gr.le_of6 Gr.lt_of7 Gr.le_of7 Gr.lt_of8 Gr.le_of8

theorem mul64 (a b : Int) (a0 : 0 ≤ a) (a1 : a < 18446744073709551616) (b0 : 0 ≤ b) (b1 : b < 18446744073709551616) (w : World) :
    Calls Try.prog 135 #[.int .u64 a, .int .u64 b] w fun e w' => ∃ h l : Int, e = .returned (.tuple #[.int .u64 h, .int .u64 l]) ∧ 0 ≤ l ∧ l < 18446744073709551616 ∧ 0 ≤ h ∧ Hid (a * b = h * 18446744073709551616 + l) ∧ w = w' := by
  obtain ⟨a, rfl⟩ := Int.eq_ofNat_of_zero_le a0
  obtain ⟨b, rfl⟩ := Int.eq_ofNat_of_zero_le b0
  refine (Try.bits_Mul64 a b (by omega) (by omega) w).mono ?_
  rintro e w' ⟨rfl, rfl⟩
  refine ⟨_, _, rfl, by omega, by omega, by omega, ?_, rfl⟩
  unfold Hid
  have h : ((a * b : Nat) : Int) = (a : Int) * b := Int.natCast_mul a b
  rw [← h]
  omega

theorem mul_bound (a b : Int) (a0 : 0 ≤ a) (a1 : a < 18446744073709551616) (b0 : 0 ≤ b) (b1 : b < 18446744073709551616) : a * b ≤ 340282366920938463426481119284349108225 := by
  have h1 : a * b ≤ 18446744073709551615 * b := Int.mul_le_mul_of_nonneg_right (by omega) b0
  omega

set_option maxHeartbeats 1000000 in
theorem timesPlus_any (a b c d : Int) (a0 : 0 ≤ a) (a1 : a < 18446744073709551616) (b0 : 0 ≤ b) (b1 : b < 18446744073709551616) (c0 : 0 ≤ c) (c1 : c < 18446744073709551616) (d0 : 0 ≤ d) (d1 : d < 18446744073709551616) (w : World) :
    Calls Try.prog 130 #[.int .u64 a, .int .u64 b, .int .u64 c, .int .u64 d] w fun e w' => ∃ h l : Int, e = .returned (.tuple #[.int .u64 h, .int .u64 l]) ∧ 0 ≤ h ∧ h < 18446744073709551616 ∧ 0 ≤ l ∧ l < 18446744073709551616 ∧ Hid (a * b + c + d = h * 18446744073709551616 + l) ∧ w = w' := by
  have hm := mul_bound a b a0 a1 b0 b1
  have HM : Hid (a * b ≤ 340282366920938463426481119284349108225) := hm
  clear hm
  go_enter Try.func130, Try.ntmps130
  go_wp2_with fail
  refine (mul64 a b a0 a1 b0 b1 _).mono ?_
  rintro e w1 ⟨h, l, rfl, l0, l1, h0, HE, rfl⟩
  have hE := HE.out; have hM := HM.out
  obtain ⟨s, k, e1, k0, k1, H1⟩ := add64' l c 0 (by omega) (by omega) (by omega) (by omega) (by omega) (by omega)
  have f1 := H1.out
  obtain ⟨s', k', e2, k0', k1', H2⟩ := add64' s d 0 (by omega) (by omega) (by omega) (by omega) (by omega) (by omega)
  have f2 := H2.out
  have hall : (a * b + c + d = (h + k + k') * 18446744073709551616 + s' ∧ 0 ≤ s' ∧ s' < 18446744073709551616) ∧ h + k < 18446744073709551616 ∧ h + k + k' < 18446744073709551616 := by
    generalize a * b = P at hE hM ⊢
    omega
  obtain ⟨HF0, hb1, hb2⟩ := hall
  have HF : Hid (a * b + c + d = (h + k + k') * 18446744073709551616 + s' ∧ 0 ≤ s' ∧ s' < 18446744073709551616) := HF0
  clear HF0
  clear hE hM f1 f2 HE HM H1 H2
  go_wp2
  go_ret2
  exact ⟨_, _, rfl, by omega, by omega, HF.out.2.1, HF.out.2.2, HF.out.1, rfl⟩


theorem list8 {l : List Int} (h : l.length = 8) : ∃ a b c d e f g i, l = [a, b, c, d, e, f, g, i] := by
  match l, h with
  | [a, b, c, d, e, f, g, i], _ => exact ⟨a, b, c, d, e, f, g, i, rfl⟩
theorem is_of_dg {l : List Int} (h : Dg 18446744073709551616 l) {a b c d : Int} (ha : a ∈ l) (hb : b ∈ l) (hc : c ∈ l) (hd : d ∈ l) : Is a b c d (a + 18446744073709551616 * b + 340282366920938463463374607431768211456 * c + 6277101735386680763835789423207666416102355444464034512896 * d) := by
  have h1 := h a ha; have h2 := h b hb; have h3 := h c hc; have h4 := h d hd
  unfold Is; omega

attribute [local go_sem] U.set

/-- What a product of sizes is told as. -/
def Prod (x y s0 s1 s2 s3 : Int) (ok : Bool) : Prop := (ok = true ∧ x * y < 115792089237316195423570985008687907853269984665640564039457584007913129639936 ∧ Is s0 s1 s2 s3 (x * y)) ∨ (ok = false ∧ ¬ x * y < 115792089237316195423570985008687907853269984665640564039457584007913129639936 ∧ s0 = 0 ∧ s1 = 0 ∧ s2 = 0 ∧ s3 = 0)

set_option maxHeartbeats 4000000 in
theorem times_any (x0 x1 x2 x3 x y0 y1 y2 y3 y : Int) (hx : Is x0 x1 x2 x3 x) (hy : Is y0 y1 y2 y3 y) (w : World) :
    Calls Try.prog 119 #[.agg #[.int .u64 x0, .int .u64 x1, .int .u64 x2, .int .u64 x3], .agg #[.int .u64 y0, .int .u64 y1, .int .u64 y2, .int .u64 y3]] w fun e w' => ∃ s0 s1 s2 s3 : Int, ∃ ok : Bool, e = .returned (.tuple #[.agg #[.int .u64 s0, .int .u64 s1, .int .u64 s2, .int .u64 s3], .bool ok]) ∧ Prod x y s0 s1 s2 s3 ok ∧ IsGr w w' := by
  obtain ⟨xs, hxs⟩ : ∃ xs, xs = [x0, x1, x2, x3] := ⟨_, rfl⟩
  obtain ⟨ys, hys⟩ : ∃ ys, ys = [y0, y1, y2, y3] := ⟨_, rfl⟩
  have lx : xs.length = 4 := by rw [hxs]; rfl
  have ly : ys.length = 4 := by rw [hys]; rfl
  have dx : Dg 18446744073709551616 xs := by rw [hxs]; unfold Is at hx; intro d hd; simp at hd; omega
  have dy : Dg 18446744073709551616 ys := by rw [hys]; unfold Is at hy; intro d hd; simp at hd; omega
  have vx : vl 18446744073709551616 xs = x := by rw [hxs]; unfold Is at hx; simp [vl]; omega
  have vy : vl 18446744073709551616 ys = y := by rw [hys]; unfold Is at hy; simp [vl]; omega
  have HX : Hid (U xs = #[.int .u64 x0, .int .u64 x1, .int .u64 x2, .int .u64 x3]) := by rw [hxs]; rfl
  have HY : Hid (U ys = #[.int .u64 y0, .int .u64 y1, .int .u64 y2, .int .u64 y3]) := by rw [hys]; rfl
  have HV : Hid (vl 18446744073709551616 xs = x ∧ vl 18446744073709551616 ys = y ∧ xs.length = 4 ∧ ys.length = 4) := ⟨vx, vy, lx, ly⟩
  clear hxs hys vx vy
  go_enter Try.func119, Try.ntmps119
  go_wp2
  go_loopw [13] (fun i wr => ∃ (k : Nat) (ts : List Int) (os : Array Obj) (n : Nat), k ≤ 4 ∧ i = .int .i64 k ∧ Hid (ts.length = 8 ∧ Dg 18446744073709551616 ts ∧ vl 18446744073709551616 ts = vl 18446744073709551616 (xs.take k) * vl 18446744073709551616 ys ∧ ∀ i, k + 4 ≤ i → ts.getD i 0 = 0) ∧
      wr = Gr ((((w.alloc (.cells (U xs) 123)).alloc (.cells (U ys) 123)).alloc (.cells #[.int .u64 0, .int .u64 0, .int .u64 0, .int .u64 0] 123)).alloc (.cells (U ts) 155)) os n) (fun i _ => (4 - intOf i).toNat)
  case atStart => 
    refine ⟨0, [0, 0, 0, 0, 0, 0, 0, 0], #[], w.drawn, by omega, rfl, ⟨rfl, ?_, ?_, ?_⟩, ?_⟩
    · intro d hd; simp at hd; omega
    · simp [vl]
    · intro i _; match i with | 0 | 1 | 2 | 3 | 4 | 5 | 6 | 7 => rfl | n + 8 => rfl
    · rw [HX.out, HY.out]; exact Gr.nil _
  case round =>
    obtain ⟨k, ts, os, n, hk, rfl, HT, rfl⟩ := hrel
    by_cases hlt : k < 4
    · have hxk := U.get xs k (by omega)
      have hXk := dx.getD k (by omega)
      generalize hX : xs.getD k 0 = X at hxk hXk
      have HXk : Hid (xs.getD k 0 = X) := hX
      clear hX
      by_cases hX0 : X = 0
      · have hq : (X == 0) = true := by simp [hX0]
        have hk4 : (k : Int) < 4 := by omega
        go_wp2
        go_roundw
        case rel =>
          have h := HT.out
          refine ⟨k + 1, ts, os, n, by omega, by go_num, ⟨h.1, h.2.1, ?_, fun i hi => h.2.2.2 i (by omega)⟩, rfl⟩
          rw [h.2.2.1, vl_take_succ _ _ _ (by omega), HXk.out, hX0, Int.mul_zero, Int.add_zero]
        case measure => simp [intOf]; omega
      · have hq : (X == 0) = false := by simp [hX0]
        have hk4 : (k : Int) < 4 := by omega
        go_wp2
        go_loopw [8, 20] (fun c j wr => ∃ (jj : Nat) (ts' : List Int) (C : Int) (n' : Nat), jj ≤ 4 ∧ j = .int .i64 jj ∧ c = .int .u64 C ∧ 0 ≤ C ∧ C < 18446744073709551616 ∧ Hid (Row 18446744073709551616 ys ts X k jj ts' C) ∧
            wr = Gr ((((w.alloc (.cells (U xs) 123)).alloc (.cells (U ys) 123)).alloc (.cells #[.int .u64 0, .int .u64 0, .int .u64 0, .int .u64 0] 123)).alloc (.cells (U ts') 155)) os n') (fun _ j _ => (4 - intOf j).toNat)
        case atStart => exact ⟨0, ts, 0, n, by omega, rfl, rfl, by omega, by omega, Row.start (by omega) HT.out.2.1, rfl⟩
        case round =>
          obtain ⟨j, ts', C, n', hj, rfl, rfl, hC0, hC1, HR, rfl⟩ := hrel
          have hlen : ts'.length = 8 := by rw [HR.out.1]; exact HT.out.1
          by_cases hjl : j < 4
          · have hyj := U.get ys j (by omega)
            have hYj := dy.getD j (by omega)
            have htj := U.get ts' (k + j) (by omega)
            have hTj := HR.out.2.1.getD (k + j) (by omega)
            generalize hY : ys.getD j 0 = Y at hyj hYj
            generalize hT : ts'.getD (k + j) 0 = T at htj hTj
            have HYT : Hid (ys.getD j 0 = Y ∧ ts'.getD (k + j) 0 = T) := ⟨hY, hT⟩
            have HL : Hid (ts'.length = 8 ∧ ys.length = 4 ∧ ts.length = 8) := ⟨hlen, ly, HT.out.1⟩
            have CC := fun w => timesPlus_any X Y T C (by omega) (by omega) (by omega) (by omega) (by omega) (by omega) (by omega) (by omega) w
            clear hY hT hlen hX0 lx ly dx dy hlt
            have j4 : (j : Int) < 4 := by omega
            have kj0 : (0 : Int) ≤ (k : Int) + (j : Int) := by omega
            have kj1 : (k : Int) + (j : Int) < 8 := by omega
            have kjw : IntKind.i64.wrap ((k : Int) + (j : Int)) = (k : Int) + (j : Int) := by rw [IntKind.wrap_i64]; omega
            have kjn : ((k : Int) + (j : Int)).toNat = k + j := by omega
            go_wp2
            go_region_with (go_at_call 130; refine (CC _).mono ?_; rintro e w1 ⟨h, l, rfl, p, q, r, s, E, rfl⟩)
            all_goals
              go_wp2
              go_roundw
              case rel =>
                refine ⟨j + 1, ts'.set (k + j) l, h, _, by omega, by go_num, rfl, p, q, ?_, rfl⟩
                have a := HL.out
                refine HR.out.step (by omega) (by omega) r s p q ?_
                rw [HYT.out.1, HYT.out.2]; exact E.out
              case measure => simp [intOf]; omega
          · obtain rfl : j = 4 := by omega
            have htk := U.get ts' (k + 4) (by omega)
            go_wp2
            go_roundw
            case rel =>
              have h := HT.out
              have hv := HV.out
              have hr := HR.out
              rw [← hv.2.2.2] at hr
              have hf := hr.fin (by omega) (by rw [hv.2.2.2]; exact h.2.2.2 _ (by omega))
              rw [hv.2.2.2] at hf
              refine ⟨k + 1, ts'.set (k + 4) C, os, _, by omega, by go_num, ⟨by simp [hlen], hf.2, ?_, fun i hi => ?_⟩, rfl⟩
              · rw [hf.1, h.2.2.1, vl_take_succ _ _ _ (by omega), HXk.out, Int.add_mul, Int.mul_assoc]
              · simp only [List.getD_eq_getElem?_getD]
                rw [List.getElem?_set_ne (by omega), ← List.getD_eq_getElem?_getD, HR.out.2.2.2.2.2 i (by omega)]
                exact h.2.2.2 i (by omega)
            case measure => simp [intOf]; omega
    · obtain rfl : k = 4 := by omega
      have h := HT.out
      have hv := HV.out
      obtain ⟨t0, t1, t2, t3, t4, t5, t6, t7, rfl⟩ := list8 h.1
      have hlow : Is t0 t1 t2 t3 (t0 + 18446744073709551616 * t1 + 340282366920938463463374607431768211456 * t2 + 6277101735386680763835789423207666416102355444464034512896 * t3) := is_of_dg h.2.1 (by simp) (by simp) (by simp) (by simp)
      have hhigh : Is t4 t5 t6 t7 (t4 + 18446744073709551616 * t5 + 340282366920938463463374607431768211456 * t6 + 6277101735386680763835789423207666416102355444464034512896 * t7) := is_of_dg h.2.1 (by simp) (by simp) (by simp) (by simp)
      have hprod : x * y = t0 + 18446744073709551616 * t1 + 340282366920938463463374607431768211456 * t2 + 6277101735386680763835789423207666416102355444464034512896 * t3 + 115792089237316195423570985008687907853269984665640564039457584007913129639936 * (t4 + 18446744073709551616 * t5 + 340282366920938463463374607431768211456 * t6 + 6277101735386680763835789423207666416102355444464034512896 * t7) := by
        have h2 := h.2.2.1
        rw [List.take_of_length_le (by omega), hv.1, hv.2.1] at h2
        rw [← h2]; simp only [vl]; omega
      have HP : Hid (x * y = t0 + 18446744073709551616 * t1 + 340282366920938463463374607431768211456 * t2 + 6277101735386680763835789423207666416102355444464034512896 * t3 + 115792089237316195423570985008687907853269984665640564039457584007913129639936 * (t4 + 18446744073709551616 * t5 + 340282366920938463463374607431768211456 * t6 + 6277101735386680763835789423207666416102355444464034512896 * t7)) := hprod
      clear h hprod HT hlt dx dy lx ly
      rw [show U [t0, t1, t2, t3, t4, t5, t6, t7] = #[.int .u64 t0, .int .u64 t1, .int .u64 t2, .int .u64 t3, .int .u64 t4, .int .u64 t5, .int .u64 t6, .int .u64 t7] from rfl]
      by_cases hz : t4 + 18446744073709551616 * t5 + 340282366920938463463374607431768211456 * t6 + 6277101735386680763835789423207666416102355444464034512896 * t7 = 0
      · have he : ∀ w, (Op.equalIn 10000 123 (.agg #[.int .u64 t4, .int .u64 t5, .int .u64 t6, .int .u64 t7]) (.agg #[.int .u64 0, .int .u64 0, .int .u64 0, .int .u64 0])).run Try.prog w = .ok true w := fun w => by rw [eqS hhigh Is.zero]; simp [hz]
        have hxy : x * y < 115792089237316195423570985008687907853269984665640564039457584007913129639936 ∧ x * y = t0 + 18446744073709551616 * t1 + 340282366920938463463374607431768211456 * t2 + 6277101735386680763835789423207666416102355444464034512896 * t3 := by have := HP.out; rw [hz] at this; have := hlow.range; omega
        have HXY : Hid (x * y < 115792089237316195423570985008687907853269984665640564039457584007913129639936 ∧ x * y = t0 + 18446744073709551616 * t1 + 340282366920938463463374607431768211456 * t2 + 6277101735386680763835789423207666416102355444464034512896 * t3) := hxy
        clear hz hxy
        go_wp2
        refine wp_loop_rounds 5 ?_
        rw [rounds_succ]; go_wp2; go_region; go_wp2
        rw [rounds_succ]; go_wp2; go_region; go_wp2
        rw [rounds_succ]; go_wp2; go_region; go_wp2
        rw [rounds_succ]; go_wp2; go_region; go_wp2
        rw [rounds_succ]; go_wp2
        refine bodyPost_ret (v := .tuple #[.agg #[.int .u64 t0, .int .u64 t1, .int .u64 t2, .int .u64 t3], .bool true]) (by simp [results, Try.results119, go_sem]) rfl ⟨t0, t1, t2, t3, true, rfl, Or.inl ⟨rfl, HXY.out.1, ?_⟩, (by with_reducible repeat (first | exact IsGr.refl _ | refine IsGr.gr ?_ _ _ | refine IsGr.alloc ?_ _ | refine IsGr.drew ?_ | refine IsGr.drewN ?_ _))⟩
        rw [HXY.out.2]; exact hlow
      · have he : ∀ w, (Op.equalIn 10000 123 (.agg #[.int .u64 t4, .int .u64 t5, .int .u64 t6, .int .u64 t7]) (.agg #[.int .u64 0, .int .u64 0, .int .u64 0, .int .u64 0])).run Try.prog w = .ok false w := fun w => by rw [eqS hhigh Is.zero]; simp [hz]
        have HXY : Hid (¬ x * y < 115792089237316195423570985008687907853269984665640564039457584007913129639936) := by
          unfold Hid; rw [HP.out]; have a := hlow.range; have b := hhigh.range; omega
        clear hz
        go_wp2
        refine wp_loop_rounds 5 ?_
        rw [rounds_succ]; go_wp2; go_region; go_wp2
        rw [rounds_succ]; go_wp2; go_region; go_wp2
        rw [rounds_succ]; go_wp2; go_region; go_wp2
        rw [rounds_succ]; go_wp2; go_region; go_wp2
        rw [rounds_succ]; go_wp2
        refine bodyPost_ret (v := .tuple #[.agg #[.int .u64 0, .int .u64 0, .int .u64 0, .int .u64 0], .bool false]) (by simp [results, Try.results119, go_sem]) rfl ⟨0, 0, 0, 0, false, rfl, Or.inr ⟨rfl, Int.not_lt.2 HXY.out, rfl, rfl, rfl, rfl⟩, (by with_reducible repeat (first | exact IsGr.refl _ | refine IsGr.gr ?_ _ _ | refine IsGr.alloc ?_ _ | refine IsGr.drew ?_ | refine IsGr.drewN ?_ _))⟩
end Go.Proofs.Ytohhlhoijanjfaa
