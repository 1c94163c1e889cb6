/- Products of numbers of package gromaref01. -/
import Derived.Test.YtfpifbfnebfdaaaDoorR10
import Derived.Deep.OwnRows
namespace Go.Proofs.YtfpifbfnebfdaaaDoor
open Go.RowKit
attribute [local go_sem] Gr.size Gr.cell? Gr.frozen? Gr.setCell Gr.drew Gr.drewN Gr.of_drew Gr.of_drewN Gr.gr Gr.lt_of1 Gr.le_of1 Gr.lt_of2 Gr.le_of2 Gr.lt_of3 Gr.le_of3 Gr.lt_of4 Gr.le_of4 Gr.lt_of5 Gr.le_of5 Gr.lt_of6 Gr.le_of6 Gr.lt_of7 Gr.le_of7 Gr.lt_of8 Gr.le_of8

/-- The cells of a list of ints. -/
def I6 (xs : List Int) : Array Value := (xs.map (Value.int .i64)).toArray
theorem I6.get (xs : List Int) (i : Nat) (h : i < xs.length) : (I6 xs)[i]? = some (.int .i64 (xs.getD i 0)) := by
  simp [I6, h, List.getD]
theorem I6.set (xs : List Int) (i : Nat) (v : Int) : (I6 xs).setIfInBounds i (.int .i64 v) = I6 (xs.set i v) := by
  simp [I6, List.map_set]
theorem I6.size (xs : List Int) : (I6 xs).size = xs.length := by simp [I6]
theorem I6.made (n : Nat) : madeCells #[.int .i64 0] n = I6 (List.replicate n 0) := by
  apply Array.ext_getElem?
  intro i
  by_cases h : i < n
  · rw [I6.get _ _ (by simp; exact h)]; simp [madeCells, h, List.getD, Nat.mod_one]
  · rw [Array.getElem?_eq_none (by simp [madeCells]; omega), Array.getElem?_eq_none (by rw [I6.size]; simp; omega)]

theorem dig_prod {X Y : Int} (hX : 0 ≤ X ∧ X < 32768) (hY : 0 ≤ Y ∧ Y < 32768) : 0 ≤ X * Y ∧ X * Y ≤ 1073676289 := by
  have h1 := Int.mul_nonneg hX.1 hY.1
  have h2 : X * Y ≤ 32767 * Y := Int.mul_le_mul_of_nonneg_right (by omega) hY.1
  omega

theorem mul_sgn (s t : Bool) (x y : Int) : sgn (s != t) (x * y) = sgn s x * sgn t y := by
  cases s <;> cases t <;> simp [sgn, Int.neg_mul, Int.mul_neg]

attribute [local go_sem] I6.set

set_option maxHeartbeats 4000000 in
theorem BigMul_any (u v : Value) (x y : Int) (w : World) (hu : IsBig w u x) (hv : IsBig w v y) (sx : Sm x) (sy : Sm y) :
    Calls Tryd.prog 13 #[u, v] w fun e w' => ∃ z, e = .returned z ∧ IsBig w' z (x * y) ∧ IsGr w w' := by
  obtain ⟨s, a, n, c, ds, rfl, hd, dd, td, hn, hl, hs, hz⟩ := hu.open sx
  obtain ⟨s2, a2, n2, c2, ds2, rfl, hd2, dd2, td2, hn2, hl2, hs2, hz2⟩ := hv.open sy
  have HZ : Hid (sgn (s != s2) (vl 32768 ds * vl 32768 ds2) = x * y) := by unfold Hid; rw [mul_sgn, hz, hz2]
  have HL : Hid (n = ds.length ∧ n2 = ds2.length) := ⟨hn, hn2⟩
  have hmk := fun w => run_make_row' (P := Tryd.prog) 27 3 (.int .i64 0) 8 Tryd.underlying27 info_int rfl .i64 .i64 (n + n2 + 1) (by omega) (by omega) w
  rw [show ((n + n2 + 1 : Nat) : Int) = (n : Int) + n2 + 1 by omega, I6.made] at hmk
  have HST : Hid ((List.replicate (n + n2 + 1) (0 : Int)).length = n + n2 + 1 ∧ Dg 32768 (List.replicate (n + n2 + 1) (0 : Int)) ∧ vl 32768 (List.replicate (n + n2 + 1) (0 : Int)) = vl 32768 (ds.take 0) * vl 32768 ds2 ∧ ∀ j, 0 + n2 ≤ j → (List.replicate (n + n2 + 1) (0 : Int)).getD j 0 = 0) := by
    refine ⟨by simp, fun d hd => by simp at hd; omega, ?_, fun j _ => ?_⟩
    · have : ∀ k, vl 32768 (List.replicate k (0 : Int)) = 0 := by
        intro k; induction k with
        | zero => rfl
        | succ k ih => simp [List.replicate_succ, vl, ih]
      rw [this]; simp [vl]
    · simp [List.getD, List.getElem?_replicate]; split <;> rfl
  generalize List.replicate (n + n2 + 1) (0 : Int) = ts0 at hmk HST
  clear hz hz2 hn hn2 hs hs2 hu hv td td2
  go_enter Tryd.func13, Tryd.ntmps13
  go_wp2
  go_loopw [6] (fun t6 wr => ∃ (i : Nat) (ts : List Int) (d : Nat), i ≤ n ∧ t6 = .int .i64 i ∧ Hid (ts.length = n + n2 + 1 ∧ Dg 32768 ts ∧ vl 32768 ts = vl 32768 (ds.take i) * vl 32768 ds2 ∧ ∀ j, i + n2 ≤ j → ts.getD j 0 = 0) ∧
      wr = Gr ((((w.alloc (.cells #[.bool s, .slice a n c] 29)).alloc (.cells #[.bool s2, .slice a2 n2 c2] 29)).alloc (.cells #[.bool false, .slice none 0 0] 29)).alloc (.cells (I6 ts) 3)) #[] d) (fun t6 _ => (n - intOf t6).toNat)
  case atStart => exact ⟨0, ts0, w.drawn, by omega, rfl, HST.out, Gr.nil _⟩
  case round =>
    obtain ⟨i, ts, d, hi, rfl, HT, rfl⟩ := hrel
    by_cases hlt : i < n
    · obtain ⟨-, g, o, rfl, hg, hc⟩ := hd.at hlt
      have hcx := hc i hlt
      have hX := dd.getD i (by have := HL.out; omega)
      have HE := vl_take_succ 32768 ds i (by have := HL.out; omega)
      generalize ds.getD i 0 = X at hcx hX HE
      have HX : Hid (vl 32768 (ds.take (i + 1)) = vl 32768 (ds.take i) + 32768 ^ i * X) := HE
      clear hc HE
      go_wp2
      go_loopw [7, 8] (fun t7 t8 wr => ∃ (j : Nat) (ts' : List Int) (C : Int) (d' : Nat), j ≤ n2 ∧ t8 = .int .i64 j ∧ t7 = .int .i64 C ∧ 0 ≤ C ∧ C < 32768 ∧ Hid (Row 32768 ds2 ts X i j ts' C) ∧
          wr = Gr ((((w.alloc (.cells #[.bool s, .slice (some ⟨g, o, none⟩) n c] 29)).alloc (.cells #[.bool s2, .slice a2 n2 c2] 29)).alloc (.cells #[.bool false, .slice none 0 0] 29)).alloc (.cells (I6 ts') 3)) #[] d') (fun _ t8 _ => (n2 - intOf t8).toNat)
      case atStart => exact ⟨0, ts, 0, d, by omega, rfl, rfl, by omega, by omega, Row.start (by omega) HT.out.2.1, rfl⟩
      case round =>
        obtain ⟨j, ts', C, d', hj, rfl, rfl, C0, C1, HR, rfl⟩ := hrel
        have hlen : ts'.length = n + n2 + 1 := by rw [HR.out.1]; exact HT.out.1
        by_cases hjl : j < n2
        · obtain ⟨-, g2, o2, rfl, hg2, hc2⟩ := hd2.at hjl
          have hcy := hc2 j hjl
          have hY := dd2.getD j (by have := HL.out; omega)
          have htj := I6.get ts' (i + j) (by omega)
          have hTj := HR.out.2.1.getD (i + j) (by omega)
          generalize hYe : ds2.getD j 0 = Y at hcy hY
          generalize hTe : ts'.getD (i + j) 0 = T at htj hTj
          have HYT : Hid (ds2.getD j 0 = Y ∧ ts'.getD (i + j) 0 = T ∧ ts'.length = n + n2 + 1) := ⟨hYe, hTe, hlen⟩
          have hP := dig_prod hX hY
          obtain ⟨P, hPe, HP⟩ : ∃ P, X * Y = P ∧ Hid (X * Y = P) := ⟨_, rfl, rfl⟩
          rw [hPe] at hP
          have kjw : IntKind.i64.wrap ((i : Int) + (j : Int)) = (i : Int) + (j : Int) := by rw [IntKind.wrap_i64]; omega
          have kjn : ((i : Int) + (j : Int)).toNat = i + j := by omega
          clear hc2 hYe hTe hlen
          go_wp2
          go_region
          go_wp2
          go_roundw
          case rel =>
            refine ⟨j + 1, ts'.set (i + j) ((T + P + C) % 32768), (T + P + C) / 32768, _, by omega, by go_num, rfl, by omega, by omega, ?_, rfl⟩
            have b := HYT.out
            refine HR.out.step (by have := HL.out; omega) (by omega) (by omega) (by omega) (by omega) (by omega) ?_
            rw [b.1, b.2.1, HP.out]; omega
          case measure => simp [intOf]; omega
        · obtain rfl : j = n2 := by omega
          have hz0 : ts'.getD (i + j) 0 = 0 := by rw [HR.out.2.2.2.2.2 (i + j) (Nat.le_refl _)]; exact HT.out.2.2.2 _ (Nat.le_refl _)
          have htj := I6.get ts' (i + j) (by omega)
          rw [hz0] at htj
          have hR := HR.out
          have hT := HT.out
          have hF : vl 32768 (ts'.set (i + j) C) = vl 32768 ts + 32768 ^ i * (X * vl 32768 ds2) ∧ Dg 32768 (ts'.set (i + j) C) := by
            have e := HL.out.2
            rw [e] at hR ⊢
            exact hR.fin (by omega) (hT.2.2.2 _ (by omega))
          have HF : Hid ((ts'.set (i + j) C).length = n + j + 1 ∧ Dg 32768 (ts'.set (i + j) C) ∧ vl 32768 (ts'.set (i + j) C) = vl 32768 (ds.take (i + 1)) * vl 32768 ds2 ∧ ∀ q, i + 1 + j ≤ q → (ts'.set (i + j) C).getD q 0 = 0) := by
            refine ⟨by simp [hlen], hF.2, ?_, fun q hq => ?_⟩
            · rw [hF.1, hT.2.2.1, HX.out, Int.add_mul, Int.mul_assoc]
            · simp only [List.getD_eq_getElem?_getD]
              rw [List.getElem?_set_ne (by omega)]
              have h1 := hR.2.2.2.2.2 q (by omega)
              have h2 := hT.2.2.2 q (by omega)
              rw [List.getD_eq_getElem?_getD] at h1
              rw [h1, h2]
          have kjw : IntKind.i64.wrap ((i : Int) + (j : Int)) = (i : Int) + (j : Int) := by rw [IntKind.wrap_i64]; omega
          have kjn : ((i : Int) + (j : Int)).toNat = i + j := by omega
          clear hz0 hR hT hF hlen HR HT
          go_wp2
          go_roundw
          case rel => exact ⟨i + 1, _, _, by omega, by go_num, HF.out, rfl⟩
          case measure => simp [intOf]; omega
    · obtain rfl : i = n := by omega
      have hT := HT.out
      have hlen : ts.length = i + n2 + 1 := hT.1
      have HV : Hid (vl 32768 ts = vl 32768 ds * vl 32768 ds2) := by
        unfold Hid; rw [hT.2.2.1, List.take_of_length_le (by have := HL.out; omega)]
      have dt : Dg 32768 ts := hT.2.1
      have CT := fun w1 (hg : IsGr (Gr ((((w.alloc (.cells #[.bool s, .slice a i c] 29)).alloc (.cells #[.bool s2, .slice a2 n2 c2] 29)).alloc (.cells #[.bool false, .slice none 0 0] 29)).alloc (.cells (I6 ts) 3)) #[] d) w1) =>
        trim_any (s != s2) (some ⟨w.heap.size + 1 + 1 + 1, 0, none⟩) (i + n2 + 1) (i + n2 + 1) ts w1 (Digs.gr ⟨some ⟨w.heap.size + 1 + 1 + 1, 0, none⟩, i + n2 + 1, by rw [hlen], by omega, by unfold maxLen; omega, Or.inr ⟨w.heap.size + 1 + 1 + 1, 0, rfl, by simp [Gr.size], fun q hq => by
          rw [Gr.cell? _ _ _ _ _ (by simp), World.cell?_alloc_at _ _ _ _ (by simp), Nat.zero_add, I6.get _ _ hq]⟩⟩ hg) dt (by omega)
      rw [HV.out, HZ.out] at CT
      clear hT hlen dt HT
      go_wp2_with fail
      refine (CT _ ?_).mono ?_
      exact (by with_reducible repeat (first | exact IsGr.refl _ | refine IsGr.gr ?_ _ _ | refine IsGr.alloc ?_ _ | refine IsGr.drew ?_ | refine IsGr.drewN ?_ _))
      rintro e w1 ⟨r, rfl, hr, os1, d1, rfl⟩
      obtain ⟨rs, ra, rn, rc, rfl⟩ := hr.shape
      simp only [Gr.gr, Array.empty_append] at hr
      go_wp2
      refine bodyPost_ret (v := .agg #[.bool rs, .slice ra rn rc]) (by simp [results, Tryd.results13, go_sem]) rfl ⟨_, rfl, ?_, (by with_reducible repeat (first | exact IsGr.refl _ | refine IsGr.gr ?_ _ _ | refine IsGr.alloc ?_ _ | refine IsGr.drew ?_ | refine IsGr.drewN ?_ _))⟩
      refine hr.kb ?_
      with_reducible repeat (first | exact Kb.refl _ | refine Kb.gr ?_ (by first | (simp; done) | simp [Gr.size]) _ _ _ | refine Kb.gr_app ?_ (by first | (simp; done) | simp [Gr.size]) _ _ _ _ | refine Kb.box ?_ (by first | (simp; done) | simp [Gr.size]) _ _ _ _ _ _ _ _ _ | refine Kb.alloc ?_ (by first | (simp; done) | simp [Gr.size]) _ | refine Kb.drew_l ?_ | refine Kb.drew_r ?_ | refine Kb.lay ?_ _ | refine Kb.grow ?_ _ _)
end Go.Proofs.YtfpifbfnebfdaaaDoor
