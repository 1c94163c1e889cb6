/- gromalaw03.PointHulls: the law answers true, wherever Hull answers what it should. -/
import Derived.Test.YtohhlhoijanjfaaU22g
import Derived.Test.YtohhlhoijanjfaaU10g
import Derived.Test.YtohhlhoijanjfaaU9
import Derived.Test.YtohhlhoijanjfaaU6
namespace Go.Proofs.Ytohhlhoijanjfaa
open Go.RowKit Go.Shelf
attribute [local go_sem] Gr.size Gr.cell? Gr.frozen? Gr.setCell Gr.drew Gr.drewN Gr.of_drew Gr.of_drewN Gr.gr Gr.lt_of1 Gr.le_of1 Gr.lt_of2 Gr.le_of2 Gr.lt_of3 Gr.le_of3 Gr.lt_of4 Gr.le_of4 Gr.lt_of5 Gr.le_of5 Gr.lt_of6 Gr.le_of6 Gr.lt_of7 Gr.le_of7 Gr.lt_of8 Gr.le_of8 Gr.lt_of9 Gr.le_of9 Gr.lt_of10 Gr.le_of10 Gr.lt_of11 Gr.le_of11 Gr.lt_of12 Gr.le_of12 Gr.lt_of13 Gr.le_of13 Gr.lt_of14 Gr.le_of14 Gr.lt_of15 Gr.le_of15 Gr.lt_of16 Gr.le_of16 Gr.lt_of17 Gr.le_of17 Gr.lt_of18 Gr.le_of18 Gr.lt_of19 Gr.le_of19 Gr.lt_of20 Gr.le_of20 Gr.lt_of21 Gr.le_of21 Gr.lt_of22 Gr.le_of22 Gr.lt_of23 Gr.le_of23 Gr.lt_of24 Gr.le_of24

/-- What Hull must tell of right points. -/
def HullP (l hs : List (Int × Int)) : Prop := (l = [] ∧ hs = []) ∨ (l ≠ [] ∧ HullT hs l)
theorem allR_take9 {l : List (Int × Int)} {k : Nat} (h : k < l.length) : allR (l.take (k + 1)) = (allR (l.take k) && rightP (l.getD k (0, 0)).1 (l.getD k (0, 0)).2) := by
  rw [take_getD5 h]; unfold allR; simp
theorem ptCs_take9 {l : List (Int × Int)} {k : Nat} (h : k < l.length) : ptCs (l.take (k + 1)) = ptCs (l.take k) ++ ptCs [((l.getD k (0, 0)).1, (l.getD k (0, 0)).2)] := by
  rw [take_getD5 h, ptCs_append]
theorem way_nonneg {a b p : Int × Int} (h : 0 ≤ tP a b p) : 0 ≤ wayP a.1 a.2 b.1 b.2 p.1 p.2 := by
  unfold wayP
  split
  · unfold tP at h
    unfold cmpI
    repeat' split
    all_goals omega
  · omega
theorem way_pos {a b p : Int × Int} (h : 0 < tP a b p) (ra : rightP a.1 a.2 = true) (rb : rightP b.1 b.2 = true) (rp : rightP p.1 p.2 = true) : 0 < wayP a.1 a.2 b.1 b.2 p.1 p.2 := by
  unfold wayP
  rw [if_pos (by simp [right3, ra, rb, rp])]
  unfold tP at h
  rw [cmpI_gt h]
  decide
theorem ahead_not {p f : Int × Int} (h : ltP 1 f p ∨ p = f) : aheadP p.1 p.2 f.1 f.2 = false := by
  unfold aheadP
  rw [decide_eq_false_iff_not]
  rcases h with h | rfl
  · unfold ltP posV at h; omega
  · omega
theorem on_hull {f m p : Int × Int} (rf : rightP f.1 f.2 = true) (rm : rightP m.1 m.2 = true) (rp : rightP p.1 p.2 = true) (h0 : tP f m p = 0) (h1 : ltP 1 f p ∨ p = f) (h2 : ltP 1 p m ∨ p = m) : onP f.1 f.2 m.1 m.2 p.1 p.2 = true := by
  have r3 : right3 f.1 f.2 m.1 m.2 p.1 p.2 = true := by simp [right3, rf, rm, rp]
  have w0 : wayP f.1 f.2 m.1 m.2 p.1 p.2 = 0 := by
    unfold wayP
    rw [if_pos r3]
    exact cmpI_eq h0
  have b0 : betw f.1 f.2 m.1 m.2 p.1 p.2 = true := by
    unfold betw
    rw [decide_eq_true_eq]
    have k1 : cmpP f.1 f.2 p.1 p.2 ≤ 0 := by
      rcases cmpP_cases f.1 f.2 p.1 p.2 with ⟨e, g⟩ | ⟨e, g⟩ | ⟨e, g⟩
      · omega
      · omega
      · rcases h1 with h | rfl
        · unfold ltP posV at h; omega
        · omega
    have k2 : cmpP p.1 p.2 m.1 m.2 ≤ 0 := by
      rcases cmpP_cases p.1 p.2 m.1 m.2 with ⟨e, g⟩ | ⟨e, g⟩ | ⟨e, g⟩
      · omega
      · omega
      · rcases h2 with h | rfl
        · unfold ltP posV at h; omega
        · omega
    have := Int.mul_nonneg (show 0 ≤ -cmpP f.1 f.2 p.1 p.2 by omega) (show 0 ≤ -cmpP p.1 p.2 m.1 m.2 by omega)
    rwa [Int.neg_mul_neg] at this
  unfold onP
  rw [r3, w0, b0]
  rfl
/-- Is x among the first k? -/
def hasK (l : List (Int × Int)) (x1 x2 : Int) : Nat → Bool
  | 0 => false
  | k + 1 => hasK l x1 x2 k || ((l.getD k (0, 0)).1 == x1 && (l.getD k (0, 0)).2 == x2)
theorem hasK_mem {l : List (Int × Int)} {x1 x2 : Int} (h : (x1, x2) ∈ l) : hasK l x1 x2 l.length = true := by
  obtain ⟨i, hi, e⟩ := List.getElem_of_mem h
  have key : ∀ k, i < k → hasK l x1 x2 k = true := fun k => by
    induction k with
    | zero => intro h; omega
    | succ k ih =>
      intro hk
      unfold hasK
      rcases (by omega : i < k ∨ i = k) with g | rfl
      · rw [ih g]; rfl
      · have : l.getD i (0, 0) = (x1, x2) := by rw [← e]; simp [hi]
        rw [this]
        simp
  exact key _ hi


set_option maxRecDepth 20000 in set_option maxHeartbeats 2000000 in
theorem law_hulls_few (a : Option Addr) (n c : Nat) (l : List (Int × Int)) (w : World) (h : Pts w (.slice a n c) l) (hn : n ≤ 60)
    (CH0 : allR l = false → ∀ w1, IsGr w w1 → Calls Try.prog 16 #[.slice a n c] w1 fun e w' => e = .returned (.tuple #[.slice none 0 0, .bool false]) ∧ IsGr w1 w')
    (CH1 : allR l = true → ∀ w1, IsGr w w1 → Calls Try.prog 16 #[.slice a n c] w1 fun e w' => ∃ v hs, e = .returned (.tuple #[v, .bool true]) ∧ Pts w' v hs ∧ Hid (HullP l hs) ∧ hs.length ≤ 200 ∧ IsGr w1 w') :
    Calls Try.prog 4 #[.slice a n c] w fun e w' => e = .returned (.bool true) ∧ IsGr w w' := by
  obtain ⟨i0, hi, hz0, hz1, hz2⟩ := info_parts info_p5
  have HP : Hid (Pts w (.slice a n c) l) := h
  have HL : Hid (n = l.length) := h.len
  have Hn : Hid (n ≤ 60) := hn
  have hn' : (n : Int) ≤ 60 := by omega
  have CA := fun w => awake3_any w
  have H0 : Hid (allR l = false → ∀ w1, IsGr w w1 → Calls Try.prog 16 #[.slice a n c] w1 fun e w' => e = .returned (.tuple #[.slice none 0 0, .bool false]) ∧ IsGr w1 w') := CH0
  have H1 : Hid (allR l = true → ∀ w1, IsGr w w1 → Calls Try.prog 16 #[.slice a n c] w1 fun e w' => ∃ v hs, e = .returned (.tuple #[v, .bool true]) ∧ Pts w' v hs ∧ Hid (HullP l hs) ∧ hs.length ≤ 200 ∧ IsGr w1 w') := CH1
  clear h hn CH0 CH1
  go_enter Try.func4, Try.ntmps4
  go_wp2
  go_loopw [3, 4, 21] (fun t3 t4 t21 wr => ∃ k : Nat, k ≤ n ∧ t21 = .int .i64 k ∧ t3 = .bool (allR (l.take k)) ∧ wr.ownsRow w.heap.size 24 2 t4 k (ptCs (l.take k)) ∧ Hid (Below w.heap.size w wr)) (fun _ _ t21 _ => (n - intOf t21).toNat)
  case atStart => exact ⟨0, by omega, rfl, by simp [allR], World.ownsRow_nil _ _ _ _, Below.refl _ _⟩
  case round =>
    obtain ⟨k, hk, rfl, rfl, hown, HB⟩ := hrel
    obtain ⟨W2, hW2⟩ : ∃ W2, W2 = wr := ⟨_, rfl⟩
    subst hW2
    have kw : w.heap.size ≤ W2.heap.size := HB.out.size
    by_cases hkn : k < n
    · have hkl : k < l.length := by have := HL.out; omega
      have hP := HP.out.gr (IsGr.of_below HB.out)
      obtain ⟨g9, o9, rfl, hgs, hc⟩ := hP.at hkn
      obtain ⟨e1, e2⟩ := hc k hkn
      have hkn' : (k : Int) < n := by omega
      have v1 : IntKind.i64.wrap ((k : Int) + 1) = (k : Int) + 1 := by rw [IntKind.wrap_i64]; omega
      have HA : Hid (allR (l.take (k + 1)) = (allR (l.take k) && rightP (l.getD k (0, 0)).1 (l.getD k (0, 0)).2)) := allR_take9 hkl
      have HT : Hid (ptCs (l.take (k + 1)) = ptCs (l.take k) ++ ptCs [((l.getD k (0, 0)).1, (l.getD k (0, 0)).2)]) := ptCs_take9 hkl
      clear hc hP H0 H1
      generalize (l.getD k (0, 0)).1 = x at *
      generalize (l.getD k (0, 0)).2 = y at *
      have FX := fun w => pref_any x y w
      have RX := fun w => RefRight_any x y w
      generalize rightP x y = rx at RX HA
      obtain ⟨R0, hR0⟩ : ∃ R0, R0 = allR (l.take k) := ⟨_, rfl⟩
      rw [← hR0]
      have HR1 : Hid ((R0 && rx) = allR (l.take (k + 1))) := by unfold Hid; rw [hR0, HA.out]
      clear HA hR0
      go_upto_region 8 with fail
      go_cut [3, 21] from 21 to 35 (fun t3 t21 wx => t3 = .bool (R0 && rx) ∧ t21 = .int .i64 k ∧ (wx.cell? ⟨W2.heap.size, 0, none⟩ = some (.int .i64 x) ∧ wx.cell? ⟨W2.heap.size, 1, none⟩ = some (.int .i64 y)) ∧ W2.heap.size < wx.heap.size ∧ IsGr W2 wx)
      case first =>
        cases R0
        · go_wp2
          go_meet
          case rel =>
            refine ⟨rfl, rfl, ?_, ?_, (by with_reducible repeat (first | exact IsGr.refl _ | refine IsGr.gr ?_ _ _ | refine IsGr.alloc ?_ _ | refine IsGr.drew ?_ | refine IsGr.drewN ?_ _))⟩
            · simp [go_sem]
            · first | omega | (simp; done) | (simp; omega) | (simp [Gr.size]; done) | (simp [Gr.size]; omega)
        · go_wp2_with fail
          refine (FX _).mono ?_
          rintro e w1 ⟨rfl, os3, dr3, rfl⟩
          go_wp2_with fail
          refine (RX _).mono ?_
          rintro e w1 ⟨rfl, os4, dr4, rfl⟩
          go_wp2
          go_meet
          case rel =>
            refine ⟨by simp, rfl, ?_, ?_, (by with_reducible repeat (first | exact IsGr.refl _ | refine IsGr.gr ?_ _ _ | refine IsGr.alloc ?_ _ | refine IsGr.drew ?_ | refine IsGr.drewN ?_ _))⟩
            · simp [go_sem]
            · first | omega | (simp; done) | (simp; omega) | (simp [Gr.size]; done) | (simp [Gr.size]; omega)
      case rest =>
        obtain ⟨rfl, rfl, ⟨x1', x2'⟩, kp, hgr⟩ := hcut
        obtain ⟨W4, hW9⟩ : ∃ W4, W4 = wc := ⟨_, rfl⟩
        subst hW9
        replace hown := own_gr5 hown hgr
        replace HB : Hid (Below w.heap.size w W4) := HB.out.trans (hgr.below.mono kw)
        have hsz := hgr.size
        clear hgr e1 e2 hgs RX FX
        go_upto_region 9 with fail
        go_wp2_with (first | (at_builtin; refine wpList_append_own _ rfl _ _ 22 rfl w.heap.size 24 i0 (.agg #[.int .i64 0, .int .i64 0]) 2 16 Try.underlying22 hi hz0 hz1 hz2 rfl (by decide) _ _ _ rfl (hown.alloc _) ⟨W4.heap.size, 0, none⟩ 1 1 (ptCs [(x, y)]) rfl ?c0 ?c1 ?c2 ?c3 ?c4 ?c5 ?_) | go_in)
        case c0 => rfl
        case c1 =>
          intro j u hu
          match j, hu with
          | 0, hu => simp [ptCs] at hu; subst hu; simp [go_sem, addr_add]
          | 1, hu => simp [ptCs] at hu; subst hu; simp [go_sem, addr_add]
          | j + 2, hu => simp [ptCs] at hu
        case c2 => exact ptCs_one _
        case c3 => unfold maxLen; omega
        case c4 => omega
        case c5 => simp; omega
        intro v' w1 hown' hgrow _
        have hbe : Below w.heap.size W4 w1 := (Below.alloc (Below.refl _ _) (by omega) _).trans (below_grown hgrow (by simp; omega) (fun k9 e9 => (World.ownsRow.lt hown k9 e9).1))
        have HB1 : Hid (Below w.heap.size w w1) := HB.out.trans hbe
        clear hbe hgrow hown x1' x2' HB hsz
        rw [← HT.out] at hown'
        go_wp2
        go_roundw
        case rel => exact ⟨k + 1, by omega, by go_num, by rw [HR1.out], hown', HB1.out⟩
        case measure => simp [intOf]; omega
    · obtain rfl : k = n := by omega
      have e9 : l.take k = l := by rw [HL.out]; simp
      have hW := (Pts.of_own hown).2
      rw [e9] at hW ⊢
      have hG : IsGr w W2 := IsGr.of_below HB.out
      cases hR : allR l with
      | false =>
        have CH := fun w1 (hg : IsGr W2 w1) => H0.out hR w1 (hG.trans hg)
        have HG : Hid (IsGr w W2) := hG
        clear H0 H1 hW hown HB hG hR
        go_wp2_with fail
        refine (CH _ ?_).mono ?_
        · exact (by with_reducible repeat (first | exact IsGr.refl _ | refine IsGr.gr ?_ _ _ | refine IsGr.alloc ?_ _ | refine IsGr.drew ?_ | refine IsGr.drewN ?_ _))
        rintro e w1 ⟨rfl, os1, dr1, rfl⟩
        go_wp2_with fail
        refine (CA _).mono ?_
        rintro e w1 ⟨rfl, os2, dr2, rfl⟩
        go_wp2
        go_ret
        exact ⟨rfl, HG.out.trans (by with_reducible repeat (first | exact IsGr.refl _ | refine IsGr.gr ?_ _ _ | refine IsGr.alloc ?_ _ | refine IsGr.drew ?_ | refine IsGr.drewN ?_ _))⟩
      | true =>
        have CH := fun w1 (hg : IsGr W2 w1) => H1.out hR w1 (hG.trans hg)
        have HG : Hid (IsGr w W2) := hG
        have hPl := HP.out.gr hG
        have HRR : Hid (allR l = true) := hR
        obtain ⟨wa, wc', e4⟩ : ∃ wa wc', u4 = .slice wa k wc' := by
          obtain ⟨qa, qc, h1, _⟩ := id hW
          rw [HL.out]
          exact ⟨qa, qc, h1⟩
        subst e4
        clear H0 H1 hown HB hG hR HP hi hz0 hz1 hz2
        go_upto_region 11 with fail
        go_cut [7, 8] (fun t7 t8 wr => ∃ hs, t8 = .bool true ∧ Pts wr t7 hs ∧ Hid (HullP l hs) ∧ hs.length ≤ 200 ∧ IsGr W2 wr)
        case first =>
          go_wp2_with fail
          refine (CH _ ?_).mono ?_
          · exact (by with_reducible repeat (first | exact IsGr.refl _ | refine IsGr.gr ?_ _ _ | refine IsGr.alloc ?_ _ | refine IsGr.drew ?_ | refine IsGr.drewN ?_ _))
          rintro e w1 ⟨v, hs, rfl, hv, HH, hl2, os1, dr1, rfl⟩
          go_wp2
          go_meet
          case rel => exact ⟨hs, rfl, hv.gr (by with_reducible repeat (first | exact IsGr.refl _ | refine IsGr.gr ?_ _ _ | refine IsGr.alloc ?_ _ | refine IsGr.drew ?_ | refine IsGr.drewN ?_ _)), HH, hl2, (by with_reducible repeat (first | exact IsGr.refl _ | refine IsGr.gr ?_ _ _ | refine IsGr.alloc ?_ _ | refine IsGr.drew ?_ | refine IsGr.drewN ?_ _))⟩
        case rest =>
          obtain ⟨hs, rfl, hH, HH, hl2, hgr⟩ := hcut
          obtain ⟨W3, hW9⟩ : ∃ W3, W3 = wc := ⟨_, rfl⟩
          subst hW9
          replace hPl := hPl.gr hgr
          replace hW := hW.gr hgr
          replace HG : Hid (IsGr w W3) := HG.out.trans hgr
          clear hgr CH
          obtain ⟨qa, qc, e7⟩ : ∃ qa qc, u7 = .slice qa hs.length qc := by
            obtain ⟨qa, qc, h1, _⟩ := id hH
            exact ⟨qa, qc, h1⟩
          subst e7
          obtain ⟨N, HN⟩ : ∃ N, Hid (hs.length = N) := ⟨_, rfl⟩
          rw [HN.out] at hH hl2
          have hN' : (N : Int) ≤ 200 := by omega
          have HH9 : Hid ((k = 0 ∧ N = 0) ∨ (0 < k ∧ 0 < N ∧ HullT hs l)) := by
            rcases HH.out with ⟨h1, h2⟩ | ⟨h1, h2⟩
            · left
              have := HL.out
              have := HN.out
              subst h1 h2
              simp at *
              omega
            · right
              have := HL.out
              have := HN.out
              have h3 := h2.1
              have : 0 < l.length := List.length_pos_iff.2 h1
              exact ⟨by omega, by omega, h2⟩
          clear HH
          rw [HN.out]
          go_wp2
          go_loopw [9, 55] (fun _ t55 wr => ∃ i : Nat, i ≤ k ∧ t55 = .int .i64 i ∧ Hid (IsGr W3 wr)) (fun _ t55 _ => (k - intOf t55).toNat)
          case atStart => exact ⟨0, by omega, rfl, (show IsGr W3 _ from (by with_reducible repeat (first | exact IsGr.refl _ | refine IsGr.gr ?_ _ _ | refine IsGr.alloc ?_ _ | refine IsGr.drew ?_ | refine IsGr.drewN ?_ _)))⟩
          case round =>
            obtain ⟨i, hik, rfl, HGi⟩ := hrel
            obtain ⟨W4, hW4⟩ : ∃ W4, W4 = wr := ⟨_, rfl⟩
            subst hW4
            by_cases hi' : i < k
            · obtain ⟨g9, o9, rfl, hgs, hc⟩ := (hPl.gr HGi.out).at hi'
              obtain ⟨gw, ow, rfl, hgw, hcw⟩ := (hW.gr HGi.out).at hi'
              have ce := hc i hi'
              have cw := hcw i hi'
              clear hc hcw hPl hW hH HH9 HRR
              generalize (l.getD i (0, 0)).1 = x at *
              generalize (l.getD i (0, 0)).2 = y at *
              have hi2 : (i : Int) < k := by omega
              have v1 : IntKind.i64.wrap ((i : Int) + 1) = (i : Int) + 1 := by rw [IntKind.wrap_i64]; omega
              go_upto_region 17 with fail
              go_cut [55, 66] from 55 to 67 (fun t55 t66 wx => (t55 = .int .i64 i ∧ t66 = .bool false) ∧ IsGr W4 wx)
              case first => as_aux_lemma =>
                obtain ⟨C, hin, hcl, hcells, hgr⟩ : ∃ C : World → Prop, (∀ w', W4.heap.size ≤ w'.heap.size ∧ IsGr W4 w' ∧ (w'.cell? ⟨g9, o9 + i * 2, none⟩ = some (.int .i64 x) ∧ w'.cell? ⟨g9, o9 + i * 2 + 1, none⟩ = some (.int .i64 y)) ∧ (w'.cell? ⟨gw, ow + i * 2, none⟩ = some (.int .i64 x) ∧ w'.cell? ⟨gw, ow + i * 2 + 1, none⟩ = some (.int .i64 y)) → C w') ∧ (∀ u u', C u → IsGr u u' → C u') ∧ (∀ w', C w' → (w'.cell? ⟨g9, o9 + i * 2, none⟩ = some (.int .i64 x) ∧ w'.cell? ⟨g9, o9 + i * 2 + 1, none⟩ = some (.int .i64 y)) ∧ (w'.cell? ⟨gw, ow + i * 2, none⟩ = some (.int .i64 x) ∧ w'.cell? ⟨gw, ow + i * 2 + 1, none⟩ = some (.int .i64 y))) ∧ (∀ w', C w' → IsGr W4 w') := by
                  refine ⟨fun w' => W4.heap.size ≤ w'.heap.size ∧ IsGr W4 w' ∧ (w'.cell? ⟨g9, o9 + i * 2, none⟩ = some (.int .i64 x) ∧ w'.cell? ⟨g9, o9 + i * 2 + 1, none⟩ = some (.int .i64 y)) ∧ (w'.cell? ⟨gw, ow + i * 2, none⟩ = some (.int .i64 x) ∧ w'.cell? ⟨gw, ow + i * 2 + 1, none⟩ = some (.int .i64 y)), fun w' h => h, ?_, fun w' h => h.2.2, fun w' h => h.2.1⟩
                  rintro u u' ⟨h0, h1, h2⟩ hg
                  exact ⟨Nat.le_trans h0 hg.size, h1.trans hg, ⟨hg.cell_at (by omega) h2.1.1, hg.cell_at (by omega) h2.1.2⟩, ⟨hg.cell_at (by omega) h2.2.1, hg.cell_at (by omega) h2.2.2⟩⟩
                refine wp_region_quietV C (by kernel_rfl) (by kernel_rfl) (hin _ ⟨by simp, (by with_reducible repeat (first | exact IsGr.refl _ | refine IsGr.gr ?_ _ _ | refine IsGr.alloc ?_ _ | refine IsGr.drew ?_ | refine IsGr.drewN ?_ _)), ⟨ce, cw⟩⟩) (fun K HK => ?_)
                refine QK.take HK ?_ (by rfl) ?_ ?_
                rotate_left
                · (intro w hw; (try have hcs := hcells w hw); (try go_split_ands); go_simp <;> with_reducible rfl)
                (try simp only [Act.put, qA, qB, qC])
                refine QK.take HK ?_ (by rfl) ?_ ?_
                rotate_left
                · (intro w hw; (try have hcs := hcells w hw); (try go_split_ands); go_simp <;> with_reducible rfl)
                (try simp only [Act.put, qA, qB, qC])
                refine QK.take HK ?_ (by rfl) ?_ ?_
                rotate_left
                · (intro w hw; (try have hcs := hcells w hw); (try go_split_ands); go_simp <;> with_reducible rfl)
                (try simp only [Act.put, qA, qB, qC])
                refine QK.take HK ?_ (by rfl) ?_ ?_
                rotate_left
                · (intro w hw; (try have hcs := hcells w hw); (try go_split_ands); go_simp <;> with_reducible rfl)
                (try simp only [Act.put, qA, qB, qC])
                refine QK.take HK ?_ (by rfl) ?_ ?_
                rotate_left
                · (intro w hw; (try have hcs := hcells w hw); (try go_split_ands); go_simp <;> with_reducible rfl)
                (try simp only [Act.put, qA, qB, qC])
                refine QK.take HK ?_ (by rfl) ?_ ?_
                rotate_left
                · (intro w hw; (try have hcs := hcells w hw); (try go_split_ands); go_simp <;> with_reducible rfl)
                (try simp only [Act.put, qA, qB, qC])
                refine QK.take HK ?_ (by rfl) ?_ ?_
                rotate_left
                · (intro w hw; (try have hcs := hcells w hw); (try go_split_ands); go_simp <;> with_reducible rfl)
                (try simp only [Act.put, qA, qB, qC])
                refine QK.take HK ?_ (by rfl) ?_ ?_
                rotate_left
                · (intro w hw; (try have hcs := hcells w hw); (try go_split_ands); go_simp <;> with_reducible rfl)
                (try simp only [Act.put, qA, qB, qC])
                refine QK.take HK ?_ (by rfl) ?_ ?_
                rotate_left
                · (intro w hw; (try have hcs := hcells w hw); (try go_split_ands); go_simp <;> with_reducible rfl)
                (try simp only [Act.put, qA, qB, qC])
                refine QK.nil HK ?_
                clear HK K
                intro wq hq
                have hg9 := hgr wq hq
                clear hcells hin hcl hgr hq
                go_wp2
                go_meet
                case rel => exact ⟨⟨rfl, by first | rfl | simp⟩, hg9⟩
              case rest =>
                obtain ⟨⟨rfl, rfl⟩, hgr⟩ := hcut
                obtain ⟨W5, hW9⟩ : ∃ W5, W5 = wc := ⟨_, rfl⟩
                subst hW9
                replace HGi : Hid (IsGr W3 W5) := HGi.out.trans hgr
                clear hgr ce cw
                go_wp2
                go_roundw
                case rel => exact ⟨i + 1, by omega, by go_num, HGi.out⟩
                case measure => simp [intOf]; omega
            · obtain rfl : i = k := by omega
              replace hPl := hPl.gr HGi.out
              replace hH := hH.gr HGi.out
              replace HG : Hid (IsGr w W4) := HG.out.trans HGi.out
              clear hW HGi
              go_upto_region 20 with fail
              go_cut [78] (fun t78 wr => t78 = .bool false ∧ IsGr W4 wr)
              case first =>
                have hz : ((i : Int) == 0) = ((N : Int) == 0) := by
                  rw [Bool.eq_iff_iff]
                  simp only [beq_iff_eq]
                  rcases HH9.out with ⟨h1, h2⟩ | ⟨h1, h2, _⟩ <;> omega
                clear HH9 HRR hPl hH
                by_cases h0 : i = 0
                · subst h0
                  have f1 : ((N : Int) == 0) = true := by rw [← hz]; rfl
                  have f2 : N = 0 := by simpa using f1
                  subst f2
                  go_wp2
                  go_meet
                  case rel => exact ⟨by first | rfl | simp, (by with_reducible repeat (first | exact IsGr.refl _ | refine IsGr.gr ?_ _ _ | refine IsGr.alloc ?_ _ | refine IsGr.drew ?_ | refine IsGr.drewN ?_ _))⟩
                · have f0 : ((i : Int) == 0) = false := by simp [h0]
                  have f1 : ((N : Int) == 0) = false := by rw [← hz]; exact f0
                  have f2 : ¬ N = 0 := by simpa using f1
                  go_wp2
                  go_meet
                  case rel => exact ⟨by first | rfl | simp [f2, h0], (by with_reducible repeat (first | exact IsGr.refl _ | refine IsGr.gr ?_ _ _ | refine IsGr.alloc ?_ _ | refine IsGr.drew ?_ | refine IsGr.drewN ?_ _))⟩
              case rest =>
                obtain ⟨rfl, hgr⟩ := hcut
                obtain ⟨W6, hW9⟩ : ∃ W6, W6 = wc := ⟨_, rfl⟩
                subst hW9
                replace hPl := hPl.gr hgr
                replace hH := hH.gr hgr
                replace HG : Hid (IsGr w W6) := HG.out.trans hgr
                clear hgr
                go_wp2
                go_loopw [81] (fun t81 wr => ∃ j : Nat, j ≤ N ∧ t81 = .int .i64 j ∧ Hid (IsGr W6 wr)) (fun t81 _ => (N - intOf t81).toNat)
                case atStart => exact ⟨0, by omega, rfl, (show IsGr W6 _ from (by with_reducible repeat (first | exact IsGr.refl _ | refine IsGr.gr ?_ _ _ | refine IsGr.alloc ?_ _ | refine IsGr.drew ?_ | refine IsGr.drewN ?_ _)))⟩
                case round =>
                  obtain ⟨j, hjN, rfl, HGj⟩ := hrel
                  obtain ⟨W7, hW7⟩ : ∃ W7, W7 = wr := ⟨_, rfl⟩
                  subst hW7
                  replace hPl := hPl.gr HGj.out
                  replace hH := hH.gr HGj.out
                  replace HG : Hid (IsGr w W7) := HG.out.trans HGj.out
                  by_cases hj : j < N
                  · obtain ⟨HT, hk0⟩ : Hid (HullT hs l) ∧ 0 < i := by
                      rcases HH9.out with ⟨h1, h2⟩ | ⟨h1, h2, h3⟩
                      · omega
                      · exact ⟨h3, h1⟩
                    obtain ⟨gh, oh, rfl, hgh, hc⟩ := hH.at hj
                    obtain ⟨g9, o9, rfl, hg9, hcl9⟩ := hPl.at hk0
                    have hjn : (j + 1) % N < N := Nat.mod_lt _ (by omega)
                    have hjm : (j + 2) % N < N := Nat.mod_lt _ (by omega)
                    obtain ⟨a1, a2, ea⟩ : ∃ a1 a2, hs.getD j (0, 0) = (a1, a2) := ⟨_, _, rfl⟩
                    obtain ⟨b1, b2, eb⟩ : ∃ b1 b2, hs.getD ((j + 1) % N) (0, 0) = (b1, b2) := ⟨_, _, rfl⟩
                    obtain ⟨d1, d2, ed⟩ : ∃ d1 d2, hs.getD ((j + 2) % N) (0, 0) = (d1, d2) := ⟨_, _, rfl⟩
                    obtain ⟨f1, f2, ef⟩ : ∃ f1 f2, hs.getD 0 (0, 0) = (f1, f2) := ⟨_, _, rfl⟩
                    obtain ⟨m1, m2, em⟩ : ∃ m1 m2, hs.getD (N - 1) (0, 0) = (m1, m2) := ⟨_, _, rfl⟩
                    have ca := hc j hj
                    have cb := hc _ hjn
                    have cd := hc _ hjm
                    have cf := hc 0 (by omega)
                    have cm := hc (N - 1) (by omega)
                    rw [ea] at ca
                    rw [eb] at cb
                    rw [ed] at cd
                    rw [ef] at cf
                    rw [em] at cm
                    simp only [Nat.zero_mul, Nat.add_zero] at cf
                    have HF : Hid (((a1, a2) ∈ l) ∧ (∀ p ∈ l, 0 ≤ wayP a1 a2 b1 b2 p.1 p.2 ∧ aheadP p.1 p.2 f1 f2 = false ∧ (N ≤ 2 → onP f1 f2 m1 m2 p.1 p.2 = true)) ∧ (2 < N → 0 < wayP a1 a2 b1 b2 d1 d2)) := by
                      obtain ⟨t1, t2, t3, t4, t5, t6, t7⟩ := HT.out
                      rw [HN.out] at t1 t4 t5 t6
                      have rr : ∀ p ∈ l, rightP p.1 p.2 = true := fun p hp => by
                        have := HRR.out
                        unfold allR at this
                        rw [List.all_eq_true] at this
                        exact this p hp
                      have mm : ∀ q, q < N → el hs q ∈ l := fun q hq => t2 _ (el_mem (by rw [HN.out]; exact hq))
                      have ea' : el hs j = (a1, a2) := ea
                      have eb' : el hs ((j + 1) % N) = (b1, b2) := eb
                      have ed' : el hs ((j + 2) % N) = (d1, d2) := ed
                      have ef' : el hs 0 = (f1, f2) := ef
                      have em' : el hs (N - 1) = (m1, m2) := em
                      refine ⟨ea' ▸ mm j hj, fun p hp => ⟨?_, ?_, fun h2 => ?_⟩, fun h2 => ?_⟩
                      · have := t4 j hj p hp
                        rw [ea', eb'] at this
                        exact way_nonneg this
                      · have := t3 p hp
                        rw [ef'] at this
                        exact ahead_not this
                      · have k1 := t6 h2 p hp
                        have k2 := t3 p hp
                        rw [ef', em'] at k1
                        rw [ef'] at k2
                        exact on_hull (f := (f1, f2)) (m := (m1, m2)) (ef' ▸ rr _ (mm 0 (by omega))) (em' ▸ rr _ (mm _ (by omega))) (rr p hp) k1.1 k2 k1.2
                      · have := t5 h2 j hj
                        rw [ea', eb', ed'] at this
                        exact way_pos this (ea' ▸ rr _ (mm j hj)) (eb' ▸ rr _ (mm _ hjn)) (ed' ▸ rr _ (mm _ hjm))
                    clear hc ea eb ed ef em HT HH9 HRR HN
                    have hj2 : (j : Int) < N := by omega
                    have v1 : IntKind.i64.wrap ((j : Int) + 1) = (j : Int) + 1 := by rw [IntKind.wrap_i64]; omega
                    have v2 : IntKind.i64.wrap ((j : Int) + 2) = (j : Int) + 2 := by rw [IntKind.wrap_i64]; omega
                    have v3 : IntKind.i64.wrap ((N : Int) - 1) = ((N - 1 : Nat) : Int) := by rw [IntKind.wrap_i64]; omega
                    have v4 : ((j : Int) + 1).tmod (N : Int) = (((j + 1) % N : Nat) : Int) := by
                      rw [Int.tmod_eq_emod_of_nonneg (by omega)]; simp
                    have v5 : ((j : Int) + 2).tmod (N : Int) = (((j + 2) % N : Nat) : Int) := by
                      rw [Int.tmod_eq_emod_of_nonneg (by omega)]; simp
                    have n0 : ¬ N = 0 := by omega
                    have hN0 : (0 : Int) < N := by omega
                    have hN1 : 0 < N := by omega
                    have hm0 : N - 1 < N := by omega
                    generalize (j + 1) % N = jn at *
                    generalize (j + 2) % N = jm at *
                    generalize N - 1 = nl at *
                    have hjn2 : (jn : Int) < N := by omega
                    have hjm2 : (jm : Int) < N := by omega
                    have hnl2 : (nl : Int) < N := by omega
                    have Fa := fun w => pref_any a1 a2 w
                    have Fb := fun w => pref_any b1 b2 w
                    have Ff := fun w => pref_any f1 f2 w
                    have Fd := fun w => pref_any d1 d2 w
                    have Fm := fun w => pref_any m1 m2 w
                    go_upto_region 24 with fail
                    go_cut [10, 11, 81] from 81 to 174 (fun t10 t11 t81 wx => (t10 = .int .i64 j ∧ t11 = .pointer (some ⟨W7.heap.size, 0, none⟩) ∧ t81 = .int .i64 j) ∧ (wx.cell? ⟨W7.heap.size, 0, none⟩ = some (.int .i64 a1) ∧ wx.cell? ⟨W7.heap.size, 1, none⟩ = some (.int .i64 a2)) ∧ W7.heap.size < wx.heap.size ∧ IsGr W7 wx)
                    case first =>
                      obtain ⟨ca1, ca2⟩ := ca
                      go_wp2
                      go_meet
                      case rel =>
                        refine ⟨⟨rfl, rfl, rfl⟩, ?_, ?_, (by with_reducible repeat (first | exact IsGr.refl _ | refine IsGr.gr ?_ _ _ | refine IsGr.alloc ?_ _ | refine IsGr.drew ?_ | refine IsGr.drewN ?_ _))⟩
                        · simp [go_sem]
                        · first | omega | (simp; done) | (simp; omega) | (simp [Gr.size]; done) | (simp [Gr.size]; omega)
                    case rest =>
                      obtain ⟨⟨rfl, rfl, rfl⟩, ba, ka, hgr⟩ := hcut
                      obtain ⟨W8, hW9⟩ : ∃ W8, W8 = wc := ⟨_, rfl⟩
                      subst hW9
                      replace hPl := hPl.gr hgr
                      replace hH := hH.gr hgr
                      replace HG : Hid (IsGr w W8) := HG.out.trans hgr
                      replace HGj : Hid (IsGr W6 W8) := HGj.out.trans hgr
                      have hsz := hgr.size
                      replace cb := And.intro (hgr.cell_at hgh cb.1) (hgr.cell_at hgh cb.2)
                      replace cd := And.intro (hgr.cell_at hgh cd.1) (hgr.cell_at hgh cd.2)
                      replace cf := And.intro (hgr.cell_at hgh cf.1) (hgr.cell_at hgh cf.2)
                      replace cm := And.intro (hgr.cell_at hgh cm.1) (hgr.cell_at hgh cm.2)
                      replace hgh : gh < W8.heap.size := by omega
                      replace hg9 : g9 < W8.heap.size := by omega
                      clear hgr hsz hcl9 ca
                      go_wp2
                      go_loopw [12, 88] (fun t12 t88 wr => ∃ q : Nat, q ≤ i ∧ t88 = .int .i64 q ∧ t12 = .bool (hasK l a1 a2 q) ∧ (wr.cell? ⟨W7.heap.size, 0, none⟩ = some (.int .i64 a1) ∧ wr.cell? ⟨W7.heap.size, 1, none⟩ = some (.int .i64 a2)) ∧ Hid (IsGr W8 wr)) (fun _ t88 _ => (i - intOf t88).toNat)
                      case atStart =>
                        refine ⟨0, by omega, rfl, rfl, ?_, (show IsGr W8 _ from (by with_reducible repeat (first | exact IsGr.refl _ | refine IsGr.gr ?_ _ _ | refine IsGr.alloc ?_ _ | refine IsGr.drew ?_ | refine IsGr.drewN ?_ _)))⟩
                        exact (fun (hg : IsGr W8 _) => ⟨hg.cell_at ka ba.1, hg.cell_at ka ba.2⟩) (by with_reducible repeat (first | exact IsGr.refl _ | refine IsGr.gr ?_ _ _ | refine IsGr.alloc ?_ _ | refine IsGr.drew ?_ | refine IsGr.drewN ?_ _))
                      case round =>
                        clear ba
                        obtain ⟨q, hq', rfl, rfl, ba, HGq⟩ := hrel
                        obtain ⟨W9, hW9'⟩ : ∃ W9, W9 = wr := ⟨_, rfl⟩
                        subst hW9'
                        have hgq := HGq.out
                        have hsq := hgq.size
                        have ka9 : W7.heap.size < W9.heap.size := by omega
                        by_cases hqi : q < i
                        · obtain ⟨g8, o8, eg8, hg8, hcp⟩ := (hPl.gr hgq).at hqi
                          injection eg8 with eg8
                          injection eg8 with e81 e82
                          subst e81 e82
                          have cp := hcp q hqi
                          have HQ : Hid (hasK l a1 a2 (q + 1) = (hasK l a1 a2 q || ((l.getD q (0, 0)).1 == a1 && (l.getD q (0, 0)).2 == a2))) := rfl
                          have HFp := HF.out.2.1 (l.getD q (0, 0)) (el_mem (by have := HL.out; omega))
                          generalize (l.getD q (0, 0)).1 = x at *
                          generalize (l.getD q (0, 0)).2 = y at *
                          obtain ⟨hT, hAh, hOn⟩ := HFp
                          have hqi2 : (q : Int) < i := by omega
                          have vq : IntKind.i64.wrap ((q : Int) + 1) = (q : Int) + 1 := by rw [IntKind.wrap_i64]; omega
                          have Fx := fun w => pref_any x y w
                          have CW := fun w => Way_any a1 a2 b1 b2 x y w
                          have CAh := fun w => Ahead_any x y f1 f2 w
                          rw [hAh] at CAh
                          have CO := fun w => refOn_any f1 f2 m1 m2 x y w
                          generalize wayP a1 a2 b1 b2 x y = T at *
                          have hT2 : decide (T < 0) = false := by simp; omega
                          have hT3 : ¬ T < 0 := by omega
                          replace cb := And.intro (hgq.cell_at hgh cb.1) (hgq.cell_at hgh cb.2)
                          replace cf := And.intro (hgq.cell_at hgh cf.1) (hgq.cell_at hgh cf.2)
                          replace cm := And.intro (hgq.cell_at hgh cm.1) (hgq.cell_at hgh cm.2)
                          have hgh9 : gh < W9.heap.size := by omega
                          clear hcp hAh hPl hH HF cd
                          obtain ⟨F, hF⟩ : ∃ F, F = hasK l a1 a2 q := ⟨_, rfl⟩
                          rw [← hF]
                          have HQ1 : Hid (hasK l a1 a2 (q + 1) = (F || (x == a1 && y == a2))) := by unfold Hid; rw [hF]; exact HQ.out
                          clear hF HQ
                          go_upto_region 28 with fail
                          go_cut [14, 88] from 88 to 142 (fun t14 t88 wx => (t14 = .pointer (some ⟨W9.heap.size, 0, none⟩) ∧ t88 = .int .i64 q) ∧ (wx.cell? ⟨W9.heap.size, 0, none⟩ = some (.int .i64 x) ∧ wx.cell? ⟨W9.heap.size, 1, none⟩ = some (.int .i64 y)) ∧ W9.heap.size < wx.heap.size ∧ IsGr W9 wx)
                          case first =>
                            obtain ⟨cp1, cp2⟩ := cp
                            go_wp2
                            go_meet
                            case rel =>
                              refine ⟨⟨rfl, rfl⟩, ?_, ?_, (by with_reducible repeat (first | exact IsGr.refl _ | refine IsGr.gr ?_ _ _ | refine IsGr.alloc ?_ _ | refine IsGr.drew ?_ | refine IsGr.drewN ?_ _))⟩
                              · simp [go_sem]
                              · first | omega | (simp; done) | (simp; omega) | (simp [Gr.size]; done) | (simp [Gr.size]; omega)
                          case rest =>
                            obtain ⟨⟨rfl, rfl⟩, bp, kp, hgr⟩ := hcut
                            obtain ⟨W10, hW9⟩ : ∃ W10, W10 = wc := ⟨_, rfl⟩
                            subst hW9
                            have hsz := hgr.size
                            replace ba := And.intro (hgr.cell_at ka9 ba.1) (hgr.cell_at ka9 ba.2)
                            replace cb := And.intro (hgr.cell_at hgh9 cb.1) (hgr.cell_at hgh9 cb.2)
                            replace cf := And.intro (hgr.cell_at hgh9 cf.1) (hgr.cell_at hgh9 cf.2)
                            replace cm := And.intro (hgr.cell_at hgh9 cm.1) (hgr.cell_at hgh9 cm.2)
                            replace HGq : Hid (IsGr W8 W10) := hgq.trans hgr
                            have k7 : W7.heap.size < W10.heap.size := by omega
                            have kg : gh < W10.heap.size := by omega
                            clear hgr hsz cp hgq hsq
                            go_upto_region 29 with fail
                            go_cut [12, 88] from 88 to 142 (fun t12 t88 wx => (t12 = .bool (F || (x == a1 && y == a2)) ∧ t88 = .int .i64 q) ∧ IsGr W10 wx)
                            case first =>
                              obtain ⟨z1, z2⟩ := ba
                              obtain ⟨z3, z4⟩ := bp
                              cases F
                              · by_cases hx : x = a1
                                · have y1 : (x == a1) = true := by simp [hx]
                                  by_cases hy : y = a2
                                  · have y2 : (y == a2) = true := by simp [hy]
                                    clear hx hy
                                    go_wp2
                                    go_meet
                                    case rel => exact ⟨⟨by first | rfl | simp [y1, y2], rfl⟩, (by with_reducible repeat (first | exact IsGr.refl _ | refine IsGr.gr ?_ _ _ | refine IsGr.alloc ?_ _ | refine IsGr.drew ?_ | refine IsGr.drewN ?_ _))⟩
                                  · have y2 : (y == a2) = false := by simp [hy]
                                    clear hx hy
                                    go_wp2
                                    go_meet
                                    case rel => exact ⟨⟨by first | rfl | simp [y1, y2], rfl⟩, (by with_reducible repeat (first | exact IsGr.refl _ | refine IsGr.gr ?_ _ _ | refine IsGr.alloc ?_ _ | refine IsGr.drew ?_ | refine IsGr.drewN ?_ _))⟩
                                · have y1 : (x == a1) = false := by simp [hx]
                                  clear hx
                                  go_wp2
                                  go_meet
                                  case rel => exact ⟨⟨by first | rfl | simp [y1], rfl⟩, (by with_reducible repeat (first | exact IsGr.refl _ | refine IsGr.gr ?_ _ _ | refine IsGr.alloc ?_ _ | refine IsGr.drew ?_ | refine IsGr.drewN ?_ _))⟩
                              · go_wp2
                                go_meet
                                case rel => exact ⟨⟨by first | rfl | simp, rfl⟩, (by with_reducible repeat (first | exact IsGr.refl _ | refine IsGr.gr ?_ _ _ | refine IsGr.alloc ?_ _ | refine IsGr.drew ?_ | refine IsGr.drewN ?_ _))⟩
                            case rest =>
                              obtain ⟨⟨rfl, rfl⟩, hgr⟩ := hcut
                              obtain ⟨W11, hW9⟩ : ∃ W11, W11 = wc := ⟨_, rfl⟩
                              subst hW9
                              have hsz := hgr.size
                              replace ba := And.intro (hgr.cell_at k7 ba.1) (hgr.cell_at k7 ba.2)
                              replace bp := And.intro (hgr.cell_at kp bp.1) (hgr.cell_at kp bp.2)
                              replace cb := And.intro (hgr.cell_at kg cb.1) (hgr.cell_at kg cb.2)
                              replace cf := And.intro (hgr.cell_at kg cf.1) (hgr.cell_at kg cf.2)
                              replace cm := And.intro (hgr.cell_at kg cm.1) (hgr.cell_at kg cm.2)
                              replace HGq : Hid (IsGr W8 W11) := HGq.out.trans hgr
                              replace k7 : W7.heap.size < W11.heap.size := by omega
                              replace kp : W9.heap.size < W11.heap.size := by omega
                              replace kg : gh < W11.heap.size := by omega
                              clear hgr hsz
                              go_upto_region 30 with fail
                              go_cut [88, 121] from 88 to 142 (fun t88 t121 wx => (t88 = .int .i64 q ∧ t121 = .bool false) ∧ IsGr W11 wx)
                              case first => as_aux_lemma =>
                                obtain ⟨C, hin, hcl, hcells, hgr⟩ : ∃ C : World → Prop, (∀ w', W11.heap.size ≤ w'.heap.size ∧ IsGr W11 w' ∧ (w'.cell? ⟨W7.heap.size, 0, none⟩ = some (.int .i64 a1) ∧ w'.cell? ⟨W7.heap.size, 1, none⟩ = some (.int .i64 a2)) ∧ (w'.cell? ⟨W9.heap.size, 0, none⟩ = some (.int .i64 x) ∧ w'.cell? ⟨W9.heap.size, 1, none⟩ = some (.int .i64 y)) ∧ (w'.cell? ⟨gh, oh + jn * 2, none⟩ = some (.int .i64 b1) ∧ w'.cell? ⟨gh, oh + jn * 2 + 1, none⟩ = some (.int .i64 b2)) ∧ (w'.cell? ⟨gh, oh, none⟩ = some (.int .i64 f1) ∧ w'.cell? ⟨gh, oh + 1, none⟩ = some (.int .i64 f2)) → C w') ∧ (∀ u u', C u → IsGr u u' → C u') ∧ (∀ w', C w' → (w'.cell? ⟨W7.heap.size, 0, none⟩ = some (.int .i64 a1) ∧ w'.cell? ⟨W7.heap.size, 1, none⟩ = some (.int .i64 a2)) ∧ (w'.cell? ⟨W9.heap.size, 0, none⟩ = some (.int .i64 x) ∧ w'.cell? ⟨W9.heap.size, 1, none⟩ = some (.int .i64 y)) ∧ (w'.cell? ⟨gh, oh + jn * 2, none⟩ = some (.int .i64 b1) ∧ w'.cell? ⟨gh, oh + jn * 2 + 1, none⟩ = some (.int .i64 b2)) ∧ (w'.cell? ⟨gh, oh, none⟩ = some (.int .i64 f1) ∧ w'.cell? ⟨gh, oh + 1, none⟩ = some (.int .i64 f2))) ∧ (∀ w', C w' → IsGr W11 w') := by
                                  refine ⟨fun w' => W11.heap.size ≤ w'.heap.size ∧ IsGr W11 w' ∧ (w'.cell? ⟨W7.heap.size, 0, none⟩ = some (.int .i64 a1) ∧ w'.cell? ⟨W7.heap.size, 1, none⟩ = some (.int .i64 a2)) ∧ (w'.cell? ⟨W9.heap.size, 0, none⟩ = some (.int .i64 x) ∧ w'.cell? ⟨W9.heap.size, 1, none⟩ = some (.int .i64 y)) ∧ (w'.cell? ⟨gh, oh + jn * 2, none⟩ = some (.int .i64 b1) ∧ w'.cell? ⟨gh, oh + jn * 2 + 1, none⟩ = some (.int .i64 b2)) ∧ (w'.cell? ⟨gh, oh, none⟩ = some (.int .i64 f1) ∧ w'.cell? ⟨gh, oh + 1, none⟩ = some (.int .i64 f2)), fun w' h => h, ?_, fun w' h => h.2.2, fun w' h => h.2.1⟩
                                  rintro u u' ⟨h0, h1, h2⟩ hg
                                  exact ⟨Nat.le_trans h0 hg.size, h1.trans hg, ⟨hg.cell_at (by omega) h2.1.1, hg.cell_at (by omega) h2.1.2⟩, ⟨hg.cell_at (by omega) h2.2.1.1, hg.cell_at (by omega) h2.2.1.2⟩, ⟨hg.cell_at (by omega) h2.2.2.1.1, hg.cell_at (by omega) h2.2.2.1.2⟩, ⟨hg.cell_at (by omega) h2.2.2.2.1, hg.cell_at (by omega) h2.2.2.2.2⟩⟩
                                refine wp_region_quietV C (by kernel_rfl) (by kernel_rfl) (hin _ ⟨by simp, (by with_reducible repeat (first | exact IsGr.refl _ | refine IsGr.gr ?_ _ _ | refine IsGr.alloc ?_ _ | refine IsGr.drew ?_ | refine IsGr.drewN ?_ _)), ⟨ba, bp, cb, cf⟩⟩) (fun K HK => ?_)
                                refine QK.take HK ?_ (by rfl) ?_ ?_
                                rotate_left
                                · (intro w hw; (try have hcs := hcells w hw); (try go_split_ands); go_simp <;> with_reducible rfl)
                                (try simp only [Act.put, qA, qB, qC])
                                refine QK.call HK 12 #[.agg #[.int .i64 a1, .int .i64 a2]] (.agg #[.int .i64 a1, .int .i64 a2]) hcl (by rfl) (fun w => by go_simp) Fa ?_
                                (try simp only [Act.put, qA, qB, qC])
                                refine QK.take HK ?_ (by rfl) ?_ ?_
                                rotate_left
                                · (intro w hw; (try have hcs := hcells w hw); (try go_split_ands); go_simp <;> with_reducible rfl)
                                (try simp only [Act.put, qA, qB, qC])
                                refine QK.take HK ?_ (by rfl) ?_ ?_
                                rotate_left
                                · (intro w hw; (try have hcs := hcells w hw); (try go_split_ands); go_simp <;> with_reducible rfl)
                                (try simp only [Act.put, qA, qB, qC])
                                refine QK.take HK ?_ (by rfl) ?_ ?_
                                rotate_left
                                · (intro w hw; (try have hcs := hcells w hw); (try go_split_ands); go_simp <;> with_reducible rfl)
                                (try simp only [Act.put, qA, qB, qC])
                                refine QK.take HK ?_ (by rfl) ?_ ?_
                                rotate_left
                                · (intro w hw; (try have hcs := hcells w hw); (try go_split_ands); go_simp <;> with_reducible rfl)
                                (try simp only [Act.put, qA, qB, qC])
                                refine QK.take HK ?_ (by rfl) ?_ ?_
                                rotate_left
                                · (intro w hw; (try have hcs := hcells w hw); (try go_split_ands); go_simp <;> with_reducible rfl)
                                (try simp only [Act.put, qA, qB, qC])
                                refine QK.take HK ?_ (by rfl) ?_ ?_
                                rotate_left
                                · (intro w hw; (try have hcs := hcells w hw); (try go_split_ands); go_simp <;> with_reducible rfl)
                                (try simp only [Act.put, qA, qB, qC])
                                refine QK.take HK ?_ (by rfl) ?_ ?_
                                rotate_left
                                · (intro w hw; (try have hcs := hcells w hw); (try go_split_ands); go_simp <;> with_reducible rfl)
                                (try simp only [Act.put, qA, qB, qC])
                                refine QK.take HK ?_ (by rfl) ?_ ?_
                                rotate_left
                                · (intro w hw; (try have hcs := hcells w hw); (try go_split_ands); go_simp <;> with_reducible rfl)
                                (try simp only [Act.put, qA, qB, qC])
                                refine QK.call HK 12 #[.agg #[.int .i64 b1, .int .i64 b2]] (.agg #[.int .i64 b1, .int .i64 b2]) hcl (by rfl) (fun w => by go_simp) Fb ?_
                                (try simp only [Act.put, qA, qB, qC])
                                refine QK.take HK ?_ (by rfl) ?_ ?_
                                rotate_left
                                · (intro w hw; (try have hcs := hcells w hw); (try go_split_ands); go_simp <;> with_reducible rfl)
                                (try simp only [Act.put, qA, qB, qC])
                                refine QK.call HK 12 #[.agg #[.int .i64 x, .int .i64 y]] (.agg #[.int .i64 x, .int .i64 y]) hcl (by rfl) (fun w => by go_simp) Fx ?_
                                (try simp only [Act.put, qA, qB, qC])
                                refine QK.call HK 17 #[.agg #[.int .i64 a1, .int .i64 a2], .agg #[.int .i64 b1, .int .i64 b2], .agg #[.int .i64 x, .int .i64 y]] (.int .i64 T) hcl (by rfl) (fun w => by go_simp) CW ?_
                                (try simp only [Act.put, qA, qB, qC])
                                refine QK.take HK ?_ (by rfl) ?_ ?_
                                rotate_left
                                · (intro w hw; (try have hcs := hcells w hw); (try go_split_ands); go_simp <;> with_reducible rfl)
                                (try simp only [Act.put, qA, qB, qC])
                                refine QK.take HK ?_ (by rfl) ?_ ?_
                                rotate_left
                                · (intro w hw; (try have hcs := hcells w hw); (try go_split_ands); go_simp <;> with_reducible rfl)
                                (try simp only [Act.put, qA, qB, qC])
                                refine QK.take HK ?_ (by rfl) ?_ ?_
                                rotate_left
                                · (intro w hw; (try have hcs := hcells w hw); (try go_split_ands); go_simp <;> with_reducible rfl)
                                (try simp only [Act.put, qA, qB, qC])
                                refine QK.call HK 12 #[.agg #[.int .i64 x, .int .i64 y]] (.agg #[.int .i64 x, .int .i64 y]) hcl (by rfl) (fun w => by go_simp) Fx ?_
                                (try simp only [Act.put, qA, qB, qC])
                                refine QK.take HK ?_ (by rfl) ?_ ?_
                                rotate_left
                                · (intro w hw; (try have hcs := hcells w hw); (try go_split_ands); go_simp <;> with_reducible rfl)
                                (try simp only [Act.put, qA, qB, qC])
                                refine QK.take HK ?_ (by rfl) ?_ ?_
                                rotate_left
                                · (intro w hw; (try have hcs := hcells w hw); (try go_split_ands); go_simp <;> with_reducible rfl)
                                (try simp only [Act.put, qA, qB, qC])
                                refine QK.take HK ?_ (by rfl) ?_ ?_
                                rotate_left
                                · (intro w hw; (try have hcs := hcells w hw); (try go_split_ands); go_simp <;> with_reducible rfl)
                                (try simp only [Act.put, qA, qB, qC])
                                refine QK.call HK 12 #[.agg #[.int .i64 f1, .int .i64 f2]] (.agg #[.int .i64 f1, .int .i64 f2]) hcl (by rfl) (fun w => by go_simp) Ff ?_
                                (try simp only [Act.put, qA, qB, qC])
                                refine QK.call HK 18 #[.agg #[.int .i64 x, .int .i64 y], .agg #[.int .i64 f1, .int .i64 f2]] (.bool false) hcl (by rfl) (fun w => by go_simp) CAh ?_
                                (try simp only [Act.put, qA, qB, qC])
                                refine QK.take HK ?_ (by rfl) ?_ ?_
                                rotate_left
                                · (intro w hw; (try have hcs := hcells w hw); (try go_split_ands); go_simp <;> with_reducible rfl)
                                (try simp only [Act.put, qA, qB, qC])
                                refine QK.nil HK ?_
                                clear HK K
                                intro wq hq
                                have hg9 := hgr wq hq
                                clear hcells hin hcl hgr hq
                                go_wp2
                                go_meet
                                case rel => exact ⟨⟨rfl, by first | rfl | simp⟩, hg9⟩
                              case rest =>
                                obtain ⟨⟨rfl, rfl⟩, hgr⟩ := hcut
                                obtain ⟨W12, hW9⟩ : ∃ W12, W12 = wc := ⟨_, rfl⟩
                                subst hW9
                                have hsz := hgr.size
                                replace ba := And.intro (hgr.cell_at k7 ba.1) (hgr.cell_at k7 ba.2)
                                replace bp := And.intro (hgr.cell_at kp bp.1) (hgr.cell_at kp bp.2)
                                replace cb := And.intro (hgr.cell_at kg cb.1) (hgr.cell_at kg cb.2)
                                replace cf := And.intro (hgr.cell_at kg cf.1) (hgr.cell_at kg cf.2)
                                replace cm := And.intro (hgr.cell_at kg cm.1) (hgr.cell_at kg cm.2)
                                replace HGq : Hid (IsGr W8 W12) := HGq.out.trans hgr
                                replace k7 : W7.heap.size < W12.heap.size := by omega
                                replace kp : W9.heap.size < W12.heap.size := by omega
                                replace kg : gh < W12.heap.size := by omega
                                clear hgr hsz
                                clear Fb CW CAh cb
                                go_upto_region 32 with fail
                                go_cut [88, 141] from 88 to 142 (fun t88 t141 wx => (t88 = .int .i64 q ∧ t141 = .bool false) ∧ IsGr W12 wx)
                                case first => as_aux_lemma =>
                                  by_cases hN2 : N ≤ 2
                                  · rw [hOn hN2] at CO
                                    have hd2 : decide (N ≤ 2) = true := by simp [hN2]
                                    have hd3 : (N : Int) ≤ 2 := by omega
                                    obtain ⟨C, hin, hcl, hcells, hgr⟩ : ∃ C : World → Prop, (∀ w', W12.heap.size ≤ w'.heap.size ∧ IsGr W12 w' ∧ (w'.cell? ⟨W9.heap.size, 0, none⟩ = some (.int .i64 x) ∧ w'.cell? ⟨W9.heap.size, 1, none⟩ = some (.int .i64 y)) ∧ (w'.cell? ⟨gh, oh, none⟩ = some (.int .i64 f1) ∧ w'.cell? ⟨gh, oh + 1, none⟩ = some (.int .i64 f2)) ∧ (w'.cell? ⟨gh, oh + nl * 2, none⟩ = some (.int .i64 m1) ∧ w'.cell? ⟨gh, oh + nl * 2 + 1, none⟩ = some (.int .i64 m2)) → C w') ∧ (∀ u u', C u → IsGr u u' → C u') ∧ (∀ w', C w' → (w'.cell? ⟨W9.heap.size, 0, none⟩ = some (.int .i64 x) ∧ w'.cell? ⟨W9.heap.size, 1, none⟩ = some (.int .i64 y)) ∧ (w'.cell? ⟨gh, oh, none⟩ = some (.int .i64 f1) ∧ w'.cell? ⟨gh, oh + 1, none⟩ = some (.int .i64 f2)) ∧ (w'.cell? ⟨gh, oh + nl * 2, none⟩ = some (.int .i64 m1) ∧ w'.cell? ⟨gh, oh + nl * 2 + 1, none⟩ = some (.int .i64 m2))) ∧ (∀ w', C w' → IsGr W12 w') := by
                                      refine ⟨fun w' => W12.heap.size ≤ w'.heap.size ∧ IsGr W12 w' ∧ (w'.cell? ⟨W9.heap.size, 0, none⟩ = some (.int .i64 x) ∧ w'.cell? ⟨W9.heap.size, 1, none⟩ = some (.int .i64 y)) ∧ (w'.cell? ⟨gh, oh, none⟩ = some (.int .i64 f1) ∧ w'.cell? ⟨gh, oh + 1, none⟩ = some (.int .i64 f2)) ∧ (w'.cell? ⟨gh, oh + nl * 2, none⟩ = some (.int .i64 m1) ∧ w'.cell? ⟨gh, oh + nl * 2 + 1, none⟩ = some (.int .i64 m2)), fun w' h => h, ?_, fun w' h => h.2.2, fun w' h => h.2.1⟩
                                      rintro u u' ⟨h0, h1, h2⟩ hg
                                      exact ⟨Nat.le_trans h0 hg.size, h1.trans hg, ⟨hg.cell_at (by omega) h2.1.1, hg.cell_at (by omega) h2.1.2⟩, ⟨hg.cell_at (by omega) h2.2.1.1, hg.cell_at (by omega) h2.2.1.2⟩, ⟨hg.cell_at (by omega) h2.2.2.1, hg.cell_at (by omega) h2.2.2.2⟩⟩
                                    refine wp_region_quietV C (by kernel_rfl) (by kernel_rfl) (hin _ ⟨by simp, (by with_reducible repeat (first | exact IsGr.refl _ | refine IsGr.gr ?_ _ _ | refine IsGr.alloc ?_ _ | refine IsGr.drew ?_ | refine IsGr.drewN ?_ _)), ⟨bp, cf, cm⟩⟩) (fun K HK => ?_)
                                    refine QK.take HK ?_ (by rfl) ?_ ?_
                                    rotate_left
                                    · (intro w hw; (try have hcs := hcells w hw); (try go_split_ands); go_simp <;> with_reducible rfl)
                                    (try simp only [Act.put, qA, qB, qC])
                                    refine QK.take HK ?_ (by rfl) ?_ ?_
                                    rotate_left
                                    · (intro w hw; (try have hcs := hcells w hw); (try go_split_ands); go_simp <;> with_reducible rfl)
                                    (try simp only [Act.put, qA, qB, qC])
                                    refine QK.take HK ?_ (by rfl) ?_ ?_
                                    rotate_left
                                    · (intro w hw; (try have hcs := hcells w hw); (try go_split_ands); go_simp <;> with_reducible rfl)
                                    (try simp only [Act.put, qA, qB, qC])
                                    refine QK.take HK ?_ (by rfl) ?_ ?_
                                    rotate_left
                                    · (intro w hw; (try have hcs := hcells w hw); (try go_split_ands); go_simp <;> with_reducible rfl)
                                    (try simp only [Act.put, qA, qB, qC])
                                    refine QK.take HK ?_ (by rfl) ?_ ?_
                                    rotate_left
                                    · (intro w hw; (try have hcs := hcells w hw); (try go_split_ands); go_simp <;> with_reducible rfl)
                                    (try simp only [Act.put, qA, qB, qC])
                                    refine QK.take HK ?_ (by rfl) ?_ ?_
                                    rotate_left
                                    · (intro w hw; (try have hcs := hcells w hw); (try go_split_ands); go_simp <;> with_reducible rfl)
                                    (try simp only [Act.put, qA, qB, qC])
                                    refine QK.take HK ?_ (by rfl) ?_ ?_
                                    rotate_left
                                    · (intro w hw; (try have hcs := hcells w hw); (try go_split_ands); go_simp <;> with_reducible rfl)
                                    (try simp only [Act.put, qA, qB, qC])
                                    refine QK.call HK 12 #[.agg #[.int .i64 f1, .int .i64 f2]] (.agg #[.int .i64 f1, .int .i64 f2]) hcl (by rfl) (fun w => by go_simp) Ff ?_
                                    (try simp only [Act.put, qA, qB, qC])
                                    refine QK.take HK ?_ (by rfl) ?_ ?_
                                    rotate_left
                                    · (intro w hw; (try have hcs := hcells w hw); (try go_split_ands); go_simp <;> with_reducible rfl)
                                    (try simp only [Act.put, qA, qB, qC])
                                    refine QK.take HK ?_ (by rfl) ?_ ?_
                                    rotate_left
                                    · (intro w hw; (try have hcs := hcells w hw); (try go_split_ands); go_simp <;> with_reducible rfl)
                                    (try simp only [Act.put, qA, qB, qC])
                                    refine QK.take HK ?_ (by rfl) ?_ ?_
                                    rotate_left
                                    · (intro w hw; (try have hcs := hcells w hw); (try go_split_ands); go_simp <;> with_reducible rfl)
                                    (try simp only [Act.put, qA, qB, qC])
                                    refine QK.take HK ?_ (by rfl) ?_ ?_
                                    rotate_left
                                    · (intro w hw; (try have hcs := hcells w hw); (try go_split_ands); go_simp <;> with_reducible rfl)
                                    (try simp only [Act.put, qA, qB, qC])
                                    refine QK.take HK ?_ (by rfl) ?_ ?_
                                    rotate_left
                                    · (intro w hw; (try have hcs := hcells w hw); (try go_split_ands); go_simp <;> with_reducible rfl)
                                    (try simp only [Act.put, qA, qB, qC])
                                    refine QK.take HK ?_ (by rfl) ?_ ?_
                                    rotate_left
                                    · (intro w hw; (try have hcs := hcells w hw); (try go_split_ands); go_simp <;> with_reducible rfl)
                                    (try simp only [Act.put, qA, qB, qC])
                                    refine QK.call HK 12 #[.agg #[.int .i64 m1, .int .i64 m2]] (.agg #[.int .i64 m1, .int .i64 m2]) hcl (by rfl) (fun w => by go_simp) Fm ?_
                                    (try simp only [Act.put, qA, qB, qC])
                                    refine QK.take HK ?_ (by rfl) ?_ ?_
                                    rotate_left
                                    · (intro w hw; (try have hcs := hcells w hw); (try go_split_ands); go_simp <;> with_reducible rfl)
                                    (try simp only [Act.put, qA, qB, qC])
                                    refine QK.call HK 12 #[.agg #[.int .i64 x, .int .i64 y]] (.agg #[.int .i64 x, .int .i64 y]) hcl (by rfl) (fun w => by go_simp) Fx ?_
                                    (try simp only [Act.put, qA, qB, qC])
                                    refine QK.call HK 13 #[.agg #[.int .i64 f1, .int .i64 f2], .agg #[.int .i64 m1, .int .i64 m2], .agg #[.int .i64 x, .int .i64 y]] (.bool true) hcl (by rfl) (fun w => by go_simp) CO ?_
                                    (try simp only [Act.put, qA, qB, qC])
                                    refine QK.take HK ?_ (by rfl) ?_ ?_
                                    rotate_left
                                    · (intro w hw; (try have hcs := hcells w hw); (try go_split_ands); go_simp <;> with_reducible rfl)
                                    (try simp only [Act.put, qA, qB, qC])
                                    refine QK.take HK ?_ (by rfl) ?_ ?_
                                    rotate_left
                                    · (intro w hw; (try have hcs := hcells w hw); (try go_split_ands); go_simp <;> with_reducible rfl)
                                    (try simp only [Act.put, qA, qB, qC])
                                    refine QK.nil HK ?_
                                    clear HK K
                                    intro wq hq
                                    have hg9 := hgr wq hq
                                    clear hcells hin hcl hgr hq
                                    go_wp2
                                    go_meet
                                    case rel => exact ⟨⟨rfl, by first | rfl | simp⟩, hg9⟩
                                  · have hd2 : decide (N ≤ 2) = false := by simp [hN2]
                                    have hd3 : ¬ (N : Int) ≤ 2 := by omega
                                    obtain ⟨C, hin, hcl, hcells, hgr⟩ : ∃ C : World → Prop, (∀ w', W12.heap.size ≤ w'.heap.size ∧ IsGr W12 w' ∧ (w'.cell? ⟨W9.heap.size, 0, none⟩ = some (.int .i64 x) ∧ w'.cell? ⟨W9.heap.size, 1, none⟩ = some (.int .i64 y)) → C w') ∧ (∀ u u', C u → IsGr u u' → C u') ∧ (∀ w', C w' → (w'.cell? ⟨W9.heap.size, 0, none⟩ = some (.int .i64 x) ∧ w'.cell? ⟨W9.heap.size, 1, none⟩ = some (.int .i64 y))) ∧ (∀ w', C w' → IsGr W12 w') := by
                                      refine ⟨fun w' => W12.heap.size ≤ w'.heap.size ∧ IsGr W12 w' ∧ (w'.cell? ⟨W9.heap.size, 0, none⟩ = some (.int .i64 x) ∧ w'.cell? ⟨W9.heap.size, 1, none⟩ = some (.int .i64 y)), fun w' h => h, ?_, fun w' h => h.2.2, fun w' h => h.2.1⟩
                                      rintro u u' ⟨h0, h1, h2⟩ hg
                                      exact ⟨Nat.le_trans h0 hg.size, h1.trans hg, ⟨hg.cell_at (by omega) h2.1, hg.cell_at (by omega) h2.2⟩⟩
                                    refine wp_region_quietV C (by kernel_rfl) (by kernel_rfl) (hin _ ⟨by simp, (by with_reducible repeat (first | exact IsGr.refl _ | refine IsGr.gr ?_ _ _ | refine IsGr.alloc ?_ _ | refine IsGr.drew ?_ | refine IsGr.drewN ?_ _)), bp⟩) (fun K HK => ?_)
                                    refine QK.take HK ?_ (by rfl) ?_ ?_
                                    rotate_left
                                    · (intro w hw; (try have hcs := hcells w hw); (try go_split_ands); go_simp <;> with_reducible rfl)
                                    (try simp only [Act.put, qA, qB, qC])
                                    refine QK.take HK ?_ (by rfl) ?_ ?_
                                    rotate_left
                                    · (intro w hw; (try have hcs := hcells w hw); (try go_split_ands); go_simp <;> with_reducible rfl)
                                    (try simp only [Act.put, qA, qB, qC])
                                    refine QK.take HK ?_ (by rfl) ?_ ?_
                                    rotate_left
                                    · (intro w hw; (try have hcs := hcells w hw); (try go_split_ands); go_simp <;> with_reducible rfl)
                                    (try simp only [Act.put, qA, qB, qC])
                                    refine QK.take HK ?_ (by rfl) ?_ ?_
                                    rotate_left
                                    · (intro w hw; (try have hcs := hcells w hw); (try go_split_ands); go_simp <;> with_reducible rfl)
                                    (try simp only [Act.put, qA, qB, qC])
                                    refine QK.skip HK (by rfl) ?_
                                    (try simp only [Act.put, qA, qB, qC])
                                    refine QK.skip HK (by rfl) ?_
                                    (try simp only [Act.put, qA, qB, qC])
                                    refine QK.skip HK (by rfl) ?_
                                    (try simp only [Act.put, qA, qB, qC])
                                    refine QK.skip HK (by rfl) ?_
                                    (try simp only [Act.put, qA, qB, qC])
                                    refine QK.skip HK (by rfl) ?_
                                    (try simp only [Act.put, qA, qB, qC])
                                    refine QK.skip HK (by rfl) ?_
                                    (try simp only [Act.put, qA, qB, qC])
                                    refine QK.skip HK (by rfl) ?_
                                    (try simp only [Act.put, qA, qB, qC])
                                    refine QK.skip HK (by rfl) ?_
                                    (try simp only [Act.put, qA, qB, qC])
                                    refine QK.skip HK (by rfl) ?_
                                    (try simp only [Act.put, qA, qB, qC])
                                    refine QK.skip HK (by rfl) ?_
                                    (try simp only [Act.put, qA, qB, qC])
                                    refine QK.skip HK (by rfl) ?_
                                    (try simp only [Act.put, qA, qB, qC])
                                    refine QK.skip HK (by rfl) ?_
                                    (try simp only [Act.put, qA, qB, qC])
                                    refine QK.skip HK (by rfl) ?_
                                    (try simp only [Act.put, qA, qB, qC])
                                    refine QK.skip HK (by rfl) ?_
                                    (try simp only [Act.put, qA, qB, qC])
                                    refine QK.skip HK (by rfl) ?_
                                    (try simp only [Act.put, qA, qB, qC])
                                    refine QK.take HK ?_ (by rfl) ?_ ?_
                                    rotate_left
                                    · (intro w hw; (try have hcs := hcells w hw); (try go_split_ands); go_simp <;> with_reducible rfl)
                                    (try simp only [Act.put, qA, qB, qC])
                                    refine QK.nil HK ?_
                                    clear HK K
                                    intro wq hq
                                    have hg9 := hgr wq hq
                                    clear hcells hin hcl hgr hq
                                    go_wp2
                                    go_meet
                                    case rel => exact ⟨⟨rfl, by first | rfl | simp⟩, hg9⟩
                                case rest =>
                                  obtain ⟨⟨rfl, rfl⟩, hgr⟩ := hcut
                                  obtain ⟨W13, hW9⟩ : ∃ W13, W13 = wc := ⟨_, rfl⟩
                                  subst hW9
                                  have hsz := hgr.size
                                  replace ba := And.intro (hgr.cell_at k7 ba.1) (hgr.cell_at k7 ba.2)
                                  replace HGq : Hid (IsGr W8 W13) := HGq.out.trans hgr
                                  clear hgr hsz cf cm bp
                                  go_wp2
                                  go_roundw
                                  case rel => exact ⟨q + 1, by omega, by go_num, by rw [HQ1.out], ba, HGq.out⟩
                                  case measure => simp [intOf]; omega
                        · obtain rfl : q = i := by omega
                          have hfound : hasK l a1 a2 q = true := by rw [HL.out]; exact hasK_mem HF.out.1
                          rw [hfound]
                          have HW2 := HF.out.2.2
                          have CW2 := fun w => Way_any a1 a2 b1 b2 d1 d2 w
                          generalize wayP a1 a2 b1 b2 d1 d2 = T at *
                          replace cb := And.intro (hgq.cell_at hgh cb.1) (hgq.cell_at hgh cb.2)
                          replace cd := And.intro (hgq.cell_at hgh cd.1) (hgq.cell_at hgh cd.2)
                          have hgh9 : gh < W9.heap.size := by omega
                          replace HGj : Hid (IsGr W6 W9) := HGj.out.trans hgq
                          clear HF hfound HGq hPl hH hgq hsq cf cm
                          go_upto_region 35 with fail
                          go_cut [81, 173] from 81 to 174 (fun t81 t173 wx => (t81 = .int .i64 j ∧ t173 = .bool false) ∧ IsGr W9 wx)
                          case first => as_aux_lemma =>
                            by_cases hN2 : 2 < N
                            · have hT0 := HW2 hN2
                              have hT1 : decide (T ≤ 0) = false := by simp; omega
                              have hT2 : ¬ T ≤ 0 := by omega
                              have hd2 : decide (2 < N) = true := by simp [hN2]
                              have hd3 : (2 : Int) < N := by omega
                              obtain ⟨C, hin, hcl, hcells, hgr⟩ : ∃ C : World → Prop, (∀ w', W9.heap.size ≤ w'.heap.size ∧ IsGr W9 w' ∧ (w'.cell? ⟨W7.heap.size, 0, none⟩ = some (.int .i64 a1) ∧ w'.cell? ⟨W7.heap.size, 1, none⟩ = some (.int .i64 a2)) ∧ (w'.cell? ⟨gh, oh + jn * 2, none⟩ = some (.int .i64 b1) ∧ w'.cell? ⟨gh, oh + jn * 2 + 1, none⟩ = some (.int .i64 b2)) ∧ (w'.cell? ⟨gh, oh + jm * 2, none⟩ = some (.int .i64 d1) ∧ w'.cell? ⟨gh, oh + jm * 2 + 1, none⟩ = some (.int .i64 d2)) → C w') ∧ (∀ u u', C u → IsGr u u' → C u') ∧ (∀ w', C w' → (w'.cell? ⟨W7.heap.size, 0, none⟩ = some (.int .i64 a1) ∧ w'.cell? ⟨W7.heap.size, 1, none⟩ = some (.int .i64 a2)) ∧ (w'.cell? ⟨gh, oh + jn * 2, none⟩ = some (.int .i64 b1) ∧ w'.cell? ⟨gh, oh + jn * 2 + 1, none⟩ = some (.int .i64 b2)) ∧ (w'.cell? ⟨gh, oh + jm * 2, none⟩ = some (.int .i64 d1) ∧ w'.cell? ⟨gh, oh + jm * 2 + 1, none⟩ = some (.int .i64 d2))) ∧ (∀ w', C w' → IsGr W9 w') := by
                                refine ⟨fun w' => W9.heap.size ≤ w'.heap.size ∧ IsGr W9 w' ∧ (w'.cell? ⟨W7.heap.size, 0, none⟩ = some (.int .i64 a1) ∧ w'.cell? ⟨W7.heap.size, 1, none⟩ = some (.int .i64 a2)) ∧ (w'.cell? ⟨gh, oh + jn * 2, none⟩ = some (.int .i64 b1) ∧ w'.cell? ⟨gh, oh + jn * 2 + 1, none⟩ = some (.int .i64 b2)) ∧ (w'.cell? ⟨gh, oh + jm * 2, none⟩ = some (.int .i64 d1) ∧ w'.cell? ⟨gh, oh + jm * 2 + 1, none⟩ = some (.int .i64 d2)), fun w' h => h, ?_, fun w' h => h.2.2, fun w' h => h.2.1⟩
                                rintro u u' ⟨h0, h1, h2⟩ hg
                                exact ⟨Nat.le_trans h0 hg.size, h1.trans hg, ⟨hg.cell_at (by omega) h2.1.1, hg.cell_at (by omega) h2.1.2⟩, ⟨hg.cell_at (by omega) h2.2.1.1, hg.cell_at (by omega) h2.2.1.2⟩, ⟨hg.cell_at (by omega) h2.2.2.1, hg.cell_at (by omega) h2.2.2.2⟩⟩
                              refine wp_region_quietV C (by kernel_rfl) (by kernel_rfl) (hin _ ⟨by simp, (by with_reducible repeat (first | exact IsGr.refl _ | refine IsGr.gr ?_ _ _ | refine IsGr.alloc ?_ _ | refine IsGr.drew ?_ | refine IsGr.drewN ?_ _)), ⟨ba, cb, cd⟩⟩) (fun K HK => ?_)
                              refine QK.take HK ?_ (by rfl) ?_ ?_
                              rotate_left
                              · (intro w hw; (try have hcs := hcells w hw); (try go_split_ands); go_simp <;> with_reducible rfl)
                              (try simp only [Act.put, qA, qB, qC])
                              refine QK.take HK ?_ (by rfl) ?_ ?_
                              rotate_left
                              · (intro w hw; (try have hcs := hcells w hw); (try go_split_ands); go_simp <;> with_reducible rfl)
                              (try simp only [Act.put, qA, qB, qC])
                              refine QK.take HK ?_ (by rfl) ?_ ?_
                              rotate_left
                              · (intro w hw; (try have hcs := hcells w hw); (try go_split_ands); go_simp <;> with_reducible rfl)
                              (try simp only [Act.put, qA, qB, qC])
                              refine QK.take HK ?_ (by rfl) ?_ ?_
                              rotate_left
                              · (intro w hw; (try have hcs := hcells w hw); (try go_split_ands); go_simp <;> with_reducible rfl)
                              (try simp only [Act.put, qA, qB, qC])
                              refine QK.take HK ?_ (by rfl) ?_ ?_
                              rotate_left
                              · (intro w hw; (try have hcs := hcells w hw); (try go_split_ands); go_simp <;> with_reducible rfl)
                              (try simp only [Act.put, qA, qB, qC])
                              refine QK.take HK ?_ (by rfl) ?_ ?_
                              rotate_left
                              · (intro w hw; (try have hcs := hcells w hw); (try go_split_ands); go_simp <;> with_reducible rfl)
                              (try simp only [Act.put, qA, qB, qC])
                              refine QK.take HK ?_ (by rfl) ?_ ?_
                              rotate_left
                              · (intro w hw; (try have hcs := hcells w hw); (try go_split_ands); go_simp <;> with_reducible rfl)
                              (try simp only [Act.put, qA, qB, qC])
                              refine QK.take HK ?_ (by rfl) ?_ ?_
                              rotate_left
                              · (intro w hw; (try have hcs := hcells w hw); (try go_split_ands); go_simp <;> with_reducible rfl)
                              (try simp only [Act.put, qA, qB, qC])
                              refine QK.call HK 12 #[.agg #[.int .i64 a1, .int .i64 a2]] (.agg #[.int .i64 a1, .int .i64 a2]) hcl (by rfl) (fun w => by go_simp) Fa ?_
                              (try simp only [Act.put, qA, qB, qC])
                              refine QK.take HK ?_ (by rfl) ?_ ?_
                              rotate_left
                              · (intro w hw; (try have hcs := hcells w hw); (try go_split_ands); go_simp <;> with_reducible rfl)
                              (try simp only [Act.put, qA, qB, qC])
                              refine QK.take HK ?_ (by rfl) ?_ ?_
                              rotate_left
                              · (intro w hw; (try have hcs := hcells w hw); (try go_split_ands); go_simp <;> with_reducible rfl)
                              (try simp only [Act.put, qA, qB, qC])
                              refine QK.take HK ?_ (by rfl) ?_ ?_
                              rotate_left
                              · (intro w hw; (try have hcs := hcells w hw); (try go_split_ands); go_simp <;> with_reducible rfl)
                              (try simp only [Act.put, qA, qB, qC])
                              refine QK.take HK ?_ (by rfl) ?_ ?_
                              rotate_left
                              · (intro w hw; (try have hcs := hcells w hw); (try go_split_ands); go_simp <;> with_reducible rfl)
                              (try simp only [Act.put, qA, qB, qC])
                              refine QK.take HK ?_ (by rfl) ?_ ?_
                              rotate_left
                              · (intro w hw; (try have hcs := hcells w hw); (try go_split_ands); go_simp <;> with_reducible rfl)
                              (try simp only [Act.put, qA, qB, qC])
                              refine QK.take HK ?_ (by rfl) ?_ ?_
                              rotate_left
                              · (intro w hw; (try have hcs := hcells w hw); (try go_split_ands); go_simp <;> with_reducible rfl)
                              (try simp only [Act.put, qA, qB, qC])
                              refine QK.take HK ?_ (by rfl) ?_ ?_
                              rotate_left
                              · (intro w hw; (try have hcs := hcells w hw); (try go_split_ands); go_simp <;> with_reducible rfl)
                              (try simp only [Act.put, qA, qB, qC])
                              refine QK.take HK ?_ (by rfl) ?_ ?_
                              rotate_left
                              · (intro w hw; (try have hcs := hcells w hw); (try go_split_ands); go_simp <;> with_reducible rfl)
                              (try simp only [Act.put, qA, qB, qC])
                              refine QK.call HK 12 #[.agg #[.int .i64 b1, .int .i64 b2]] (.agg #[.int .i64 b1, .int .i64 b2]) hcl (by rfl) (fun w => by go_simp) Fb ?_
                              (try simp only [Act.put, qA, qB, qC])
                              refine QK.take HK ?_ (by rfl) ?_ ?_
                              rotate_left
                              · (intro w hw; (try have hcs := hcells w hw); (try go_split_ands); go_simp <;> with_reducible rfl)
                              (try simp only [Act.put, qA, qB, qC])
                              refine QK.take HK ?_ (by rfl) ?_ ?_
                              rotate_left
                              · (intro w hw; (try have hcs := hcells w hw); (try go_split_ands); go_simp <;> with_reducible rfl)
                              (try simp only [Act.put, qA, qB, qC])
                              refine QK.take HK ?_ (by rfl) ?_ ?_
                              rotate_left
                              · (intro w hw; (try have hcs := hcells w hw); (try go_split_ands); go_simp <;> with_reducible rfl)
                              (try simp only [Act.put, qA, qB, qC])
                              refine QK.take HK ?_ (by rfl) ?_ ?_
                              rotate_left
                              · (intro w hw; (try have hcs := hcells w hw); (try go_split_ands); go_simp <;> with_reducible rfl)
                              (try simp only [Act.put, qA, qB, qC])
                              refine QK.take HK ?_ (by rfl) ?_ ?_
                              rotate_left
                              · (intro w hw; (try have hcs := hcells w hw); (try go_split_ands); go_simp <;> with_reducible rfl)
                              (try simp only [Act.put, qA, qB, qC])
                              refine QK.take HK ?_ (by rfl) ?_ ?_
                              rotate_left
                              · (intro w hw; (try have hcs := hcells w hw); (try go_split_ands); go_simp <;> with_reducible rfl)
                              (try simp only [Act.put, qA, qB, qC])
                              refine QK.take HK ?_ (by rfl) ?_ ?_
                              rotate_left
                              · (intro w hw; (try have hcs := hcells w hw); (try go_split_ands); go_simp <;> with_reducible rfl)
                              (try simp only [Act.put, qA, qB, qC])
                              refine QK.take HK ?_ (by rfl) ?_ ?_
                              rotate_left
                              · (intro w hw; (try have hcs := hcells w hw); (try go_split_ands); go_simp <;> with_reducible rfl)
                              (try simp only [Act.put, qA, qB, qC])
                              refine QK.call HK 12 #[.agg #[.int .i64 d1, .int .i64 d2]] (.agg #[.int .i64 d1, .int .i64 d2]) hcl (by rfl) (fun w => by go_simp) Fd ?_
                              (try simp only [Act.put, qA, qB, qC])
                              refine QK.call HK 17 #[.agg #[.int .i64 a1, .int .i64 a2], .agg #[.int .i64 b1, .int .i64 b2], .agg #[.int .i64 d1, .int .i64 d2]] (.int .i64 T) hcl (by rfl) (fun w => by go_simp) CW2 ?_
                              (try simp only [Act.put, qA, qB, qC])
                              refine QK.take HK ?_ (by rfl) ?_ ?_
                              rotate_left
                              · (intro w hw; (try have hcs := hcells w hw); (try go_split_ands); go_simp <;> with_reducible rfl)
                              (try simp only [Act.put, qA, qB, qC])
                              refine QK.take HK ?_ (by rfl) ?_ ?_
                              rotate_left
                              · (intro w hw; (try have hcs := hcells w hw); (try go_split_ands); go_simp <;> with_reducible rfl)
                              (try simp only [Act.put, qA, qB, qC])
                              refine QK.take HK ?_ (by rfl) ?_ ?_
                              rotate_left
                              · (intro w hw; (try have hcs := hcells w hw); (try go_split_ands); go_simp <;> with_reducible rfl)
                              (try simp only [Act.put, qA, qB, qC])
                              refine QK.nil HK ?_
                              clear HK K
                              intro wq hq
                              have hg9 := hgr wq hq
                              clear hcells hin hcl hgr hq
                              go_wp2
                              go_meet
                              case rel => exact ⟨⟨rfl, by first | rfl | simp⟩, hg9⟩
                            · have hd2 : decide (2 < N) = false := by simp [hN2]
                              have hd3 : ¬ (2 : Int) < N := by omega
                              obtain ⟨C, hin, hcl, hcells, hgr⟩ : ∃ C : World → Prop, (∀ w', W9.heap.size ≤ w'.heap.size ∧ IsGr W9 w' ∧ (w'.cell? ⟨W7.heap.size, 0, none⟩ = some (.int .i64 a1) ∧ w'.cell? ⟨W7.heap.size, 1, none⟩ = some (.int .i64 a2)) → C w') ∧ (∀ u u', C u → IsGr u u' → C u') ∧ (∀ w', C w' → (w'.cell? ⟨W7.heap.size, 0, none⟩ = some (.int .i64 a1) ∧ w'.cell? ⟨W7.heap.size, 1, none⟩ = some (.int .i64 a2))) ∧ (∀ w', C w' → IsGr W9 w') := by
                                refine ⟨fun w' => W9.heap.size ≤ w'.heap.size ∧ IsGr W9 w' ∧ (w'.cell? ⟨W7.heap.size, 0, none⟩ = some (.int .i64 a1) ∧ w'.cell? ⟨W7.heap.size, 1, none⟩ = some (.int .i64 a2)), fun w' h => h, ?_, fun w' h => h.2.2, fun w' h => h.2.1⟩
                                rintro u u' ⟨h0, h1, h2⟩ hg
                                exact ⟨Nat.le_trans h0 hg.size, h1.trans hg, ⟨hg.cell_at (by omega) h2.1, hg.cell_at (by omega) h2.2⟩⟩
                              refine wp_region_quietV C (by kernel_rfl) (by kernel_rfl) (hin _ ⟨by simp, (by with_reducible repeat (first | exact IsGr.refl _ | refine IsGr.gr ?_ _ _ | refine IsGr.alloc ?_ _ | refine IsGr.drew ?_ | refine IsGr.drewN ?_ _)), ba⟩) (fun K HK => ?_)
                              refine QK.take HK ?_ (by rfl) ?_ ?_
                              rotate_left
                              · (intro w hw; (try have hcs := hcells w hw); (try go_split_ands); go_simp <;> with_reducible rfl)
                              (try simp only [Act.put, qA, qB, qC])
                              refine QK.take HK ?_ (by rfl) ?_ ?_
                              rotate_left
                              · (intro w hw; (try have hcs := hcells w hw); (try go_split_ands); go_simp <;> with_reducible rfl)
                              (try simp only [Act.put, qA, qB, qC])
                              refine QK.take HK ?_ (by rfl) ?_ ?_
                              rotate_left
                              · (intro w hw; (try have hcs := hcells w hw); (try go_split_ands); go_simp <;> with_reducible rfl)
                              (try simp only [Act.put, qA, qB, qC])
                              refine QK.take HK ?_ (by rfl) ?_ ?_
                              rotate_left
                              · (intro w hw; (try have hcs := hcells w hw); (try go_split_ands); go_simp <;> with_reducible rfl)
                              (try simp only [Act.put, qA, qB, qC])
                              refine QK.take HK ?_ (by rfl) ?_ ?_
                              rotate_left
                              · (intro w hw; (try have hcs := hcells w hw); (try go_split_ands); go_simp <;> with_reducible rfl)
                              (try simp only [Act.put, qA, qB, qC])
                              refine QK.take HK ?_ (by rfl) ?_ ?_
                              rotate_left
                              · (intro w hw; (try have hcs := hcells w hw); (try go_split_ands); go_simp <;> with_reducible rfl)
                              (try simp only [Act.put, qA, qB, qC])
                              refine QK.take HK ?_ (by rfl) ?_ ?_
                              rotate_left
                              · (intro w hw; (try have hcs := hcells w hw); (try go_split_ands); go_simp <;> with_reducible rfl)
                              (try simp only [Act.put, qA, qB, qC])
                              refine QK.skip HK (by rfl) ?_
                              (try simp only [Act.put, qA, qB, qC])
                              refine QK.skip HK (by rfl) ?_
                              (try simp only [Act.put, qA, qB, qC])
                              refine QK.skip HK (by rfl) ?_
                              (try simp only [Act.put, qA, qB, qC])
                              refine QK.skip HK (by rfl) ?_
                              (try simp only [Act.put, qA, qB, qC])
                              refine QK.skip HK (by rfl) ?_
                              (try simp only [Act.put, qA, qB, qC])
                              refine QK.skip HK (by rfl) ?_
                              (try simp only [Act.put, qA, qB, qC])
                              refine QK.skip HK (by rfl) ?_
                              (try simp only [Act.put, qA, qB, qC])
                              refine QK.skip HK (by rfl) ?_
                              (try simp only [Act.put, qA, qB, qC])
                              refine QK.skip HK (by rfl) ?_
                              (try simp only [Act.put, qA, qB, qC])
                              refine QK.skip HK (by rfl) ?_
                              (try simp only [Act.put, qA, qB, qC])
                              refine QK.skip HK (by rfl) ?_
                              (try simp only [Act.put, qA, qB, qC])
                              refine QK.skip HK (by rfl) ?_
                              (try simp only [Act.put, qA, qB, qC])
                              refine QK.skip HK (by rfl) ?_
                              (try simp only [Act.put, qA, qB, qC])
                              refine QK.skip HK (by rfl) ?_
                              (try simp only [Act.put, qA, qB, qC])
                              refine QK.skip HK (by rfl) ?_
                              (try simp only [Act.put, qA, qB, qC])
                              refine QK.skip HK (by rfl) ?_
                              (try simp only [Act.put, qA, qB, qC])
                              refine QK.skip HK (by rfl) ?_
                              (try simp only [Act.put, qA, qB, qC])
                              refine QK.skip HK (by rfl) ?_
                              (try simp only [Act.put, qA, qB, qC])
                              refine QK.skip HK (by rfl) ?_
                              (try simp only [Act.put, qA, qB, qC])
                              refine QK.skip HK (by rfl) ?_
                              (try simp only [Act.put, qA, qB, qC])
                              refine QK.skip HK (by rfl) ?_
                              (try simp only [Act.put, qA, qB, qC])
                              refine QK.skip HK (by rfl) ?_
                              (try simp only [Act.put, qA, qB, qC])
                              refine QK.take HK ?_ (by rfl) ?_ ?_
                              rotate_left
                              · (intro w hw; (try have hcs := hcells w hw); (try go_split_ands); go_simp <;> with_reducible rfl)
                              (try simp only [Act.put, qA, qB, qC])
                              refine QK.take HK ?_ (by rfl) ?_ ?_
                              rotate_left
                              · (intro w hw; (try have hcs := hcells w hw); (try go_split_ands); go_simp <;> with_reducible rfl)
                              (try simp only [Act.put, qA, qB, qC])
                              refine QK.nil HK ?_
                              clear HK K
                              intro wq hq
                              have hg9 := hgr wq hq
                              clear hcells hin hcl hgr hq
                              go_wp2
                              go_meet
                              case rel => exact ⟨⟨rfl, by first | rfl | simp⟩, hg9⟩
                          case rest =>
                            obtain ⟨⟨rfl, rfl⟩, hgr⟩ := hcut
                            obtain ⟨W14, hW9⟩ : ∃ W14, W14 = wc := ⟨_, rfl⟩
                            subst hW9
                            replace HGj : Hid (IsGr W6 W14) := HGj.out.trans hgr
                            clear hgr ba cb cd
                            go_wp2
                            go_roundw
                            case rel => exact ⟨j + 1, by omega, by go_num, HGj.out⟩
                            case measure => simp [intOf]; omega
                  · obtain rfl : j = N := by omega
                    clear HGj hPl
                    by_cases h2 : j = 2
                    · subst h2
                      obtain ⟨gh, oh, rfl, hgh, hc⟩ := hH.at (k := 0) (by omega)
                      have c0 := hc 0 (by omega)
                      have c1 := hc 1 (by omega)
                      have HE : Hid (hs.getD 0 (0, 0) ≠ hs.getD 1 (0, 0)) := by
                        rcases HH9.out with ⟨_, h2⟩ | ⟨_, _, h3⟩
                        · omega
                        · exact h3.2.2.2.2.2.2 HN.out
                      obtain ⟨f1, f2, ef⟩ : ∃ f1 f2, hs.getD 0 (0, 0) = (f1, f2) := ⟨_, _, rfl⟩
                      obtain ⟨m1, m2, em⟩ : ∃ m1 m2, hs.getD 1 (0, 0) = (m1, m2) := ⟨_, _, rfl⟩
                      rw [ef] at c0
                      rw [em] at c1
                      have hne : ¬ (f1 = m1 ∧ f2 = m2) := fun h => HE.out (by rw [ef, em, h.1, h.2])
                      simp only [Nat.zero_mul, Nat.add_zero, Nat.one_mul] at c0 c1
                      clear HE hc hH HH9 HRR HN ef em
                      by_cases e1 : f1 = m1
                      · have e2 : ¬ f2 = m2 := fun h => hne ⟨e1, h⟩
                        have y1 : (f1 == m1) = true := by simp [e1]
                        have y2 : (f2 == m2) = false := by simp [e2]
                        clear e1 e2 hne
                        go_upto_region 38 with fail
                        obtain ⟨C, hin, hcl, hcells, hgr⟩ : ∃ C : World → Prop, (∀ w', W7.heap.size ≤ w'.heap.size ∧ IsGr W7 w' ∧ (w'.cell? ⟨gh, oh, none⟩ = some (.int .i64 f1) ∧ w'.cell? ⟨gh, oh + 1, none⟩ = some (.int .i64 f2)) ∧ (w'.cell? ⟨gh, oh + 2, none⟩ = some (.int .i64 m1) ∧ w'.cell? ⟨gh, oh + 2 + 1, none⟩ = some (.int .i64 m2)) → C w') ∧ (∀ u u', C u → IsGr u u' → C u') ∧ (∀ w', C w' → (w'.cell? ⟨gh, oh, none⟩ = some (.int .i64 f1) ∧ w'.cell? ⟨gh, oh + 1, none⟩ = some (.int .i64 f2)) ∧ (w'.cell? ⟨gh, oh + 2, none⟩ = some (.int .i64 m1) ∧ w'.cell? ⟨gh, oh + 2 + 1, none⟩ = some (.int .i64 m2))) ∧ (∀ w', C w' → IsGr W7 w') := by
                          refine ⟨fun w' => W7.heap.size ≤ w'.heap.size ∧ IsGr W7 w' ∧ (w'.cell? ⟨gh, oh, none⟩ = some (.int .i64 f1) ∧ w'.cell? ⟨gh, oh + 1, none⟩ = some (.int .i64 f2)) ∧ (w'.cell? ⟨gh, oh + 2, none⟩ = some (.int .i64 m1) ∧ w'.cell? ⟨gh, oh + 2 + 1, none⟩ = some (.int .i64 m2)), fun w' h => h, ?_, fun w' h => h.2.2, fun w' h => h.2.1⟩
                          rintro u u' ⟨h0, h1, h2⟩ hg
                          exact ⟨Nat.le_trans h0 hg.size, h1.trans hg, ⟨hg.cell_at (by omega) h2.1.1, hg.cell_at (by omega) h2.1.2⟩, ⟨hg.cell_at (by omega) h2.2.1, hg.cell_at (by omega) h2.2.2⟩⟩
                        refine wp_region_quietV C (by kernel_rfl) (by kernel_rfl) (hin _ ⟨by simp, (by with_reducible repeat (first | exact IsGr.refl _ | refine IsGr.gr ?_ _ _ | refine IsGr.alloc ?_ _ | refine IsGr.drew ?_ | refine IsGr.drewN ?_ _)), ⟨c0, c1⟩⟩) (fun K HK => ?_)
                        refine QK.take HK ?_ (by rfl) ?_ ?_
                        rotate_left
                        · (intro w hw; (try have hcs := hcells w hw); (try go_split_ands); go_simp <;> with_reducible rfl)
                        (try simp only [Act.put, qA, qB, qC])
                        refine QK.take HK ?_ (by rfl) ?_ ?_
                        rotate_left
                        · (intro w hw; (try have hcs := hcells w hw); (try go_split_ands); go_simp <;> with_reducible rfl)
                        (try simp only [Act.put, qA, qB, qC])
                        refine QK.take HK ?_ (by rfl) ?_ ?_
                        rotate_left
                        · (intro w hw; (try have hcs := hcells w hw); (try go_split_ands); go_simp <;> with_reducible rfl)
                        (try simp only [Act.put, qA, qB, qC])
                        refine QK.take HK ?_ (by rfl) ?_ ?_
                        rotate_left
                        · (intro w hw; (try have hcs := hcells w hw); (try go_split_ands); go_simp <;> with_reducible rfl)
                        (try simp only [Act.put, qA, qB, qC])
                        refine QK.take HK ?_ (by rfl) ?_ ?_
                        rotate_left
                        · (intro w hw; (try have hcs := hcells w hw); (try go_split_ands); go_simp <;> with_reducible rfl)
                        (try simp only [Act.put, qA, qB, qC])
                        refine QK.take HK ?_ (by rfl) ?_ ?_
                        rotate_left
                        · (intro w hw; (try have hcs := hcells w hw); (try go_split_ands); go_simp <;> with_reducible rfl)
                        (try simp only [Act.put, qA, qB, qC])
                        refine QK.take HK ?_ (by rfl) ?_ ?_
                        rotate_left
                        · (intro w hw; (try have hcs := hcells w hw); (try go_split_ands); go_simp <;> with_reducible rfl)
                        (try simp only [Act.put, qA, qB, qC])
                        refine QK.take HK ?_ (by rfl) ?_ ?_
                        rotate_left
                        · (intro w hw; (try have hcs := hcells w hw); (try go_split_ands); go_simp <;> with_reducible rfl)
                        (try simp only [Act.put, qA, qB, qC])
                        refine QK.take HK ?_ (by rfl) ?_ ?_
                        rotate_left
                        · (intro w hw; (try have hcs := hcells w hw); (try go_split_ands); go_simp <;> with_reducible rfl)
                        (try simp only [Act.put, qA, qB, qC])
                        refine QK.take HK ?_ (by rfl) ?_ ?_
                        rotate_left
                        · (intro w hw; (try have hcs := hcells w hw); (try go_split_ands); go_simp <;> with_reducible rfl)
                        (try simp only [Act.put, qA, qB, qC])
                        refine QK.take HK ?_ (by rfl) ?_ ?_
                        rotate_left
                        · (intro w hw; (try have hcs := hcells w hw); (try go_split_ands); go_simp <;> with_reducible rfl)
                        (try simp only [Act.put, qA, qB, qC])
                        refine QK.take HK ?_ (by rfl) ?_ ?_
                        rotate_left
                        · (intro w hw; (try have hcs := hcells w hw); (try go_split_ands); go_simp <;> with_reducible rfl)
                        (try simp only [Act.put, qA, qB, qC])
                        refine QK.take HK ?_ (by rfl) ?_ ?_
                        rotate_left
                        · (intro w hw; (try have hcs := hcells w hw); (try go_split_ands); go_simp <;> with_reducible rfl)
                        (try simp only [Act.put, qA, qB, qC])
                        refine QK.call HK 10 #[] (.bool true) hcl (by rfl) (fun w => by go_simp) CA ?_
                        (try simp only [Act.put, qA, qB, qC])
                        refine QK.take HK ?_ (by rfl) ?_ ?_
                        rotate_left
                        · (intro w hw; (try have hcs := hcells w hw); (try go_split_ands); go_simp <;> with_reducible rfl)
                        (try simp only [Act.put, qA, qB, qC])
                        refine QK.take HK ?_ (by rfl) ?_ ?_
                        rotate_left
                        · (intro w hw; (try have hcs := hcells w hw); (try go_split_ands); go_simp <;> with_reducible rfl)
                        (try simp only [Act.put, qA, qB, qC])
                        refine QK.nil HK ?_
                        clear HK K
                        intro wq hq
                        have hg9 := hgr wq hq
                        clear hcells hin hcl hgr hq
                        go_wp2
                        go_ret
                        exact ⟨rfl, HG.out.trans hg9⟩
                      · have y1 : (f1 == m1) = false := by simp [e1]
                        clear e1 hne
                        go_upto_region 38 with fail
                        obtain ⟨C, hin, hcl, hcells, hgr⟩ : ∃ C : World → Prop, (∀ w', W7.heap.size ≤ w'.heap.size ∧ IsGr W7 w' ∧ (w'.cell? ⟨gh, oh, none⟩ = some (.int .i64 f1) ∧ w'.cell? ⟨gh, oh + 1, none⟩ = some (.int .i64 f2)) ∧ (w'.cell? ⟨gh, oh + 2, none⟩ = some (.int .i64 m1) ∧ w'.cell? ⟨gh, oh + 2 + 1, none⟩ = some (.int .i64 m2)) → C w') ∧ (∀ u u', C u → IsGr u u' → C u') ∧ (∀ w', C w' → (w'.cell? ⟨gh, oh, none⟩ = some (.int .i64 f1) ∧ w'.cell? ⟨gh, oh + 1, none⟩ = some (.int .i64 f2)) ∧ (w'.cell? ⟨gh, oh + 2, none⟩ = some (.int .i64 m1) ∧ w'.cell? ⟨gh, oh + 2 + 1, none⟩ = some (.int .i64 m2))) ∧ (∀ w', C w' → IsGr W7 w') := by
                          refine ⟨fun w' => W7.heap.size ≤ w'.heap.size ∧ IsGr W7 w' ∧ (w'.cell? ⟨gh, oh, none⟩ = some (.int .i64 f1) ∧ w'.cell? ⟨gh, oh + 1, none⟩ = some (.int .i64 f2)) ∧ (w'.cell? ⟨gh, oh + 2, none⟩ = some (.int .i64 m1) ∧ w'.cell? ⟨gh, oh + 2 + 1, none⟩ = some (.int .i64 m2)), fun w' h => h, ?_, fun w' h => h.2.2, fun w' h => h.2.1⟩
                          rintro u u' ⟨h0, h1, h2⟩ hg
                          exact ⟨Nat.le_trans h0 hg.size, h1.trans hg, ⟨hg.cell_at (by omega) h2.1.1, hg.cell_at (by omega) h2.1.2⟩, ⟨hg.cell_at (by omega) h2.2.1, hg.cell_at (by omega) h2.2.2⟩⟩
                        refine wp_region_quietV C (by kernel_rfl) (by kernel_rfl) (hin _ ⟨by simp, (by with_reducible repeat (first | exact IsGr.refl _ | refine IsGr.gr ?_ _ _ | refine IsGr.alloc ?_ _ | refine IsGr.drew ?_ | refine IsGr.drewN ?_ _)), ⟨c0, c1⟩⟩) (fun K HK => ?_)
                        refine QK.take HK ?_ (by rfl) ?_ ?_
                        rotate_left
                        · (intro w hw; (try have hcs := hcells w hw); (try go_split_ands); go_simp <;> with_reducible rfl)
                        (try simp only [Act.put, qA, qB, qC])
                        refine QK.take HK ?_ (by rfl) ?_ ?_
                        rotate_left
                        · (intro w hw; (try have hcs := hcells w hw); (try go_split_ands); go_simp <;> with_reducible rfl)
                        (try simp only [Act.put, qA, qB, qC])
                        refine QK.take HK ?_ (by rfl) ?_ ?_
                        rotate_left
                        · (intro w hw; (try have hcs := hcells w hw); (try go_split_ands); go_simp <;> with_reducible rfl)
                        (try simp only [Act.put, qA, qB, qC])
                        refine QK.take HK ?_ (by rfl) ?_ ?_
                        rotate_left
                        · (intro w hw; (try have hcs := hcells w hw); (try go_split_ands); go_simp <;> with_reducible rfl)
                        (try simp only [Act.put, qA, qB, qC])
                        refine QK.take HK ?_ (by rfl) ?_ ?_
                        rotate_left
                        · (intro w hw; (try have hcs := hcells w hw); (try go_split_ands); go_simp <;> with_reducible rfl)
                        (try simp only [Act.put, qA, qB, qC])
                        refine QK.take HK ?_ (by rfl) ?_ ?_
                        rotate_left
                        · (intro w hw; (try have hcs := hcells w hw); (try go_split_ands); go_simp <;> with_reducible rfl)
                        (try simp only [Act.put, qA, qB, qC])
                        refine QK.take HK ?_ (by rfl) ?_ ?_
                        rotate_left
                        · (intro w hw; (try have hcs := hcells w hw); (try go_split_ands); go_simp <;> with_reducible rfl)
                        (try simp only [Act.put, qA, qB, qC])
                        refine QK.take HK ?_ (by rfl) ?_ ?_
                        rotate_left
                        · (intro w hw; (try have hcs := hcells w hw); (try go_split_ands); go_simp <;> with_reducible rfl)
                        (try simp only [Act.put, qA, qB, qC])
                        refine QK.take HK ?_ (by rfl) ?_ ?_
                        rotate_left
                        · (intro w hw; (try have hcs := hcells w hw); (try go_split_ands); go_simp <;> with_reducible rfl)
                        (try simp only [Act.put, qA, qB, qC])
                        refine QK.take HK ?_ (by rfl) ?_ ?_
                        rotate_left
                        · (intro w hw; (try have hcs := hcells w hw); (try go_split_ands); go_simp <;> with_reducible rfl)
                        (try simp only [Act.put, qA, qB, qC])
                        refine QK.take HK ?_ (by rfl) ?_ ?_
                        rotate_left
                        · (intro w hw; (try have hcs := hcells w hw); (try go_split_ands); go_simp <;> with_reducible rfl)
                        (try simp only [Act.put, qA, qB, qC])
                        refine QK.take HK ?_ (by rfl) ?_ ?_
                        rotate_left
                        · (intro w hw; (try have hcs := hcells w hw); (try go_split_ands); go_simp <;> with_reducible rfl)
                        (try simp only [Act.put, qA, qB, qC])
                        refine QK.take HK ?_ (by rfl) ?_ ?_
                        rotate_left
                        · (intro w hw; (try have hcs := hcells w hw); (try go_split_ands); go_simp <;> with_reducible rfl)
                        (try simp only [Act.put, qA, qB, qC])
                        refine QK.call HK 10 #[] (.bool true) hcl (by rfl) (fun w => by go_simp) CA ?_
                        (try simp only [Act.put, qA, qB, qC])
                        refine QK.take HK ?_ (by rfl) ?_ ?_
                        rotate_left
                        · (intro w hw; (try have hcs := hcells w hw); (try go_split_ands); go_simp <;> with_reducible rfl)
                        (try simp only [Act.put, qA, qB, qC])
                        refine QK.take HK ?_ (by rfl) ?_ ?_
                        rotate_left
                        · (intro w hw; (try have hcs := hcells w hw); (try go_split_ands); go_simp <;> with_reducible rfl)
                        (try simp only [Act.put, qA, qB, qC])
                        refine QK.nil HK ?_
                        clear HK K
                        intro wq hq
                        have hg9 := hgr wq hq
                        clear hcells hin hcl hgr hq
                        go_wp2
                        go_ret
                        exact ⟨rfl, HG.out.trans hg9⟩
                    · have y1 : ((j : Int) == 2) = false := by simp; omega
                      have y2 : ¬ (j : Int) = 2 := by omega
                      have y3 : ((j : Int) != 2) = true := by simp; omega
                      have y4 : (j == 2) = false := by simp [h2]
                      have y5 : (j != 2) = true := by simp [h2]
                      have y6 : decide (j = 2) = false := by simp [h2]
                      clear hH HH9 HRR HN
                      go_upto_region 38 with fail
                      obtain ⟨C, hin, hcl, hcells, hgr⟩ : ∃ C : World → Prop, (∀ w', IsGr W7 w' → C w') ∧ (∀ u u', C u → IsGr u u' → C u') ∧ (∀ w', C w' → True) ∧ (∀ w', C w' → IsGr W7 w') := ⟨fun w' => IsGr W7 w', fun _ h => h, fun _ _ h g => h.trans g, fun _ _ => trivial, fun _ h => h⟩
                      refine wp_region_quietV C (by kernel_rfl) (by kernel_rfl) (hin _ (by with_reducible repeat (first | exact IsGr.refl _ | refine IsGr.gr ?_ _ _ | refine IsGr.alloc ?_ _ | refine IsGr.drew ?_ | refine IsGr.drewN ?_ _))) (fun K HK => ?_)
                      refine QK.take HK ?_ (by rfl) ?_ ?_
                      rotate_left
                      · (intro w hw; (try have hcs := hcells w hw); (try go_split_ands); go_simp <;> with_reducible rfl)
                      (try simp only [Act.put, qA, qB, qC])
                      refine QK.take HK ?_ (by rfl) ?_ ?_
                      rotate_left
                      · (intro w hw; (try have hcs := hcells w hw); (try go_split_ands); go_simp <;> with_reducible rfl)
                      (try simp only [Act.put, qA, qB, qC])
                      refine QK.take HK ?_ (by rfl) ?_ ?_
                      rotate_left
                      · (intro w hw; (try have hcs := hcells w hw); (try go_split_ands); go_simp <;> with_reducible rfl)
                      (try simp only [Act.put, qA, qB, qC])
                      refine QK.take HK ?_ (by rfl) ?_ ?_
                      rotate_left
                      · (intro w hw; (try have hcs := hcells w hw); (try go_split_ands); go_simp <;> with_reducible rfl)
                      (try simp only [Act.put, qA, qB, qC])
                      refine QK.skip HK (by rfl) ?_
                      (try simp only [Act.put, qA, qB, qC])
                      refine QK.skip HK (by rfl) ?_
                      (try simp only [Act.put, qA, qB, qC])
                      refine QK.skip HK (by rfl) ?_
                      (try simp only [Act.put, qA, qB, qC])
                      refine QK.skip HK (by rfl) ?_
                      (try simp only [Act.put, qA, qB, qC])
                      refine QK.skip HK (by rfl) ?_
                      (try simp only [Act.put, qA, qB, qC])
                      refine QK.skip HK (by rfl) ?_
                      (try simp only [Act.put, qA, qB, qC])
                      refine QK.skip HK (by rfl) ?_
                      (try simp only [Act.put, qA, qB, qC])
                      refine QK.take HK ?_ (by rfl) ?_ ?_
                      rotate_left
                      · (intro w hw; (try have hcs := hcells w hw); (try go_split_ands); go_simp <;> with_reducible rfl)
                      (try simp only [Act.put, qA, qB, qC])
                      refine QK.take HK ?_ (by rfl) ?_ ?_
                      rotate_left
                      · (intro w hw; (try have hcs := hcells w hw); (try go_split_ands); go_simp <;> with_reducible rfl)
                      (try simp only [Act.put, qA, qB, qC])
                      refine QK.call HK 10 #[] (.bool true) hcl (by rfl) (fun w => by go_simp) CA ?_
                      (try simp only [Act.put, qA, qB, qC])
                      refine QK.take HK ?_ (by rfl) ?_ ?_
                      rotate_left
                      · (intro w hw; (try have hcs := hcells w hw); (try go_split_ands); go_simp <;> with_reducible rfl)
                      (try simp only [Act.put, qA, qB, qC])
                      refine QK.take HK ?_ (by rfl) ?_ ?_
                      rotate_left
                      · (intro w hw; (try have hcs := hcells w hw); (try go_split_ands); go_simp <;> with_reducible rfl)
                      (try simp only [Act.put, qA, qB, qC])
                      refine QK.nil HK ?_
                      clear HK K
                      intro wq hq
                      have hg9 := hgr wq hq
                      clear hcells hin hcl hgr hq
                      go_wp2
                      go_ret
                      exact ⟨rfl, HG.out.trans hg9⟩

end Go.Proofs.Ytohhlhoijanjfaa
