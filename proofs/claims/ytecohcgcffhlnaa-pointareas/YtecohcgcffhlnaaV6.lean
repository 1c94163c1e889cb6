/- gromalaw03.PointAreas: the loop that gathers the way back and the sum of the turns. -/
import Derived.Test.YtecohcgcffhlnaaU17
import Derived.Test.YtecohcgcffhlnaaU18
import Derived.Test.YtecohcgcffhlnaaU10
import Derived.Test.YtecohcgcffhlnaaH1
import Derived.Test.YtecohcgcffhlnaaH5
import Derived.Test.YtecohcgcffhlnaaG3
namespace Go.Proofs.Ytecohcgcffhlnaa
open Go.RowKit Go.Shelf
attribute [local go_sem] Gr.size Gr.cell? Gr.frozen? Gr.setCell Gr.drew Gr.drewN Gr.of_drew Gr.of_drewN Gr.gr Gr.lt_of1 Gr.le_of1 Gr.lt_of2 Gr.le_of2 Gr.lt_of3 Gr.le_of3 Gr.lt_of4 Gr.le_of4 Gr.lt_of5 Gr.le_of5 Gr.lt_of6 Gr.le_of6 Gr.lt_of7 Gr.le_of7 Gr.lt_of8 Gr.le_of8 Gr.lt_of9 Gr.le_of9 Gr.lt_of10 Gr.le_of10 Gr.lt_of11 Gr.le_of11 Gr.lt_of12 Gr.le_of12 Gr.lt_of13 Gr.le_of13 Gr.lt_of14 Gr.le_of14 Gr.lt_of15 Gr.le_of15 Gr.lt_of16 Gr.le_of16 Gr.lt_of17 Gr.le_of17 Gr.lt_of18 Gr.le_of18 Gr.lt_of19 Gr.le_of19 Gr.lt_of20 Gr.le_of20 Gr.lt_of21 Gr.le_of21 Gr.lt_of22 Gr.le_of22 Gr.lt_of23 Gr.le_of23 Gr.lt_of24 Gr.le_of24

theorem info_pt : (Try.prog.info? 50).map (fun i => (i.zero, i.size, i.bytes)) = some (some (.agg #[.int .i64 0, .int .i64 0]), 2, 16) := by kernel_rfl
theorem Pts.kb {W W' : World} {v : Value} {l : List (Int × Int)} (h : Pts W v l) (hk : Kb W W') : Pts W' v l := by
  obtain ⟨a, c, h1, h2, h3, h4⟩ := h
  refine ⟨a, c, h1, h2, h3, ?_⟩
  rcases h4 with h4 | ⟨g, o, rfl, h5, h6⟩
  · exact Or.inl h4
  · exact Or.inr ⟨g, o, rfl, Nat.lt_of_lt_of_le h5 hk.1, fun i hi => ⟨hk.2 _ _ _ (h6 i hi).1, hk.2 _ _ _ (h6 i hi).2⟩⟩
/-- The turn that f sees, if all three are right. -/
def seenT (f1 f2 x y u v : Int) : Int := if right3 f1 f2 x y u v = true then turnI f1 f2 x y u v else 0
/-- The sum of the turns that f sees, as far as they are right. -/
def sumK (f1 f2 : Int) (l : List (Int × Int)) : Nat → Int
  | 0 => 0
  | k + 1 => sumK f1 f2 l k + seenT f1 f2 (l.getD k (0, 0)).1 (l.getD k (0, 0)).2 (nextP l k).1 (nextP l k).2
theorem seenT_bound (f1 f2 x y u v : Int) : -38685626227668133590597632 ≤ seenT f1 f2 x y u v ∧ seenT f1 f2 x y u v ≤ 38685626227668133590597632 := by
  unfold seenT
  split
  · rename_i h
    obtain ⟨h1, h2, h3⟩ := right3_t h
    exact turn_bound h1 h2 h3
  · omega
theorem sumK_bound (f1 f2 : Int) (l : List (Int × Int)) : ∀ k, -(38685626227668133590597632 * k) ≤ sumK f1 f2 l k ∧ sumK f1 f2 l k ≤ 38685626227668133590597632 * k
  | 0 => by simp [sumK]
  | k + 1 => by
    have h1 := sumK_bound f1 f2 l k
    have h2 := seenT_bound f1 f2 (l.getD k (0, 0)).1 (l.getD k (0, 0)).2 (nextP l k).1 (nextP l k).2
    unfold sumK
    omega
theorem sumK_seen {f1 f2 : Int} {l : List (Int × Int)} (hf : rightP f1 f2 = true) (h : allR l = true) : ∀ k, sumK f1 f2 l k = seenK f1 f2 l k
  | 0 => rfl
  | k + 1 => by
    unfold sumK seenK
    rw [sumK_seen hf h k]
    unfold seenT
    rw [if_pos]
    simp only [right3, Bool.and_eq_true]
    exact ⟨⟨hf, allR_get h k⟩, allR_get h _⟩
theorem take_getD {l : List (Int × Int)} {k : Nat} (h : k < l.length) : l.take (k + 1) = l.take k ++ [l.getD k (0, 0)] := by
  rw [List.take_succ_eq_append_getElem h]
  simp [List.getD, h]
theorem allR_take {l : List (Int × Int)} {k : Nat} (h : k < l.length) : allR (l.take (k + 1)) = (allR (l.take k) && rightP (l.getD k (0, 0)).1 (l.getD k (0, 0)).2) := by
  rw [take_getD h]; unfold allR; simp
theorem back_take {l : List (Int × Int)} {k : Nat} (h : k < l.length) : (l.take (k + 1)).reverse = l.getD k (0, 0) :: (l.take k).reverse := by
  rw [take_getD h]; simp


set_option maxRecDepth 20000 in set_option maxHeartbeats 4000000 in
theorem law_areas_few (a : Option Addr) (n c : Nat) (l : List (Int × Int)) (f1 f2 : Int) (w : World) (h : Pts w (.slice a n c) l) (hn : n ≤ 60) :
    Calls Try.prog 7 #[.slice a n c, .agg #[.int .i64 f1, .int .i64 f2]] w fun e w' => e = .returned (.bool true) ∧ IsGr w w' := by
  obtain ⟨i0, hi, hz0, hz1, hz2⟩ := info_parts info_pt
  have HP : Hid (Pts w (.slice a n c) l) := h
  have HL : Hid (n = l.length) := h.len
  have Hn : Hid (n ≤ 60) := hn
  have hn' : (n : Int) ≤ 60 := by omega
  have CA := fun w => awake3_any w
  have CRf := fun w => PRight_any f1 f2 w
  clear h hn
  go_enter Try.func7, Try.ntmps7
  go_upto_region 4 with fail
  go_cut [6] (fun t6 wr => ∃ (h : Nat), t6 = .pointer (some ⟨h, 0, none⟩) ∧ w.heap.size < h ∧ h < wr.heap.size ∧ (wr.cell? ⟨h, 0, none⟩ = some (.bool false) ∧ wr.cell? ⟨h, 1, none⟩ = some (.slice none 0 0)) ∧ (wr.frozen? ⟨h, 0, none⟩ = false ∧ wr.frozen? ⟨h, 1, none⟩ = false) ∧ (wr.cell? ⟨w.heap.size, 0, none⟩ = some (.int .i64 f1) ∧ wr.cell? ⟨w.heap.size, 1, none⟩ = some (.int .i64 f2)) ∧ Below w.heap.size w wr)
  case first =>
    go_wp2
    go_meet
    case rel =>
      refine ⟨_, rfl, ?_, ?_, ?_, ?_, ?_, IsGr.below (w := w) (by with_reducible repeat (first | exact IsGr.refl _ | refine IsGr.gr ?_ _ _ | refine IsGr.alloc ?_ _ | refine IsGr.drew ?_ | refine IsGr.drewN ?_ _))⟩
      · first | omega | (simp; done) | (simp [Gr.size]; done) | (simp [Gr.size]; omega)
      · first | omega | (simp; done) | (simp [Gr.size]; done) | (simp [Gr.size]; omega)
      all_goals simp [go_sem]
  case rest =>
    obtain ⟨h, rfl, k0, kh, ⟨z0, z1⟩, ⟨d0, d1⟩, ⟨f1', f2'⟩, hbe⟩ := hcut
    obtain ⟨W1, hW9⟩ : ∃ W1, W1 = wc := ⟨_, rfl⟩
    subst hW9
    have HB : Hid (Below w.heap.size w W1) := hbe
    have N4 : Hid (w.heap.size < h ∧ h < W1.heap.size) := ⟨k0, kh⟩
    clear hbe kh
    go_wp2
    go_loopw [5, 7, 21] (fun t5 t7 t21 wr => ∃ (k : Nat) (ss : Bool) (sa : Option Addr) (sn sc : Nat), k ≤ n ∧ t21 = .int .i64 k ∧ t5 = .bool (allR (l.take k)) ∧ ((k = 0 ∧ t7 = .slice none 0 0) ∨ (0 < k ∧ Pts wr t7 (l.take k).reverse)) ∧ IsBig wr (.agg #[.bool ss, .slice sa sn sc]) (sumK f1 f2 l k) ∧ (wr.cell? ⟨h, 0, none⟩ = some (.bool ss) ∧ wr.cell? ⟨h, 1, none⟩ = some (.slice sa sn sc)) ∧ (wr.frozen? ⟨h, 0, none⟩ = false ∧ wr.frozen? ⟨h, 1, none⟩ = false) ∧ (wr.cell? ⟨w.heap.size, 0, none⟩ = some (.int .i64 f1) ∧ wr.cell? ⟨w.heap.size, 1, none⟩ = some (.int .i64 f2)) ∧ Hid (h < wr.heap.size ∧ Below w.heap.size w wr)) (fun _ _ t21 _ => (n - intOf t21).toNat)
    case atStart => exact ⟨0, false, none, 0, 0, by omega, rfl, rfl, Or.inl ⟨rfl, rfl⟩, IsBig.zero _, ⟨z0, z1⟩, ⟨d0, d1⟩, ⟨f1', f2'⟩, ⟨N4.out.2, HB.out⟩⟩
    case round =>
      clear z0 z1 d0 d1 f1' f2' HB
      obtain ⟨k, ss, sa, sn, sc, hk, rfl, rfl, hT, hs, ⟨z0, z1⟩, ⟨d0, d1⟩, ⟨f1', f2'⟩, HW⟩ := hrel
      obtain ⟨W2, hW2⟩ : ∃ W2, W2 = wr := ⟨_, rfl⟩
      subst hW2
      have kh : h < W2.heap.size := HW.out.1
      have ka : w.heap.size < W2.heap.size := by omega
      have HB : Hid (Below w.heap.size w W2) := HW.out.2
      clear HW
      by_cases hkn : k < n
      · have hkl : k < l.length := by have := HL.out; omega
        have hP := HP.out.gr (IsGr.of_below HB.out)
        obtain ⟨g9, o9, rfl, hgs, hc⟩ := hP.at hkn
        obtain ⟨c1, c2⟩ := hc k hkn
        have hj : (k + 1) % n < n := Nat.mod_lt _ (by omega)
        obtain ⟨e1, e2⟩ := hc _ hj
        have e0 : l.getD ((k + 1) % n) (0, 0) = nextP l k := by rw [HL.out]; rfl
        rw [e0] at e1 e2
        have hkn' : (k : Int) < n := by omega
        have v1 : IntKind.i64.wrap ((k : Int) + 1) = (k : Int) + 1 := by rw [IntKind.wrap_i64]; omega
        have v2 : ((k : Int) + 1).tmod (n : Int) = (((k + 1) % n : Nat) : Int) := by
          rw [Int.tmod_eq_emod_of_nonneg (by omega)]; simp
        have n0 : ¬ n = 0 := by omega
        have hjn : (((k + 1) % n : Nat) : Int) < n := by omega
        have HA := allR_take hkl
        have HT := back_take hkl
        have HS : sumK f1 f2 l (k + 1) = sumK f1 f2 l k + seenT f1 f2 (l.getD k (0, 0)).1 (l.getD k (0, 0)).2 (nextP l k).1 (nextP l k).2 := rfl
        have HSB := sumK_bound f1 f2 l k
        have hpair : l.getD k (0, 0) = ((l.getD k (0, 0)).1, (l.getD k (0, 0)).2) := rfl
        rw [hpair] at HT
        clear hc hP e0 hpair
        generalize hx : (l.getD k (0, 0)).1 = x at *
        generalize hy : (l.getD k (0, 0)).2 = y at *
        generalize hu : (nextP l k).1 = u at *
        generalize hv : (nextP l k).2 = v at *
        generalize hA0 : allR (l.take k) = R0 at *
        have CRp := fun w => PRight_any x y w
        have CRn := fun w => PRight_any u v w
        have Ff := fun w => pref_any f1 f2 w
        have Fp := fun w => pref_any x y w
        have Fn := fun w => pref_any u v w
        have HQ : Hid (∀ rf rp rn : Bool, rightP f1 f2 = rf → rightP x y = rp → rightP u v = rn → seenT f1 f2 x y u v = if (rf && rp && rn) = true then turnI f1 f2 x y u v else 0) := by
          rintro rf rp rn rfl rfl rfl; rfl
        have HN : Hid (∀ w, rightP f1 f2 = true → rightP x y = true → rightP u v = true → Calls Try.prog 36 #[.agg #[.int .i64 f1, .int .i64 f2], .agg #[.int .i64 x, .int .i64 y], .agg #[.int .i64 u, .int .i64 v]] w fun e w' => ∃ z, e = .returned z ∧ IsBig w' z (turnI f1 f2 x y u v) ∧ IsGr w w') := fun w h1 h2 h3 => RefTurn_any f1 f2 x y u v h1 h2 h3 w
        have HB9 : Hid (rightP f1 f2 = true → rightP x y = true → rightP u v = true → -38685626227668133590597632 ≤ turnI f1 f2 x y u v ∧ turnI f1 f2 x y u v ≤ 38685626227668133590597632) := fun h1 h2 h3 => turn_bound h1 h2 h3
        generalize hrf : rightP f1 f2 = rf at CRf
        generalize hrp : rightP x y = rp at CRp HA
        generalize hrn : rightP u v = rn at CRn
        replace HQ : Hid _ := HQ.out rf rp rn hrf hrp hrn
        rw [hrf, hrp, hrn] at HN HB9
        have HSB' : Hid (-(38685626227668133590597632 * (k : Int)) ≤ sumK f1 f2 l k ∧ sumK f1 f2 l k ≤ 38685626227668133590597632 * k) := HSB
        have HA' : Hid (allR (l.take (k + 1)) = (R0 && rp)) := HA
        have HT' : Hid ((l.take (k + 1)).reverse = (x, y) :: (l.take k).reverse) := HT
        have HS' : Hid (sumK f1 f2 l (k + 1) = sumK f1 f2 l k + seenT f1 f2 x y u v) := HS
        have HK : Hid ((l.take k).length = k) := by unfold Hid; rw [List.length_take]; omega
        generalize sumK f1 f2 l k = S0 at hs HSB' HS'
        clear hrf hrp hrn HA HT HS HSB hx hy hu hv hA0
        generalize hj9 : (k + 1) % n = j at *
        clear hj9
        go_upto_region 9 with fail
        go_cut [5, 21] from 21 to 68 (fun t5 t21 wx => t5 = .bool (R0 && rp) ∧ t21 = .int .i64 k ∧ (wx.cell? ⟨W2.heap.size, 0, none⟩ = some (.int .i64 x) ∧ wx.cell? ⟨W2.heap.size, 1, none⟩ = some (.int .i64 y)) ∧ W2.heap.size < wx.heap.size ∧ IsGr W2 wx)
        case first =>
          cases R0
          · go_wp2
            go_meet
            case rel =>
              refine ⟨rfl, rfl, ?_, ?_, (by with_reducible repeat (first | exact IsGr.refl _ | refine IsGr.gr ?_ _ _ | refine IsGr.alloc ?_ _ | refine IsGr.drew ?_ | refine IsGr.drewN ?_ _))⟩
              · simp [go_sem]
              · first | omega | (simp; done) | (simp [Gr.size]; done) | (simp [Gr.size]; omega)
          · go_wp2_with fail
            refine (CRp _).mono ?_
            rintro e w1 ⟨rfl, os1, m1, rfl⟩
            go_wp2
            go_meet
            case rel =>
              refine ⟨rfl, rfl, ?_, ?_, (by with_reducible repeat (first | exact IsGr.refl _ | refine IsGr.gr ?_ _ _ | refine IsGr.alloc ?_ _ | refine IsGr.drew ?_ | refine IsGr.drewN ?_ _))⟩
              · simp [go_sem]
              · first | omega | (simp; done) | (simp [Gr.size]; done) | (simp [Gr.size]; omega)
        case rest =>
          obtain ⟨rfl, rfl, ⟨p1', p2'⟩, kp, hgr⟩ := hcut
          obtain ⟨W3, hW9⟩ : ∃ W3, W3 = wc := ⟨_, rfl⟩
          subst hW9
          have kP : w.heap.size < W2.heap.size := ka
          have kq : h < W2.heap.size := kh
          have nq : ¬ h = W2.heap.size := by omega
          have hT2 : (k = 0 ∧ u7 = .slice none 0 0) ∨ (0 < k ∧ Pts W3 u7 (l.take k).reverse) := hT.imp id (fun x => ⟨x.1, x.2.gr hgr⟩)
          replace e1 := hgr.cell_at hgs e1
          replace e2 := hgr.cell_at hgs e2
          replace hgs : g9 < W3.heap.size := Nat.lt_of_lt_of_le hgs hgr.size
          clear hT c1 c2
          replace z0 := hgr.cell_at kh z0
          replace z1 := hgr.cell_at kh z1
          replace f1' := hgr.cell_at ka f1'
          replace f2' := hgr.cell_at ka f2'
          replace d0 := hgr.frozen_at kh d0
          replace d1 := hgr.frozen_at kh d1
          replace hs := hs.gr hgr
          replace HB : Hid (Below w.heap.size w W3) := HB.out.trans (hgr.below.mono HB.out.size)
          have hsz := hgr.size
          replace kh : h < W3.heap.size := by omega
          replace ka : w.heap.size < W3.heap.size := by omega
          clear hsz
          clear hgr
          go_upto_region 10 with fail
          go_cut [7, 21] from 21 to 68 (fun t7 t21 wx => t21 = .int .i64 k ∧ Pts wx t7 ((x, y) :: (l.take k).reverse) ∧ IsGr W3 wx)
          case first =>
            rcases hT2 with ⟨rfl, rfl⟩ | ⟨hk0, hT3⟩
            · go_wp2_with (first | (at_builtin; refine wpList_append_own_none rfl _ _ 60 rfl W3.heap.size 50 i0 2 Try.underlying60 hi _ _ _ rfl (own_fresh W3 _ _ _ _ (Nat.le_refl _)) rfl ?_) | go_in)
              go_wp2
              go_meet
              case rel => exact ⟨rfl, (Pts.of_own (l := [(x, y)]) (own_fresh W3 W3.heap.size 50 x y (Nat.le_refl _))).2.gr (by with_reducible repeat (first | exact IsGr.refl _ | refine IsGr.gr ?_ _ _ | refine IsGr.alloc ?_ _ | refine IsGr.drew ?_ | refine IsGr.drewN ?_ _)), (by with_reducible repeat (first | exact IsGr.refl _ | refine IsGr.gr ?_ _ _ | refine IsGr.alloc ?_ _ | refine IsGr.drew ?_ | refine IsGr.drewN ?_ _))⟩
            · obtain ⟨bs, hbs⟩ : ∃ bs, bs = (l.take k).reverse := ⟨_, rfl⟩
              have hbl : bs.length = k := by rw [hbs, List.length_reverse]; exact HK.out
              have HM : Hid ((x, y) :: bs = (x, y) :: (l.take k).reverse) := by unfold Hid; rw [hbs]
              rw [← hbs] at hT3
              clear hbs
              obtain ⟨aa, cc, e7, hle, hmx, hor⟩ := id hT3
              subst e7
              rcases hor with hnil | ⟨g, o, rfl, hg7, _⟩
              · rw [hnil] at hbl; simp at hbl; omega
              have hn9 := Hn.out
              have hm9 : bs.length ≤ 60 := by omega
              have HT4 : Hid (Pts W3 (.slice (some ⟨g, o, none⟩) bs.length cc) bs) := hT3
              clear hT3 hbl hle hmx hn9 hk0
              generalize hm : bs.length = m at *
              go_wp2_with (first | (at_builtin; refine wpList_append_own _ rfl _ _ 60 rfl W3.heap.size 50 i0 (.agg #[.int .i64 0, .int .i64 0]) 2 16 Try.underlying60 hi hz0 hz1 hz2 rfl (by decide) _ _ _ rfl (own_fresh W3 _ _ _ _ (Nat.le_refl _)) ⟨g, o, none⟩ m cc (ptCs bs) rfl ?c0 ?c1 ?c2 ?c3 ?c4 ?c5 ?_) | go_in)
              case c0 => rw [ptCs_length, hm]
              case c1 => exact (HT4.out.gr ((IsGr.refl _).alloc _)).news
              case c2 => exact ptCs_one bs
              case c3 => unfold maxLen; omega
              case c4 => omega
              case c5 => simp
              intro v' w1 hown' hgrow _
              have hP1 : Pts w1 v' ((x, y) :: (l.take k).reverse) := by rw [← HM.out]; exact (Pts.of_own (l := (x, y) :: bs) hown').2
              have hB1 : IsGr W3 w1 := IsGr.of_below ((Below.alloc (Below.refl _ _) (Nat.le_refl _) _).trans (below_grown hgrow (by simp) (fun k9 e9 => by simp [Value.ownBlock] at e9; omega)))
              clear hown' hgrow HM HT4
              go_wp2
              go_meet
              case rel => exact ⟨rfl, hP1, hB1⟩
          case rest =>
            obtain ⟨rfl, hT3, hgr⟩ := hcut
            obtain ⟨W4, hW9⟩ : ∃ W4, W4 = wc := ⟨_, rfl⟩
            subst hW9
            replace e1 := hgr.cell_at hgs e1
            replace e2 := hgr.cell_at hgs e2
            replace hgs : g9 < W4.heap.size := Nat.lt_of_lt_of_le hgs hgr.size
            replace p1' := hgr.cell_at kp p1'
            replace p2' := hgr.cell_at kp p2'
            replace kp : W2.heap.size < W4.heap.size := Nat.lt_of_lt_of_le kp hgr.size
            replace z0 := hgr.cell_at kh z0
            replace z1 := hgr.cell_at kh z1
            replace f1' := hgr.cell_at ka f1'
            replace f2' := hgr.cell_at ka f2'
            replace d0 := hgr.frozen_at kh d0
            replace d1 := hgr.frozen_at kh d1
            replace hs := hs.gr hgr
            replace HB : Hid (Below w.heap.size w W4) := HB.out.trans (hgr.below.mono HB.out.size)
            have hsz := hgr.size
            replace kh : h < W4.heap.size := by omega
            replace ka : w.heap.size < W4.heap.size := by omega
            clear hsz
            clear hgr hT2 hi hz0 hz1 hz2
            cases rf
            · go_wp2_with fail
              refine (CRf _).mono ?_
              rintro e w1 ⟨rfl, os1, m1, rfl⟩
              have HS1 : sumK f1 f2 l (k + 1) = S0 := by rw [HS'.out, HQ.out]; simp
              clear HQ HN HB9 HSB' HS'
              go_wp2
              have hbe := HB.out
              have hn9 := Hn.out
              go_roundw
              case rel =>
                refine ⟨k + 1, ss, sa, sn, sc, by omega, by go_num, by rw [HA'.out]; first | done | simp, Or.inr ⟨by omega, by rw [HT'.out]; exact hT3.gr (by with_reducible repeat (first | exact IsGr.refl _ | refine IsGr.gr ?_ _ _ | refine IsGr.alloc ?_ _ | refine IsGr.drew ?_ | refine IsGr.drewN ?_ _))⟩, by rw [HS1]; exact hs.gr (by with_reducible repeat (first | exact IsGr.refl _ | refine IsGr.gr ?_ _ _ | refine IsGr.alloc ?_ _ | refine IsGr.drew ?_ | refine IsGr.drewN ?_ _)), ?_, ?_, ?_, ⟨?_, (by repeat (first | exact Below.refl _ _ | exact (by assumption) | refine Below.drew ?_ | refine Below.gro ?_ (by first | omega | (simp; done) | (simp; omega) | (simp [Gr.size]; omega)) _ _ | refine Below.alloc ?_ (by first | omega | (simp; done) | (simp; omega) | (simp [Gr.size]; omega)) _ | refine Below.setCell ?_ (by first | omega | (simp; done) | (simp; omega) | (simp [Gr.size]; omega)) _))⟩⟩
                · simp [go_sem, z0, z1, kh]
                · simp [go_sem, d0, d1, kh]
                · simp [go_sem, f1', f2', ka]
                · simp [Gr.size]; omega
              case measure => simp [intOf]; omega
            · cases rp
              · go_wp2_with fail
                refine (CRf _).mono ?_
                rintro e w1 ⟨rfl, os1, m1, rfl⟩
                go_wp2_with fail
                refine (CRp _).mono ?_
                rintro e w1 ⟨rfl, os2, m2, rfl⟩
                have HS1 : sumK f1 f2 l (k + 1) = S0 := by rw [HS'.out, HQ.out]; simp
                clear HQ HN HB9 HSB' HS'
                go_wp2
                have hbe := HB.out
                have hn9 := Hn.out
                go_roundw
                case rel =>
                  refine ⟨k + 1, ss, sa, sn, sc, by omega, by go_num, by rw [HA'.out]; first | done | simp, Or.inr ⟨by omega, by rw [HT'.out]; exact hT3.gr (by with_reducible repeat (first | exact IsGr.refl _ | refine IsGr.gr ?_ _ _ | refine IsGr.alloc ?_ _ | refine IsGr.drew ?_ | refine IsGr.drewN ?_ _))⟩, by rw [HS1]; exact hs.gr (by with_reducible repeat (first | exact IsGr.refl _ | refine IsGr.gr ?_ _ _ | refine IsGr.alloc ?_ _ | refine IsGr.drew ?_ | refine IsGr.drewN ?_ _)), ?_, ?_, ?_, ⟨?_, (by repeat (first | exact Below.refl _ _ | exact (by assumption) | refine Below.drew ?_ | refine Below.gro ?_ (by first | omega | (simp; done) | (simp; omega) | (simp [Gr.size]; omega)) _ _ | refine Below.alloc ?_ (by first | omega | (simp; done) | (simp; omega) | (simp [Gr.size]; omega)) _ | refine Below.setCell ?_ (by first | omega | (simp; done) | (simp; omega) | (simp [Gr.size]; omega)) _))⟩⟩
                  · simp [go_sem, z0, z1, kh]
                  · simp [go_sem, d0, d1, kh]
                  · simp [go_sem, f1', f2', ka]
                  · simp [Gr.size]; omega
                case measure => simp [intOf]; omega
              · cases rn
                · go_wp2_with fail
                  refine (CRf _).mono ?_
                  rintro e w1 ⟨rfl, os1, m1, rfl⟩
                  go_wp2_with fail
                  refine (CRp _).mono ?_
                  rintro e w1 ⟨rfl, os2, m2, rfl⟩
                  go_wp2_with fail
                  refine (CRn _).mono ?_
                  rintro e w1 ⟨rfl, os3, m3, rfl⟩
                  have HS1 : sumK f1 f2 l (k + 1) = S0 := by rw [HS'.out, HQ.out]; simp
                  clear HQ HN HB9 HSB' HS'
                  go_wp2
                  have hbe := HB.out
                  have hn9 := Hn.out
                  go_roundw
                  case rel =>
                    refine ⟨k + 1, ss, sa, sn, sc, by omega, by go_num, by rw [HA'.out]; first | done | simp, Or.inr ⟨by omega, by rw [HT'.out]; exact hT3.gr (by with_reducible repeat (first | exact IsGr.refl _ | refine IsGr.gr ?_ _ _ | refine IsGr.alloc ?_ _ | refine IsGr.drew ?_ | refine IsGr.drewN ?_ _))⟩, by rw [HS1]; exact hs.gr (by with_reducible repeat (first | exact IsGr.refl _ | refine IsGr.gr ?_ _ _ | refine IsGr.alloc ?_ _ | refine IsGr.drew ?_ | refine IsGr.drewN ?_ _)), ?_, ?_, ?_, ⟨?_, (by repeat (first | exact Below.refl _ _ | exact (by assumption) | refine Below.drew ?_ | refine Below.gro ?_ (by first | omega | (simp; done) | (simp; omega) | (simp [Gr.size]; omega)) _ _ | refine Below.alloc ?_ (by first | omega | (simp; done) | (simp; omega) | (simp [Gr.size]; omega)) _ | refine Below.setCell ?_ (by first | omega | (simp; done) | (simp; omega) | (simp [Gr.size]; omega)) _))⟩⟩
                    · simp [go_sem, z0, z1, kh]
                    · simp [go_sem, d0, d1, kh]
                    · simp [go_sem, f1', f2', ka]
                    · simp [Gr.size]; omega
                  case measure => simp [intOf]; omega
                · have CN := fun w => HN.out w rfl rfl rfl
                  have HQ' : Hid (seenT f1 f2 x y u v = turnI f1 f2 x y u v) := HQ.out
                  have hb9 := HB9.out rfl rfl rfl
                  have AD : ∀ u1 v1 w1, IsBig w1 u1 S0 → IsBig w1 v1 (turnI f1 f2 x y u v) → Calls Try.prog 24 #[u1, v1] w1 fun e w' => ∃ z, e = .returned z ∧ IsBig w' z (sumK f1 f2 l (k + 1)) ∧ IsGr w1 w' := fun u1 v1 w1 hu hv => by
                    rw [HS'.out, HQ'.out]
                    exact BigAdd_any u1 v1 _ _ w1 hu hv (by have := HSB'.out; have := Hn.out; unfold Sm; omega) (by unfold Sm; omega)
                  clear HQ HN HB9 hb9 HQ' HSB' HS'
                  obtain ⟨S1, HS1⟩ : ∃ S, Hid (S = sumK f1 f2 l (k + 1)) := ⟨_, rfl⟩
                  rw [← HS1.out] at AD
                  generalize turnI f1 f2 x y u v = T at *
                  go_wp2_with fail
                  refine (CRf _).mono ?_
                  rintro e w1 ⟨rfl, os1, m1, rfl⟩
                  go_wp2_with fail
                  refine (CRp _).mono ?_
                  rintro e w1 ⟨rfl, os2, m2, rfl⟩
                  go_wp2_with fail
                  refine (CRn _).mono ?_
                  rintro e w1 ⟨rfl, os3, m3, rfl⟩
                  go_upto_region 12 with fail
                  refine wp_region_but (S := (fun w' => (w'.cell? ⟨h, 0, none⟩ = some (.bool ss) ∧ w'.cell? ⟨h, 1, none⟩ = some (.slice sa sn sc)) ∧ (w'.cell? ⟨w.heap.size, 0, none⟩ = some (.int .i64 f1) ∧ w'.cell? ⟨w.heap.size, 1, none⟩ = some (.int .i64 f2)) ∧ (w'.cell? ⟨W2.heap.size, 0, none⟩ = some (.int .i64 x) ∧ w'.cell? ⟨W2.heap.size, 1, none⟩ = some (.int .i64 y)) ∧ (w'.cell? ⟨g9, o9 + j * 2, none⟩ = some (.int .i64 u) ∧ w'.cell? ⟨g9, o9 + j * 2 + 1, none⟩ = some (.int .i64 v)))) (k := 16) (n := 16) (by kernel_rfl) (by kernel_rfl) (by (try dsimp only); simp [go_sem, z0, z1, kh, f1', f2', ka, p1', p2', kp, e1, e2, hgs]) (fun hHeld => ?_)
                  refine wpAnyH_take (i := 0) (oi := { dst := some 52, op := Op.load 31 (Operand.tmp 6), type := 31, pos := "law.go:67", after := #[], guard := none }) (v := ?_) rfl (by kernel_rfl) (by kernel_rfl) (by kernel_rfl) (fun _ _ _ h => h) (Or.inl ⟨by rfl, ?_⟩) (by assumption) ?_
                  rotate_left
                  · (intro w hSw; (try dsimp only at hSw); go_simp <;> with_reducible rfl)
                  (try simp only [Act.put, List.setIfInBounds_toArray, List.set_cons_zero, List.set_cons_succ])
                  refine wpAnyH_take (i := 1) (oi := { dst := some 53, op := Op.load 50 (Operand.tmp 3), type := 50, pos := "law.go:67", after := #[], guard := none }) (v := ?_) rfl (by kernel_rfl) (by kernel_rfl) (by kernel_rfl) (fun _ _ _ h => h) (Or.inl ⟨by rfl, ?_⟩) (by assumption) ?_
                  rotate_left
                  · (intro w hSw; (try dsimp only at hSw); go_simp <;> with_reducible rfl)
                  (try simp only [Act.put, List.setIfInBounds_toArray, List.set_cons_zero, List.set_cons_succ])
                  refine wpAnyH_take (i := 3) (oi := { dst := some 55, op := Op.load 50 (Operand.tmp 9), type := 50, pos := "law.go:67", after := #[], guard := none }) (v := ?_) rfl (by kernel_rfl) (by kernel_rfl) (by kernel_rfl) (fun _ _ _ h => h) (Or.inl ⟨by rfl, ?_⟩) (by assumption) ?_
                  rotate_left
                  · (intro w hSw; (try dsimp only at hSw); go_simp <;> with_reducible rfl)
                  (try simp only [Act.put, List.setIfInBounds_toArray, List.set_cons_zero, List.set_cons_succ])
                  refine wpAnyH_take (i := 5) (oi := { dst := some 57, op := Op.move (Operand.tmp 0), type := 60, pos := "law.go:67", after := #[], guard := none }) (v := ?_) rfl (by kernel_rfl) (by kernel_rfl) (by kernel_rfl) (fun _ _ _ h => h) (Or.inl ⟨by rfl, ?_⟩) (by assumption) ?_
                  rotate_left
                  · (intro w hSw; (try dsimp only at hSw); go_simp <;> with_reducible rfl)
                  (try simp only [Act.put, List.setIfInBounds_toArray, List.set_cons_zero, List.set_cons_succ])
                  refine wpAnyH_take (i := 6) (oi := { dst := some 58, op := Op.move (Operand.tmp 8), type := 3, pos := "law.go:67", after := #[], guard := none }) (v := ?_) rfl (by kernel_rfl) (by kernel_rfl) (by kernel_rfl) (fun _ _ _ h => h) (Or.inl ⟨by rfl, ?_⟩) (by assumption) ?_
                  rotate_left
                  · (intro w hSw; (try dsimp only at hSw); go_simp <;> with_reducible rfl)
                  (try simp only [Act.put, List.setIfInBounds_toArray, List.set_cons_zero, List.set_cons_succ])
                  refine wpAnyH_take (i := 7) (oi := { dst := some 59, op := Op.binOp BinOp.add 3 (Operand.tmp 58) (Operand.const (Value.int IntKind.i64 1)) 3, type := 3, pos := "law.go:67", after := #[{ on := 6, ground := Ground.data }], guard := none }) (v := ?_) rfl (by kernel_rfl) (by kernel_rfl) (by kernel_rfl) (fun _ _ _ h => h) (Or.inl ⟨by rfl, ?_⟩) (by assumption) ?_
                  rotate_left
                  · (intro w hSw; (try dsimp only at hSw); go_simp <;> with_reducible rfl)
                  (try simp only [Act.put, List.setIfInBounds_toArray, List.set_cons_zero, List.set_cons_succ])
                  refine wpAnyH_take (i := 8) (oi := { dst := some 60, op := Op.move (Operand.tmp 0), type := 60, pos := "law.go:67", after := #[], guard := none }) (v := ?_) rfl (by kernel_rfl) (by kernel_rfl) (by kernel_rfl) (fun _ _ _ h => h) (Or.inl ⟨by rfl, ?_⟩) (by assumption) ?_
                  rotate_left
                  · (intro w hSw; (try dsimp only at hSw); go_simp <;> with_reducible rfl)
                  (try simp only [Act.put, List.setIfInBounds_toArray, List.set_cons_zero, List.set_cons_succ])
                  refine wpAnyH_take (i := 9) (oi := { dst := some 61, op := Op.call { callee := Callee.builtin Builtin.len, args := #[Operand.tmp 60], argTypes := #[60] }, type := 3, pos := "law.go:67", after := #[{ on := 8, ground := Ground.data }], guard := none }) (v := ?_) rfl (by kernel_rfl) (by kernel_rfl) (by kernel_rfl) (fun _ _ _ h => h) (Or.inl ⟨by rfl, ?_⟩) (by assumption) ?_
                  rotate_left
                  · (intro w hSw; (try dsimp only at hSw); go_simp <;> with_reducible rfl)
                  (try simp only [Act.put, List.setIfInBounds_toArray, List.set_cons_zero, List.set_cons_succ])
                  refine wpAnyH_take (i := 10) (oi := { dst := some 62, op := Op.binOp BinOp.rem 3 (Operand.tmp 59) (Operand.tmp 61) 3, type := 3, pos := "law.go:67", after := #[{ on := 7, ground := Ground.data }, { on := 9, ground := Ground.data }], guard := none }) (v := ?_) rfl (by kernel_rfl) (by kernel_rfl) (by kernel_rfl) (fun _ _ _ h => h) (Or.inl ⟨by rfl, ?_⟩) (by assumption) ?_
                  rotate_left
                  · (intro w hSw; (try dsimp only at hSw); go_simp <;> with_reducible rfl)
                  (try simp only [Act.put, List.setIfInBounds_toArray, List.set_cons_zero, List.set_cons_succ])
                  refine wpAnyH_take (i := 11) (oi := { dst := some 63, op := Op.indexAddr 60 (Operand.tmp 57) (Operand.tmp 62), type := 0, pos := "law.go:67", after := #[{ on := 5, ground := Ground.data }, { on := 10, ground := Ground.data }], guard := none }) (v := ?_) rfl (by kernel_rfl) (by kernel_rfl) (by kernel_rfl) (fun _ _ _ h => h) (Or.inl ⟨by rfl, ?_⟩) (by assumption) ?_
                  rotate_left
                  · (intro w hSw; (try dsimp only at hSw); go_simp <;> with_reducible rfl)
                  (try simp only [Act.put, List.setIfInBounds_toArray, List.set_cons_zero, List.set_cons_succ])
                  refine wpAnyH_take (i := 12) (oi := { dst := some 64, op := Op.load 50 (Operand.tmp 63), type := 50, pos := "law.go:67", after := #[{ on := 11, ground := Ground.data }], guard := none }) (v := ?_) rfl (by kernel_rfl) (by kernel_rfl) (by kernel_rfl) (fun _ _ _ h => h) (Or.inl ⟨by rfl, ?_⟩) (by assumption) ?_
                  rotate_left
                  · (intro w hSw; (try dsimp only at hSw); go_simp <;> with_reducible rfl)
                  (try simp only [Act.put, List.setIfInBounds_toArray, List.set_cons_zero, List.set_cons_succ])
                  refine wpAnyH_ready (rs := [2]) (by kernel_rfl) (by simp) ?_
                  refine AllReadyH.cons (o := { dst := some 54, op := Op.call { callee := Callee.value (Operand.func 29), args := #[Operand.tmp 53], argTypes := #[50] }, type := 55, pos := "law.go:67", after := #[{ on := 1, ground := Ground.data }], guard := none }) rfl (fun K hK => ?_) ?_
                  · go_simp
                    refine (Ff _).mono ?_
                    rintro e' w1 ⟨rfl, os4, m4, rfl⟩
                    (try go_wp2_with fail)
                    refine hK.out _ _ (by (try dsimp only); simp [go_sem, z0, z1, kh, f1', f2', ka, p1', p2', kp, e1, e2, hgs]) (fun hHeld2 => ?_)
                    clear hK K hHeld
                    have hHeld := hHeld2
                    clear hHeld2
                    (try simp only [Act.put, List.setIfInBounds_toArray, List.set_cons_zero, List.set_cons_succ])
                    refine wpAnyH_ready (rs := [4]) (by kernel_rfl) (by simp) ?_
                    refine AllReadyH.cons (o := { dst := some 56, op := Op.call { callee := Callee.value (Operand.func 29), args := #[Operand.tmp 55], argTypes := #[50] }, type := 55, pos := "law.go:67", after := #[{ on := 3, ground := Ground.data }, { on := 2, ground := Ground.chain }], guard := none }) rfl (fun K hK => ?_) ?_
                    · go_simp
                      refine (Fp _).mono ?_
                      rintro e' w1 ⟨rfl, os5, m5, rfl⟩
                      (try go_wp2_with fail)
                      refine hK.out _ _ (by (try dsimp only); simp [go_sem, z0, z1, kh, f1', f2', ka, p1', p2', kp, e1, e2, hgs]) (fun hHeld2 => ?_)
                      clear hK K hHeld
                      have hHeld := hHeld2
                      clear hHeld2
                      (try simp only [Act.put, List.setIfInBounds_toArray, List.set_cons_zero, List.set_cons_succ])
                      refine wpAnyH_ready (rs := [13]) (by kernel_rfl) (by simp) ?_
                      refine AllReadyH.cons (o := { dst := some 65, op := Op.call { callee := Callee.value (Operand.func 29), args := #[Operand.tmp 64], argTypes := #[50] }, type := 55, pos := "law.go:67", after := #[{ on := 12, ground := Ground.data }, { on := 4, ground := Ground.chain }], guard := none }) rfl (fun K hK => ?_) ?_
                      · go_simp
                        refine (Fn _).mono ?_
                        rintro e' w1 ⟨rfl, os6, m6, rfl⟩
                        (try go_wp2_with fail)
                        refine hK.out _ _ (by (try dsimp only); simp [go_sem, z0, z1, kh, f1', f2', ka, p1', p2', kp, e1, e2, hgs]) (fun hHeld2 => ?_)
                        clear hK K hHeld
                        have hHeld := hHeld2
                        clear hHeld2
                        (try simp only [Act.put, List.setIfInBounds_toArray, List.set_cons_zero, List.set_cons_succ])
                        refine wpAnyH_ready (rs := [14]) (by kernel_rfl) (by simp) ?_
                        refine AllReadyH.cons (o := { dst := some 66, op := Op.call { callee := Callee.value (Operand.func 36), args := #[Operand.tmp 54, Operand.tmp 56, Operand.tmp 65], argTypes := #[55, 55, 55] }, type := 31, pos := "law.go:67", after := #[{ on := 2, ground := Ground.data }, { on := 4, ground := Ground.data }, { on := 13, ground := Ground.data }, { on := 13, ground := Ground.chain }], guard := none }) rfl (fun K hK => ?_) ?_
                        · go_simp
                          refine (CN _).mono ?_
                          rintro e' w1 ⟨t, rfl, ht, os7, m7, rfl⟩
                          (try simp only [Gr.of_drew] at ht); (try simp only [Gr.gr] at ht); (try simp only [Array.append_assoc] at ht)
                          obtain ⟨ts, ta, tn, tc, rfl⟩ := ht.shape
                          (try go_wp2_with fail)
                          refine hK.out _ _ (by (try dsimp only); simp [go_sem, z0, z1, kh, f1', f2', ka, p1', p2', kp, e1, e2, hgs]) (fun hHeld2 => ?_)
                          clear hK K hHeld
                          have hHeld := hHeld2
                          clear hHeld2
                          (try simp only [Act.put, List.setIfInBounds_toArray, List.set_cons_zero, List.set_cons_succ])
                          refine wpAnyH_ready (rs := [15]) (by kernel_rfl) (by simp) ?_
                          refine AllReadyH.cons (o := { dst := some 67, op := Op.call { callee := Callee.value (Operand.func 24), args := #[Operand.tmp 52, Operand.tmp 66], argTypes := #[31, 31] }, type := 31, pos := "law.go:67", after := #[{ on := 0, ground := Ground.data }, { on := 14, ground := Ground.data }, { on := 14, ground := Ground.chain }], guard := none }) rfl (fun K hK => ?_) ?_
                          · go_simp
                            refine (AD _ _ _ (hs.gr ?_) (ht.gr ?_)).mono ?_
                            · exact (by with_reducible repeat (first | exact IsGr.refl _ | refine IsGr.gr ?_ _ _ | refine IsGr.alloc ?_ _ | refine IsGr.drew ?_ | refine IsGr.drewN ?_ _))
                            · exact (by with_reducible repeat (first | exact IsGr.refl _ | refine IsGr.gr ?_ _ _ | refine IsGr.alloc ?_ _ | refine IsGr.drew ?_ | refine IsGr.drewN ?_ _))
                            rintro e' w1 ⟨r, rfl, hr, os8, m8, rfl⟩
                            (try simp only [Gr.of_drew] at hr); (try simp only [Gr.gr] at hr); (try simp only [Array.append_assoc] at hr)
                            obtain ⟨rs, ra, rn, rc, rfl⟩ := hr.shape
                            (try go_wp2_with fail)
                            refine hK.out _ _ (by (try dsimp only); simp [go_sem, z0, z1, kh, f1', f2', ka, p1', p2', kp, e1, e2, hgs]) (fun hHeld2 => ?_)
                            clear hK K hHeld
                            have hHeld := hHeld2
                            clear hHeld2
                            (try simp only [Act.put, List.setIfInBounds_toArray, List.set_cons_zero, List.set_cons_succ])
                            refine wpAnyH_done (by kernel_rfl) ?_ _
                            refine butLast_step (o := { dst := none, op := Op.store 31 (Operand.tmp 6) (Operand.tmp 67), type := 0, pos := "law.go:67", after := #[{ on := 15, ground := Ground.data }, { on := 15, ground := Ground.chain }, { on := 0, ground := Ground.phase }, { on := 1, ground := Ground.phase }, { on := 2, ground := Ground.phase }, { on := 3, ground := Ground.phase }, { on := 4, ground := Ground.phase }, { on := 5, ground := Ground.phase }, { on := 6, ground := Ground.phase }, { on := 7, ground := Ground.phase }, { on := 8, ground := Ground.phase }, { on := 9, ground := Ground.phase }, { on := 10, ground := Ground.phase }, { on := 11, ground := Ground.phase }, { on := 12, ground := Ground.phase }, { on := 13, ground := Ground.phase }, { on := 14, ground := Ground.phase }, { on := 15, ground := Ground.phase }], guard := none }) rfl (fun K hK => ?_)
                            go_simp
                            refine hK.out _ _ ?_
                            clear hK K
                            (try simp only [Act.put, List.setIfInBounds_toArray, List.set_cons_zero, List.set_cons_succ])
                            go_wp2
                            have hbe := HB.out
                            have hn9 := Hn.out
                            go_roundw
                            case rel =>
                              refine ⟨k + 1, rs, ra, rn, rc, by omega, by go_num, ?_, Or.inr ⟨by omega, ?_⟩, ?_, ?_, ?_, ?_, ⟨?_, ?_⟩⟩
                              · rw [HA'.out]; simp
                              · rw [HT'.out]
                                exact hT3.kb (Kb.grow (Kb.set (Kb.set (Kb.refl _) _ _ z0 (fun n h => by cases h)) _ _ z1 (fun n h => by cases h)) _ _)
                              · rw [← HS1.out]
                                exact hr.kb (Kb.gr (Kb.set (Kb.set (Kb.refl _) _ _ z0 (fun n h => by cases h)) _ _ z1 (fun n h => by cases h)) (by simp) _ _ _)
                              · simp [go_sem, kh, z0, z1]
                              · simp [go_sem, d0, d1, kh]
                              · simp [go_sem, f1', f2', ka]
                              · simp [Gr.size]; omega
                              · exact Below.gro (Below.setCell (Below.setCell hbe (by simp; omega) _) (by simp; omega) _) (by simp; omega) _ _
                            case measure => simp [intOf]; omega
                          exact AllReadyH.nil
                        exact AllReadyH.nil
                      exact AllReadyH.nil
                    exact AllReadyH.nil
                  exact AllReadyH.nil
      · obtain rfl : k = n := by omega
        have hl := HL.out
        have hP := HP.out.gr (IsGr.of_below HB.out)
        have e9 : l.take k = l := by rw [hl]; simp
        obtain ⟨aa, nn, cc, rfl, hB7, hnn⟩ : ∃ aa nn cc, u7 = .slice aa nn cc ∧ Pts W2 (.slice aa nn cc) l.reverse ∧ nn ≤ 4096 := by
          rcases hT with ⟨h0, h1⟩ | ⟨_, hT⟩
          · refine ⟨none, 0, 0, h1, ?_, by omega⟩
            have : l = [] := List.length_eq_zero_iff.1 (by omega)
            rw [this]; exact Pts.nil _
          · rw [e9] at hT
            obtain ⟨aa, cc, h1, _⟩ := id hT
            refine ⟨aa, _, cc, h1, by rw [← h1]; exact hT, ?_⟩
            rw [List.length_reverse]; omega
        have CL := fun w1 (hg : IsGr W2 w1) => Area_any a k c l w1 (hP.gr hg) (by omega)
        have CB := fun w1 (hg : IsGr W2 w1) => Area_any aa nn cc l.reverse w1 (hB7.gr hg) hnn
        have HK : Hid (k = l.length) := hl
        clear hl hP hB7 hnn hT hi hz0 hz1 hz2
        cases hR : allR l with
        | false =>
          have h5 : allR (l.take k) = false := by rw [e9]; exact hR
          have CS := fun w => Sign_any 0 0 0 0 0 IsI.zero w
          rw [cmpI_eq rfl] at CS
          clear e9
          go_wp2_with fail
          refine (CL _ ?_).mono ?_
          · exact (by with_reducible repeat (first | exact IsGr.refl _ | refine IsGr.gr ?_ _ _ | refine IsGr.alloc ?_ _ | refine IsGr.drew ?_ | refine IsGr.drewN ?_ _))
          rintro e w1 ⟨s0, s1, s2, s3, ok, rfl, hS, os1, m1, rfl⟩
          obtain ⟨rfl, rfl, rfl, rfl, rfl⟩ : ok = false ∧ s0 = 0 ∧ s1 = 0 ∧ s2 = 0 ∧ s3 = 0 := by
            rcases hS with ⟨h9, _⟩ | ⟨_, h9⟩
            · rw [hR] at h9; cases h9
            · exact h9
          go_wp2_with fail
          refine (CB _ ?_).mono ?_
          · exact (by with_reducible repeat (first | exact IsGr.refl _ | refine IsGr.gr ?_ _ _ | refine IsGr.alloc ?_ _ | refine IsGr.drew ?_ | refine IsGr.drewN ?_ _))
          rintro e w1 ⟨t0, t1, t2, t3, is, rfl, hT, os2, m2, rfl⟩
          obtain rfl : is = false := by
            rcases hT with ⟨h9, _⟩ | ⟨_, h9, _⟩
            · rw [allR_reverse, hR] at h9; cases h9
            · exact h9
          clear hS hT hR
          go_wp2_with fail
          refine (CS _).mono ?_
          rintro e w1 ⟨rfl, os3, m3, rfl⟩
          go_wp2_with fail
          refine (CA _).mono ?_
          rintro e w1 ⟨rfl, os4, m4, rfl⟩
          go_wp2
          go_ret
          exact ⟨rfl, (IsGr.of_below HB.out).trans (by with_reducible repeat (first | exact IsGr.refl _ | refine IsGr.gr ?_ _ _ | refine IsGr.alloc ?_ _ | refine IsGr.drew ?_ | refine IsGr.drewN ?_ _))⟩
        | true =>
          have h5 : allR (l.take k) = true := by rw [e9]; exact hR
          have HSU : Hid (rightP f1 f2 = true → sumK f1 f2 l k = areaK l k) := fun hf => by rw [sumK_seen hf hR, HK.out, seenK_area]
          have bS := sumK_bound f1 f2 l k
          have bA := areaK_bound hR k
          have sS : Sm (sumK f1 f2 l k) := by unfold Sm; omega
          have sA : Sm (areaK l k) := by unfold Sm; omega
          have sN : Sm (-areaK l k) := by unfold Sm; omega
          clear e9 bS bA
          go_wp2_with fail
          refine (CL _ ?_).mono ?_
          · exact (by with_reducible repeat (first | exact IsGr.refl _ | refine IsGr.gr ?_ _ _ | refine IsGr.alloc ?_ _ | refine IsGr.drew ?_ | refine IsGr.drewN ?_ _))
          rintro e w1 ⟨s0, s1, s2, s3, ok, rfl, hS, os1, m1, rfl⟩
          obtain ⟨rfl, hs'⟩ : ok = true ∧ IsI s0 s1 s2 s3 (areaK l k) := by
            rcases hS with ⟨_, h9, h8⟩ | ⟨h9, _⟩
            · exact ⟨h9, by rw [HK.out]; exact h8⟩
            · rw [hR] at h9; cases h9
          clear hS CL
          go_upto_region 15 with fail
          go_cut [10, 11, 12, 13] (fun t10 t11 t12 t13 wx => ∃ (ga gb : Nat) (t0 t1 t2 t3 : Int), t10 = .pointer (some ⟨ga, 0, none⟩) ∧ t11 = .bool true ∧ t12 = .pointer (some ⟨gb, 0, none⟩) ∧ t13 = .bool true ∧ IsI t0 t1 t2 t3 (-areaK l k) ∧ ga < wx.heap.size ∧ gb < wx.heap.size ∧ (wx.cell? ⟨ga, 0, none⟩ = some (.int .u64 s0) ∧ wx.cell? ⟨ga, 1, none⟩ = some (.int .u64 s1) ∧ wx.cell? ⟨ga, 2, none⟩ = some (.int .u64 s2) ∧ wx.cell? ⟨ga, 3, none⟩ = some (.int .u64 s3)) ∧ (wx.cell? ⟨gb, 0, none⟩ = some (.int .u64 t0) ∧ wx.cell? ⟨gb, 1, none⟩ = some (.int .u64 t1) ∧ wx.cell? ⟨gb, 2, none⟩ = some (.int .u64 t2) ∧ wx.cell? ⟨gb, 3, none⟩ = some (.int .u64 t3)) ∧ IsGr W2 wx)
          case first => as_aux_lemma =>
            clear CA CRf HSU
            go_wp2_with fail
            refine (CB _ ?_).mono ?_
            · exact (by with_reducible repeat (first | exact IsGr.refl _ | refine IsGr.gr ?_ _ _ | refine IsGr.alloc ?_ _ | refine IsGr.drew ?_ | refine IsGr.drewN ?_ _))
            rintro e w1 ⟨t0, t1, t2, t3, is, rfl, hT, os2, m2, rfl⟩
            obtain ⟨rfl, ht'⟩ : is = true ∧ IsI t0 t1 t2 t3 (-areaK l k) := by
              rcases hT with ⟨_, h9, h8⟩ | ⟨h9, _⟩
              · exact ⟨h9, by rw [areaK_back, ← HK.out] at h8; exact h8⟩
              · rw [allR_reverse, hR] at h9; cases h9
            clear hT hR
            go_wp2
            go_meet
            case rel =>
              refine ⟨_, _, t0, t1, t2, t3, rfl, rfl, rfl, rfl, ht', ?_, ?_, ?_, ?_, (by with_reducible repeat (first | exact IsGr.refl _ | refine IsGr.gr ?_ _ _ | refine IsGr.alloc ?_ _ | refine IsGr.drew ?_ | refine IsGr.drewN ?_ _))⟩
              · first | omega | (simp; done) | (simp [Gr.size]; done) | (simp [Gr.size]; omega)
              · first | omega | (simp; done) | (simp [Gr.size]; done) | (simp [Gr.size]; omega)
              · simp [go_sem]
              · simp [go_sem]
          case rest =>
            obtain ⟨ga, gb, t0, t1, t2, t3, rfl, rfl, rfl, rfl, ht', kga, kgb, ⟨a0, a1, a2, a3⟩, ⟨b0, b1, b2, b3⟩, hgr⟩ := hcut
            obtain ⟨W5, hW9⟩ : ∃ W5, W5 = wc := ⟨_, rfl⟩
            subst hW9
            replace z0 := hgr.cell_at kh z0
            replace z1 := hgr.cell_at kh z1
            replace f1' := hgr.cell_at ka f1'
            replace f2' := hgr.cell_at ka f2'
            replace d0 := hgr.frozen_at kh d0
            replace d1 := hgr.frozen_at kh d1
            replace hs := hs.gr hgr
            replace HB : Hid (Below w.heap.size w W5) := HB.out.trans (hgr.below.mono HB.out.size)
            have hsz := hgr.size
            replace kh : h < W5.heap.size := by omega
            replace ka : w.heap.size < W5.heap.size := by omega
            clear hsz
            have RS := fun w => Read_any hs'.1 hs'.2.1 hs'.2.2 w
            have RT := fun w => Read_any ht'.1 ht'.2.1 ht'.2.2 w
            have MI := fun v w1 (h : IsBig w1 v (-areaK l k)) => Minus_any v (-areaK l k) w1 h sN
            rw [show (0 : Int) - -areaK l k = areaK l k by omega] at MI
            have E1 := fun u1 v1 w1 (hu : IsBig w1 u1 (areaK l k)) (hv : IsBig w1 v1 (areaK l k)) => BigSame_any u1 v1 (areaK l k) w1 hu hv sA
            clear hs' ht' hgr CB hR sN sS
            generalize areaK l k = A at *
            go_upto_region 18 with fail
            go_cut [109] (fun t109 wx => t109 = .bool false ∧ IsGr W5 wx)
            case first => as_aux_lemma =>
              clear CA CRf HSU
              refine wp_region_held_drew (S := (fun w' => (w'.cell? ⟨ga, 0, none⟩ = some (.int .u64 s0) ∧ w'.cell? ⟨ga, 1, none⟩ = some (.int .u64 s1) ∧ w'.cell? ⟨ga, 2, none⟩ = some (.int .u64 s2) ∧ w'.cell? ⟨ga, 3, none⟩ = some (.int .u64 s3)) ∧ (w'.cell? ⟨gb, 0, none⟩ = some (.int .u64 t0) ∧ w'.cell? ⟨gb, 1, none⟩ = some (.int .u64 t1) ∧ w'.cell? ⟨gb, 2, none⟩ = some (.int .u64 t2) ∧ w'.cell? ⟨gb, 3, none⟩ = some (.int .u64 t3)))) (by kernel_rfl) (by (try dsimp only); simp [go_sem, a0, a1, a2, a3, b0, b1, b2, b3]) (fun hHeld => ?_)
              refine wpAnyH_take (i := 0) (oi := { dst := some 95, op := Op.move (Operand.tmp 11), type := 4, pos := "law.go:75", after := #[], guard := none }) (v := ?_) rfl (by kernel_rfl) (by kernel_rfl) (by kernel_rfl) (fun _ _ _ h => h) (Or.inl ⟨by rfl, ?_⟩) (by assumption) ?_
              rotate_left
              · (intro w hSw; (try dsimp only at hSw); go_simp <;> with_reducible rfl)
              (try simp only [Act.put, List.setIfInBounds_toArray, List.set_cons_zero, List.set_cons_succ])
              refine wpAnyH_take (i := 1) (oi := { dst := some 96, op := Op.unOp UnOp.not 4 (Operand.tmp 95), type := 4, pos := "law.go:75", after := #[{ on := 0, ground := Ground.data }], guard := none }) (v := ?_) rfl (by kernel_rfl) (by kernel_rfl) (by kernel_rfl) (fun _ _ _ h => h) (Or.inl ⟨by rfl, ?_⟩) (by assumption) ?_
              rotate_left
              · (intro w hSw; (try dsimp only at hSw); go_simp <;> with_reducible rfl)
              (try simp only [Act.put, List.setIfInBounds_toArray, List.set_cons_zero, List.set_cons_succ])
              refine wpAnyH_take (i := 2) (oi := { dst := some 97, op := Op.move (Operand.tmp 96), type := 4, pos := "law.go:75", after := #[{ on := 1, ground := Ground.data }], guard := none }) (v := ?_) rfl (by kernel_rfl) (by kernel_rfl) (by kernel_rfl) (fun _ _ _ h => h) (Or.inl ⟨by rfl, ?_⟩) (by assumption) ?_
              rotate_left
              · (intro w hSw; (try dsimp only at hSw); go_simp <;> with_reducible rfl)
              (try simp only [Act.put, List.setIfInBounds_toArray, List.set_cons_zero, List.set_cons_succ])
              refine wpAnyH_take (i := 3) (oi := { dst := some 98, op := Op.move (Operand.tmp 13), type := 4, pos := "law.go:75", after := #[{ on := 2, ground := Ground.guard }], guard := some (2, false) }) (v := ?_) rfl (by kernel_rfl) (by kernel_rfl) (by kernel_rfl) (fun _ _ _ h => h) (Or.inl ⟨by rfl, ?_⟩) (by assumption) ?_
              rotate_left
              · (intro w hSw; (try dsimp only at hSw); go_simp <;> with_reducible rfl)
              (try simp only [Act.put, List.setIfInBounds_toArray, List.set_cons_zero, List.set_cons_succ])
              refine wpAnyH_take (i := 4) (oi := { dst := some 99, op := Op.unOp UnOp.not 4 (Operand.tmp 98), type := 4, pos := "law.go:75", after := #[{ on := 3, ground := Ground.data }, { on := 2, ground := Ground.guard }], guard := some (2, false) }) (v := ?_) rfl (by kernel_rfl) (by kernel_rfl) (by kernel_rfl) (fun _ _ _ h => h) (Or.inl ⟨by rfl, ?_⟩) (by assumption) ?_
              rotate_left
              · (intro w hSw; (try dsimp only at hSw); go_simp <;> with_reducible rfl)
              (try simp only [Act.put, List.setIfInBounds_toArray, List.set_cons_zero, List.set_cons_succ])
              refine wpAnyH_take (i := 5) (oi := { dst := some 100, op := Op.pick (Operand.tmp 97) (Operand.const (Value.bool true)) (Operand.tmp 99), type := 4, pos := "law.go:75", after := #[{ on := 2, ground := Ground.data }, { on := 4, ground := Ground.data }], guard := none }) (v := ?_) rfl (by kernel_rfl) (by kernel_rfl) (by kernel_rfl) (fun _ _ _ h => h) (Or.inl ⟨by rfl, ?_⟩) (by assumption) ?_
              rotate_left
              · (intro w hSw; (try dsimp only at hSw); go_simp <;> with_reducible rfl)
              (try simp only [Act.put, List.setIfInBounds_toArray, List.set_cons_zero, List.set_cons_succ])
              refine wpAnyH_take (i := 6) (oi := { dst := some 101, op := Op.move (Operand.tmp 100), type := 4, pos := "law.go:75", after := #[{ on := 5, ground := Ground.data }, { on := 2, ground := Ground.chain }], guard := none }) (v := ?_) rfl (by kernel_rfl) (by kernel_rfl) (by kernel_rfl) (fun _ _ _ h => h) (Or.inl ⟨by rfl, ?_⟩) (by assumption) ?_
              rotate_left
              · (intro w hSw; (try dsimp only at hSw); go_simp <;> with_reducible rfl)
              (try simp only [Act.put, List.setIfInBounds_toArray, List.set_cons_zero, List.set_cons_succ])
              refine wpAnyH_take (i := 7) (oi := { dst := some 102, op := Op.load 24 (Operand.tmp 10), type := 24, pos := "law.go:75", after := #[{ on := 6, ground := Ground.guard }], guard := some (6, false) }) (v := ?_) rfl (by kernel_rfl) (by kernel_rfl) (by kernel_rfl) (fun _ _ _ h => h) (Or.inl ⟨by rfl, ?_⟩) (by assumption) ?_
              rotate_left
              · (intro w hSw; (try dsimp only at hSw); go_simp <;> with_reducible rfl)
              (try simp only [Act.put, List.setIfInBounds_toArray, List.set_cons_zero, List.set_cons_succ])
              refine wpAnyH_take (i := 9) (oi := { dst := some 104, op := Op.load 24 (Operand.tmp 12), type := 24, pos := "law.go:75", after := #[{ on := 6, ground := Ground.guard }], guard := some (6, false) }) (v := ?_) rfl (by kernel_rfl) (by kernel_rfl) (by kernel_rfl) (fun _ _ _ h => h) (Or.inl ⟨by rfl, ?_⟩) (by assumption) ?_
              rotate_left
              · (intro w hSw; (try dsimp only at hSw); go_simp <;> with_reducible rfl)
              (try simp only [Act.put, List.setIfInBounds_toArray, List.set_cons_zero, List.set_cons_succ])
              refine wpAnyH_ready (rs := [8]) (by kernel_rfl) (by simp) ?_
              refine AllReadyH.cons (o := { dst := some 103, op := Op.call { callee := Callee.value (Operand.func 11), args := #[Operand.tmp 102], argTypes := #[23] }, type := 31, pos := "law.go:75", after := #[{ on := 7, ground := Ground.data }, { on := 6, ground := Ground.chain }, { on := 6, ground := Ground.guard }], guard := some (6, false) }) rfl (fun K hK => ?_) ?_
              · go_simp
                refine (RS _).mono ?_
                rintro e w1 ⟨f, rfl, hf, os31, k31, rfl⟩
                (try simp only [Gr.of_drew] at hf); (try simp only [Gr.gr] at hf); (try simp only [Array.append_assoc] at hf)
                obtain ⟨fs, fa, fn, fc, rfl⟩ := hf.shape
                (try go_wp2_with fail)
                refine hK.out _ _ (by (try dsimp only); simp [go_sem, a0, a1, a2, a3, b0, b1, b2, b3, kga, kgb]) (fun hHeld2 => ?_)
                clear hK K hHeld
                have hHeld := hHeld2
                clear hHeld2
                (try simp only [Act.put, List.setIfInBounds_toArray, List.set_cons_zero, List.set_cons_succ])
                refine wpAnyH_ready (rs := [10]) (by kernel_rfl) (by simp) ?_
                refine AllReadyH.cons (o := { dst := some 105, op := Op.call { callee := Callee.value (Operand.func 11), args := #[Operand.tmp 104], argTypes := #[23] }, type := 31, pos := "law.go:75", after := #[{ on := 9, ground := Ground.data }, { on := 8, ground := Ground.chain }, { on := 6, ground := Ground.guard }], guard := some (6, false) }) rfl (fun K hK => ?_) ?_
                · go_simp
                  refine (RT _).mono ?_
                  rintro e w1 ⟨o, rfl, ho, os32, k32, rfl⟩
                  (try simp only [Gr.of_drew] at ho); (try simp only [Gr.gr] at ho); (try simp only [Array.append_assoc] at ho)
                  obtain ⟨os, oa, on, oc, rfl⟩ := ho.shape
                  (try go_wp2_with fail)
                  refine hK.out _ _ (by (try dsimp only); simp [go_sem, a0, a1, a2, a3, b0, b1, b2, b3, kga, kgb]) (fun hHeld2 => ?_)
                  clear hK K hHeld
                  have hHeld := hHeld2
                  clear hHeld2
                  (try simp only [Act.put, List.setIfInBounds_toArray, List.set_cons_zero, List.set_cons_succ])
                  refine wpAnyH_ready (rs := [11]) (by kernel_rfl) (by simp) ?_
                  refine AllReadyH.cons (o := { dst := some 106, op := Op.call { callee := Callee.value (Operand.func 12), args := #[Operand.tmp 105], argTypes := #[31] }, type := 31, pos := "law.go:75", after := #[{ on := 10, ground := Ground.data }, { on := 10, ground := Ground.chain }, { on := 6, ground := Ground.guard }], guard := some (6, false) }) rfl (fun K hK => ?_) ?_
                  · go_simp
                    refine (MI _ _ (ho.gr ?_)).mono ?_
                    · exact (by with_reducible repeat (first | exact IsGr.refl _ | refine IsGr.gr ?_ _ _ | refine IsGr.alloc ?_ _ | refine IsGr.drew ?_ | refine IsGr.drewN ?_ _))
                    rintro e w1 ⟨q, rfl, hq, os33, k33, rfl⟩
                    (try simp only [Gr.of_drew] at hq); (try simp only [Gr.gr] at hq); (try simp only [Array.append_assoc] at hq)
                    obtain ⟨qs, qa, qn, qc, rfl⟩ := hq.shape
                    (try go_wp2_with fail)
                    refine hK.out _ _ (by (try dsimp only); simp [go_sem, a0, a1, a2, a3, b0, b1, b2, b3, kga, kgb]) (fun hHeld2 => ?_)
                    clear hK K hHeld
                    have hHeld := hHeld2
                    clear hHeld2
                    (try simp only [Act.put, List.setIfInBounds_toArray, List.set_cons_zero, List.set_cons_succ])
                    refine wpAnyH_ready (rs := [12]) (by kernel_rfl) (by simp) ?_
                    refine AllReadyH.cons (o := { dst := some 107, op := Op.call { callee := Callee.value (Operand.func 15), args := #[Operand.tmp 103, Operand.tmp 106], argTypes := #[31, 31] }, type := 3, pos := "law.go:75", after := #[{ on := 8, ground := Ground.data }, { on := 11, ground := Ground.data }, { on := 11, ground := Ground.chain }, { on := 6, ground := Ground.guard }], guard := some (6, false) }) rfl (fun K hK => ?_) ?_
                    · go_simp
                      refine (E1 _ _ _ (hf.gr ?_) (hq.gr ?_)).mono ?_
                      · exact (by with_reducible repeat (first | exact IsGr.refl _ | exact IsGr.gapp0 _ _ _ _ | exact IsGr.gapp1 _ _ _ _ _ | exact IsGr.gapp2 _ _ _ _ _ _ | exact IsGr.gapp3 _ _ _ _ _ _ _ | exact IsGr.gapp4 _ _ _ _ _ _ _ _ | exact IsGr.gapp5 _ _ _ _ _ _ _ _ _ | exact IsGr.gapp6 _ _ _ _ _ _ _ _ _ _ | exact IsGr.gapp7 _ _ _ _ _ _ _ _ _ _ _ | exact IsGr.gapp8 _ _ _ _ _ _ _ _ _ _ _ _ | refine IsGr.gr ?_ _ _ | refine IsGr.alloc ?_ _ | refine IsGr.drew ?_))
                      · exact (by with_reducible repeat (first | exact IsGr.refl _ | refine IsGr.gr ?_ _ _ | refine IsGr.alloc ?_ _ | refine IsGr.drew ?_ | refine IsGr.drewN ?_ _))
                      rintro e w1 ⟨rfl, os34, k34, rfl⟩
                      (try go_wp2_with fail)
                      refine hK.out _ _ (by (try dsimp only); simp [go_sem, a0, a1, a2, a3, b0, b1, b2, b3, kga, kgb]) (fun hHeld2 => ?_)
                      clear hK K hHeld
                      have hHeld := hHeld2
                      clear hHeld2
                      (try simp only [Act.put, List.setIfInBounds_toArray, List.set_cons_zero, List.set_cons_succ])
                      refine wpAnyH_take (i := 13) (oi := { dst := some 108, op := Op.binOp BinOp.neq 3 (Operand.tmp 107) (Operand.const (Value.int IntKind.i64 0)) 3, type := 4, pos := "law.go:75", after := #[{ on := 12, ground := Ground.data }, { on := 6, ground := Ground.guard }], guard := some (6, false) }) (v := ?_) rfl (by kernel_rfl) (by kernel_rfl) (by kernel_rfl) (fun _ _ _ h => h) (Or.inl ⟨by rfl, ?_⟩) (by assumption) ?_
                      rotate_left
                      · (intro w hSw; (try dsimp only at hSw); go_simp <;> with_reducible rfl)
                      (try simp only [Act.put, List.setIfInBounds_toArray, List.set_cons_zero, List.set_cons_succ])
                      refine wpAnyH_take (i := 14) (oi := { dst := some 109, op := Op.pick (Operand.tmp 101) (Operand.const (Value.bool true)) (Operand.tmp 108), type := 4, pos := "law.go:75", after := #[{ on := 6, ground := Ground.data }, { on := 13, ground := Ground.data }], guard := none }) (v := ?_) rfl (by kernel_rfl) (by kernel_rfl) (by kernel_rfl) (fun _ _ _ h => h) (Or.inl ⟨by rfl, ?_⟩) (by assumption) ?_
                      rotate_left
                      · (intro w hSw; (try dsimp only at hSw); go_simp <;> with_reducible rfl)
                      (try simp only [Act.put, List.setIfInBounds_toArray, List.set_cons_zero, List.set_cons_succ])
                      refine wpAnyH_done (by kernel_rfl) ?_ _
                      go_wp2
                      go_meet
                      case rel => exact ⟨by rfl, (by with_reducible repeat (first | exact IsGr.refl _ | refine IsGr.gr ?_ _ _ | refine IsGr.alloc ?_ _ | refine IsGr.drew ?_ | refine IsGr.drewN ?_ _))⟩
                    exact AllReadyH.nil
                  exact AllReadyH.nil
                exact AllReadyH.nil
              exact AllReadyH.nil
            case rest =>
              obtain ⟨rfl, hgr⟩ := hcut
              obtain ⟨W6, hW9⟩ : ∃ W6, W6 = wc := ⟨_, rfl⟩
              subst hW9
              replace z0 := hgr.cell_at kh z0
              replace z1 := hgr.cell_at kh z1
              replace f1' := hgr.cell_at ka f1'
              replace f2' := hgr.cell_at ka f2'
              replace d0 := hgr.frozen_at kh d0
              replace d1 := hgr.frozen_at kh d1
              replace hs := hs.gr hgr
              replace HB : Hid (Below w.heap.size w W6) := HB.out.trans (hgr.below.mono HB.out.size)
              have hsz := hgr.size
              replace kh : h < W6.heap.size := by omega
              replace ka : w.heap.size < W6.heap.size := by omega
              clear hsz
              replace a0 := hgr.cell_at kga a0
              replace a1 := hgr.cell_at kga a1
              replace a2 := hgr.cell_at kga a2
              replace a3 := hgr.cell_at kga a3
              replace kga : ga < W6.heap.size := Nat.lt_of_lt_of_le kga hgr.size
              clear hgr MI RT b0 b1 b2 b3 kgb
              go_upto_region 20 with fail
              generalize rightP f1 f2 = rf at CRf HSU
              cases rf
              · as_aux_lemma =>
                  refine wp_region_held_drew (S := (fun w' => (w'.cell? ⟨w.heap.size, 0, none⟩ = some (.int .i64 f1) ∧ w'.cell? ⟨w.heap.size, 1, none⟩ = some (.int .i64 f2)))) (by kernel_rfl) (by (try dsimp only); simp [go_sem, f1', f2']) (fun hHeld => ?_)
                  refine wpAnyH_take (i := 0) (oi := { dst := some 110, op := Op.load 50 (Operand.tmp 3), type := 50, pos := "law.go:78", after := #[], guard := none }) (v := ?_) rfl (by kernel_rfl) (by kernel_rfl) (by kernel_rfl) (fun _ _ _ h => h) (Or.inl ⟨by rfl, ?_⟩) (by assumption) ?_
                  rotate_left
                  · (intro w hSw; (try dsimp only at hSw); go_simp <;> with_reducible rfl)
                  (try simp only [Act.put, List.setIfInBounds_toArray, List.set_cons_zero, List.set_cons_succ])
                  refine wpAnyH_ready (rs := [1]) (by kernel_rfl) (by simp) ?_
                  refine AllReadyH.cons (o := { dst := some 111, op := Op.call { callee := Callee.value (Operand.func 35), args := #[Operand.tmp 110], argTypes := #[50] }, type := 4, pos := "law.go:78", after := #[{ on := 0, ground := Ground.data }], guard := none }) rfl (fun K hK => ?_) ?_
                  · go_simp
                    refine (CRf _).mono ?_
                    rintro e w1 ⟨rfl, os41, k41, rfl⟩
                    (try go_wp2_with fail)
                    refine hK.out _ _ (by (try dsimp only); simp [go_sem, f1', f2', ka]) (fun hHeld2 => ?_)
                    clear hK K hHeld
                    have hHeld := hHeld2
                    clear hHeld2
                    (try simp only [Act.put, List.setIfInBounds_toArray, List.set_cons_zero, List.set_cons_succ])
                    refine wpAnyH_take (i := 2) (oi := { dst := some 112, op := Op.unOp UnOp.not 4 (Operand.tmp 111), type := 4, pos := "law.go:78", after := #[{ on := 1, ground := Ground.data }], guard := none }) (v := ?_) rfl (by kernel_rfl) (by kernel_rfl) (by kernel_rfl) (fun _ _ _ h => h) (Or.inl ⟨by rfl, ?_⟩) (by assumption) ?_
                    rotate_left
                    · (intro w hSw; (try dsimp only at hSw); go_simp <;> with_reducible rfl)
                    (try simp only [Act.put, List.setIfInBounds_toArray, List.set_cons_zero, List.set_cons_succ])
                    refine wpAnyH_take (i := 3) (oi := { dst := some 113, op := Op.move (Operand.tmp 112), type := 4, pos := "law.go:78", after := #[{ on := 2, ground := Ground.data }, { on := 1, ground := Ground.chain }], guard := none }) (v := ?_) rfl (by kernel_rfl) (by kernel_rfl) (by kernel_rfl) (fun _ _ _ h => h) (Or.inl ⟨by rfl, ?_⟩) (by assumption) ?_
                    rotate_left
                    · (intro w hSw; (try dsimp only at hSw); go_simp <;> with_reducible rfl)
                    (try simp only [Act.put, List.setIfInBounds_toArray, List.set_cons_zero, List.set_cons_succ])
                    refine wpAnyH_take (i := 4) (oi := { dst := some 114, op := Op.load 24 (Operand.tmp 10), type := 24, pos := "law.go:78", after := #[{ on := 3, ground := Ground.guard }], guard := some (3, false) }) (v := undef) rfl (by kernel_rfl) (by kernel_rfl) (by kernel_rfl) (fun _ _ _ h => h) (Or.inr ⟨by rfl, rfl⟩) (by assumption) ?_
                    (try simp only [Act.put, List.setIfInBounds_toArray, List.set_cons_zero, List.set_cons_succ])
                    refine wpAnyH_take (i := 5) (oi := { dst := some 115, op := Op.call { callee := Callee.value (Operand.func 11), args := #[Operand.tmp 114], argTypes := #[23] }, type := 31, pos := "law.go:78", after := #[{ on := 4, ground := Ground.data }, { on := 3, ground := Ground.chain }, { on := 3, ground := Ground.guard }], guard := some (3, false) }) (v := undef) rfl (by kernel_rfl) (by kernel_rfl) (by kernel_rfl) (fun _ _ _ h => h) (Or.inr ⟨by rfl, rfl⟩) (by assumption) ?_
                    (try simp only [Act.put, List.setIfInBounds_toArray, List.set_cons_zero, List.set_cons_succ])
                    refine wpAnyH_take (i := 6) (oi := { dst := some 116, op := Op.load 31 (Operand.tmp 6), type := 31, pos := "law.go:78", after := #[{ on := 3, ground := Ground.guard }], guard := some (3, false) }) (v := undef) rfl (by kernel_rfl) (by kernel_rfl) (by kernel_rfl) (fun _ _ _ h => h) (Or.inr ⟨by rfl, rfl⟩) (by assumption) ?_
                    (try simp only [Act.put, List.setIfInBounds_toArray, List.set_cons_zero, List.set_cons_succ])
                    refine wpAnyH_take (i := 7) (oi := { dst := some 117, op := Op.call { callee := Callee.value (Operand.func 15), args := #[Operand.tmp 115, Operand.tmp 116], argTypes := #[31, 31] }, type := 3, pos := "law.go:78", after := #[{ on := 5, ground := Ground.data }, { on := 6, ground := Ground.data }, { on := 5, ground := Ground.chain }, { on := 3, ground := Ground.guard }], guard := some (3, false) }) (v := undef) rfl (by kernel_rfl) (by kernel_rfl) (by kernel_rfl) (fun _ _ _ h => h) (Or.inr ⟨by rfl, rfl⟩) (by assumption) ?_
                    (try simp only [Act.put, List.setIfInBounds_toArray, List.set_cons_zero, List.set_cons_succ])
                    refine wpAnyH_take (i := 8) (oi := { dst := some 118, op := Op.binOp BinOp.eql 3 (Operand.tmp 117) (Operand.const (Value.int IntKind.i64 0)) 3, type := 4, pos := "law.go:78", after := #[{ on := 7, ground := Ground.data }, { on := 3, ground := Ground.guard }], guard := some (3, false) }) (v := undef) rfl (by kernel_rfl) (by kernel_rfl) (by kernel_rfl) (fun _ _ _ h => h) (Or.inr ⟨by rfl, rfl⟩) (by assumption) ?_
                    (try simp only [Act.put, List.setIfInBounds_toArray, List.set_cons_zero, List.set_cons_succ])
                    refine wpAnyH_take (i := 9) (oi := { dst := some 119, op := Op.pick (Operand.tmp 113) (Operand.const (Value.bool true)) (Operand.tmp 118), type := 4, pos := "law.go:78", after := #[{ on := 3, ground := Ground.data }, { on := 8, ground := Ground.data }], guard := none }) (v := ?_) rfl (by kernel_rfl) (by kernel_rfl) (by kernel_rfl) (fun _ _ _ h => h) (Or.inl ⟨by rfl, ?_⟩) (by assumption) ?_
                    rotate_left
                    · (intro w hSw; (try dsimp only at hSw); go_simp <;> with_reducible rfl)
                    (try simp only [Act.put, List.setIfInBounds_toArray, List.set_cons_zero, List.set_cons_succ])
                    refine wpAnyH_take (i := 10) (oi := { dst := some 120, op := Op.move (Operand.tmp 119), type := 4, pos := "law.go:78", after := #[{ on := 9, ground := Ground.data }, { on := 7, ground := Ground.chain }], guard := none }) (v := ?_) rfl (by kernel_rfl) (by kernel_rfl) (by kernel_rfl) (fun _ _ _ h => h) (Or.inl ⟨by rfl, ?_⟩) (by assumption) ?_
                    rotate_left
                    · (intro w hSw; (try dsimp only at hSw); go_simp <;> with_reducible rfl)
                    (try simp only [Act.put, List.setIfInBounds_toArray, List.set_cons_zero, List.set_cons_succ])
                    refine wpAnyH_ready (rs := [11]) (by kernel_rfl) (by simp) ?_
                    refine AllReadyH.cons (o := { dst := some 121, op := Op.call { callee := Callee.value (Operand.func 30), args := #[], argTypes := #[] }, type := 4, pos := "law.go:78", after := #[{ on := 10, ground := Ground.chain }, { on := 10, ground := Ground.guard }], guard := some (10, true) }) rfl (fun K hK => ?_) ?_
                    · go_simp
                      refine (CA _).mono ?_
                      rintro e w1 ⟨rfl, os42, k42, rfl⟩
                      (try go_wp2_with fail)
                      refine hK.out _ _ (by (try dsimp only); simp [go_sem, f1', f2', ka]) (fun hHeld2 => ?_)
                      clear hK K hHeld
                      have hHeld := hHeld2
                      clear hHeld2
                      (try simp only [Act.put, List.setIfInBounds_toArray, List.set_cons_zero, List.set_cons_succ])
                      refine wpAnyH_take (i := 12) (oi := { dst := some 122, op := Op.pick (Operand.tmp 120) (Operand.tmp 121) (Operand.const (Value.bool false)), type := 4, pos := "law.go:78", after := #[{ on := 10, ground := Ground.data }, { on := 11, ground := Ground.data }], guard := none }) (v := ?_) rfl (by kernel_rfl) (by kernel_rfl) (by kernel_rfl) (fun _ _ _ h => h) (Or.inl ⟨by rfl, ?_⟩) (by assumption) ?_
                      rotate_left
                      · (intro w hSw; (try dsimp only at hSw); go_simp <;> with_reducible rfl)
                      (try simp only [Act.put, List.setIfInBounds_toArray, List.set_cons_zero, List.set_cons_succ])
                      refine wpAnyH_take (i := 13) (oi := { dst := some 4, op := Op.assign (Operand.tmp 122), type := 4, pos := "law.go:78", after := #[{ on := 12, ground := Ground.data }, { on := 11, ground := Ground.chain }, { on := 0, ground := Ground.phase }, { on := 1, ground := Ground.phase }, { on := 2, ground := Ground.phase }, { on := 3, ground := Ground.phase }, { on := 4, ground := Ground.phase }, { on := 5, ground := Ground.phase }, { on := 6, ground := Ground.phase }, { on := 7, ground := Ground.phase }, { on := 8, ground := Ground.phase }, { on := 9, ground := Ground.phase }, { on := 10, ground := Ground.phase }, { on := 11, ground := Ground.phase }, { on := 12, ground := Ground.phase }], guard := none }) (v := ?_) rfl (by kernel_rfl) (by kernel_rfl) (by kernel_rfl) (fun _ _ _ h => h) (Or.inl ⟨by rfl, ?_⟩) (by assumption) ?_
                      rotate_left
                      · (intro w hSw; (try dsimp only at hSw); go_simp <;> with_reducible rfl)
                      (try simp only [Act.put, List.setIfInBounds_toArray, List.set_cons_zero, List.set_cons_succ])
                      refine wpAnyH_done (by kernel_rfl) ?_ _
                      go_wp2
                      go_ret
                      exact ⟨rfl, (IsGr.of_below HB.out).trans (by with_reducible repeat (first | exact IsGr.refl _ | refine IsGr.gr ?_ _ _ | refine IsGr.alloc ?_ _ | refine IsGr.drew ?_ | refine IsGr.drewN ?_ _))⟩
                    exact AllReadyH.nil
                  exact AllReadyH.nil
              · rw [HSU.out rfl] at hs
                as_aux_lemma =>
                  refine wp_region_held_drew (S := (fun w' => (w'.cell? ⟨w.heap.size, 0, none⟩ = some (.int .i64 f1) ∧ w'.cell? ⟨w.heap.size, 1, none⟩ = some (.int .i64 f2)) ∧ (w'.cell? ⟨ga, 0, none⟩ = some (.int .u64 s0) ∧ w'.cell? ⟨ga, 1, none⟩ = some (.int .u64 s1) ∧ w'.cell? ⟨ga, 2, none⟩ = some (.int .u64 s2) ∧ w'.cell? ⟨ga, 3, none⟩ = some (.int .u64 s3)) ∧ (w'.cell? ⟨h, 0, none⟩ = some (.bool ss) ∧ w'.cell? ⟨h, 1, none⟩ = some (.slice sa sn sc)))) (by kernel_rfl) (by (try dsimp only); simp [go_sem, f1', f2', a0, a1, a2, a3, z0, z1]) (fun hHeld => ?_)
                  refine wpAnyH_take (i := 0) (oi := { dst := some 110, op := Op.load 50 (Operand.tmp 3), type := 50, pos := "law.go:78", after := #[], guard := none }) (v := ?_) rfl (by kernel_rfl) (by kernel_rfl) (by kernel_rfl) (fun _ _ _ h => h) (Or.inl ⟨by rfl, ?_⟩) (by assumption) ?_
                  rotate_left
                  · (intro w hSw; (try dsimp only at hSw); go_simp <;> with_reducible rfl)
                  (try simp only [Act.put, List.setIfInBounds_toArray, List.set_cons_zero, List.set_cons_succ])
                  refine wpAnyH_ready (rs := [1]) (by kernel_rfl) (by simp) ?_
                  refine AllReadyH.cons (o := { dst := some 111, op := Op.call { callee := Callee.value (Operand.func 35), args := #[Operand.tmp 110], argTypes := #[50] }, type := 4, pos := "law.go:78", after := #[{ on := 0, ground := Ground.data }], guard := none }) rfl (fun K hK => ?_) ?_
                  · go_simp
                    refine (CRf _).mono ?_
                    rintro e w1 ⟨rfl, os41, k41, rfl⟩
                    (try go_wp2_with fail)
                    refine hK.out _ _ (by (try dsimp only); simp [go_sem, f1', f2', ka, a0, a1, a2, a3, kga, z0, z1, kh]) (fun hHeld2 => ?_)
                    clear hK K hHeld
                    have hHeld := hHeld2
                    clear hHeld2
                    (try simp only [Act.put, List.setIfInBounds_toArray, List.set_cons_zero, List.set_cons_succ])
                    refine wpAnyH_take (i := 2) (oi := { dst := some 112, op := Op.unOp UnOp.not 4 (Operand.tmp 111), type := 4, pos := "law.go:78", after := #[{ on := 1, ground := Ground.data }], guard := none }) (v := ?_) rfl (by kernel_rfl) (by kernel_rfl) (by kernel_rfl) (fun _ _ _ h => h) (Or.inl ⟨by rfl, ?_⟩) (by assumption) ?_
                    rotate_left
                    · (intro w hSw; (try dsimp only at hSw); go_simp <;> with_reducible rfl)
                    (try simp only [Act.put, List.setIfInBounds_toArray, List.set_cons_zero, List.set_cons_succ])
                    refine wpAnyH_take (i := 3) (oi := { dst := some 113, op := Op.move (Operand.tmp 112), type := 4, pos := "law.go:78", after := #[{ on := 2, ground := Ground.data }, { on := 1, ground := Ground.chain }], guard := none }) (v := ?_) rfl (by kernel_rfl) (by kernel_rfl) (by kernel_rfl) (fun _ _ _ h => h) (Or.inl ⟨by rfl, ?_⟩) (by assumption) ?_
                    rotate_left
                    · (intro w hSw; (try dsimp only at hSw); go_simp <;> with_reducible rfl)
                    (try simp only [Act.put, List.setIfInBounds_toArray, List.set_cons_zero, List.set_cons_succ])
                    refine wpAnyH_take (i := 4) (oi := { dst := some 114, op := Op.load 24 (Operand.tmp 10), type := 24, pos := "law.go:78", after := #[{ on := 3, ground := Ground.guard }], guard := some (3, false) }) (v := ?_) rfl (by kernel_rfl) (by kernel_rfl) (by kernel_rfl) (fun _ _ _ h => h) (Or.inl ⟨by rfl, ?_⟩) (by assumption) ?_
                    rotate_left
                    · (intro w hSw; (try dsimp only at hSw); go_simp <;> with_reducible rfl)
                    (try simp only [Act.put, List.setIfInBounds_toArray, List.set_cons_zero, List.set_cons_succ])
                    refine wpAnyH_take (i := 6) (oi := { dst := some 116, op := Op.load 31 (Operand.tmp 6), type := 31, pos := "law.go:78", after := #[{ on := 3, ground := Ground.guard }], guard := some (3, false) }) (v := ?_) rfl (by kernel_rfl) (by kernel_rfl) (by kernel_rfl) (fun _ _ _ h => h) (Or.inl ⟨by rfl, ?_⟩) (by assumption) ?_
                    rotate_left
                    · (intro w hSw; (try dsimp only at hSw); go_simp <;> with_reducible rfl)
                    (try simp only [Act.put, List.setIfInBounds_toArray, List.set_cons_zero, List.set_cons_succ])
                    refine wpAnyH_ready (rs := [5]) (by kernel_rfl) (by simp) ?_
                    refine AllReadyH.cons (o := { dst := some 115, op := Op.call { callee := Callee.value (Operand.func 11), args := #[Operand.tmp 114], argTypes := #[23] }, type := 31, pos := "law.go:78", after := #[{ on := 4, ground := Ground.data }, { on := 3, ground := Ground.chain }, { on := 3, ground := Ground.guard }], guard := some (3, false) }) rfl (fun K hK => ?_) ?_
                    · go_simp
                      refine (RS _).mono ?_
                      rintro e w1 ⟨f, rfl, hf, os43, k43, rfl⟩
                      (try simp only [Gr.of_drew] at hf); (try simp only [Gr.gr] at hf); (try simp only [Array.append_assoc] at hf)
                      obtain ⟨fs, fa, fn, fc, rfl⟩ := hf.shape
                      (try go_wp2_with fail)
                      refine hK.out _ _ (by (try dsimp only); simp [go_sem, f1', f2', ka, a0, a1, a2, a3, kga, z0, z1, kh]) (fun hHeld2 => ?_)
                      clear hK K hHeld
                      have hHeld := hHeld2
                      clear hHeld2
                      (try simp only [Act.put, List.setIfInBounds_toArray, List.set_cons_zero, List.set_cons_succ])
                      refine wpAnyH_ready (rs := [7]) (by kernel_rfl) (by simp) ?_
                      refine AllReadyH.cons (o := { dst := some 117, op := Op.call { callee := Callee.value (Operand.func 15), args := #[Operand.tmp 115, Operand.tmp 116], argTypes := #[31, 31] }, type := 3, pos := "law.go:78", after := #[{ on := 5, ground := Ground.data }, { on := 6, ground := Ground.data }, { on := 5, ground := Ground.chain }, { on := 3, ground := Ground.guard }], guard := some (3, false) }) rfl (fun K hK => ?_) ?_
                      · go_simp
                        refine (E1 _ _ _ (hf.gr ?_) (hs.gr ?_)).mono ?_
                        · exact (by with_reducible repeat (first | exact IsGr.refl _ | exact IsGr.gapp0 _ _ _ _ | exact IsGr.gapp1 _ _ _ _ _ | exact IsGr.gapp2 _ _ _ _ _ _ | exact IsGr.gapp3 _ _ _ _ _ _ _ | exact IsGr.gapp4 _ _ _ _ _ _ _ _ | exact IsGr.gapp5 _ _ _ _ _ _ _ _ _ | exact IsGr.gapp6 _ _ _ _ _ _ _ _ _ _ | exact IsGr.gapp7 _ _ _ _ _ _ _ _ _ _ _ | exact IsGr.gapp8 _ _ _ _ _ _ _ _ _ _ _ _ | refine IsGr.gr ?_ _ _ | refine IsGr.alloc ?_ _ | refine IsGr.drew ?_))
                        · exact (by with_reducible repeat (first | exact IsGr.refl _ | refine IsGr.gr ?_ _ _ | refine IsGr.alloc ?_ _ | refine IsGr.drew ?_ | refine IsGr.drewN ?_ _))
                        rintro e w1 ⟨rfl, os44, k44, rfl⟩
                        (try go_wp2_with fail)
                        refine hK.out _ _ (by (try dsimp only); simp [go_sem, f1', f2', ka, a0, a1, a2, a3, kga, z0, z1, kh]) (fun hHeld2 => ?_)
                        clear hK K hHeld
                        have hHeld := hHeld2
                        clear hHeld2
                        (try simp only [Act.put, List.setIfInBounds_toArray, List.set_cons_zero, List.set_cons_succ])
                        refine wpAnyH_take (i := 8) (oi := { dst := some 118, op := Op.binOp BinOp.eql 3 (Operand.tmp 117) (Operand.const (Value.int IntKind.i64 0)) 3, type := 4, pos := "law.go:78", after := #[{ on := 7, ground := Ground.data }, { on := 3, ground := Ground.guard }], guard := some (3, false) }) (v := ?_) rfl (by kernel_rfl) (by kernel_rfl) (by kernel_rfl) (fun _ _ _ h => h) (Or.inl ⟨by rfl, ?_⟩) (by assumption) ?_
                        rotate_left
                        · (intro w hSw; (try dsimp only at hSw); go_simp <;> with_reducible rfl)
                        (try simp only [Act.put, List.setIfInBounds_toArray, List.set_cons_zero, List.set_cons_succ])
                        refine wpAnyH_take (i := 9) (oi := { dst := some 119, op := Op.pick (Operand.tmp 113) (Operand.const (Value.bool true)) (Operand.tmp 118), type := 4, pos := "law.go:78", after := #[{ on := 3, ground := Ground.data }, { on := 8, ground := Ground.data }], guard := none }) (v := ?_) rfl (by kernel_rfl) (by kernel_rfl) (by kernel_rfl) (fun _ _ _ h => h) (Or.inl ⟨by rfl, ?_⟩) (by assumption) ?_
                        rotate_left
                        · (intro w hSw; (try dsimp only at hSw); go_simp <;> with_reducible rfl)
                        (try simp only [Act.put, List.setIfInBounds_toArray, List.set_cons_zero, List.set_cons_succ])
                        refine wpAnyH_take (i := 10) (oi := { dst := some 120, op := Op.move (Operand.tmp 119), type := 4, pos := "law.go:78", after := #[{ on := 9, ground := Ground.data }, { on := 7, ground := Ground.chain }], guard := none }) (v := ?_) rfl (by kernel_rfl) (by kernel_rfl) (by kernel_rfl) (fun _ _ _ h => h) (Or.inl ⟨by rfl, ?_⟩) (by assumption) ?_
                        rotate_left
                        · (intro w hSw; (try dsimp only at hSw); go_simp <;> with_reducible rfl)
                        (try simp only [Act.put, List.setIfInBounds_toArray, List.set_cons_zero, List.set_cons_succ])
                        refine wpAnyH_ready (rs := [11]) (by kernel_rfl) (by simp) ?_
                        refine AllReadyH.cons (o := { dst := some 121, op := Op.call { callee := Callee.value (Operand.func 30), args := #[], argTypes := #[] }, type := 4, pos := "law.go:78", after := #[{ on := 10, ground := Ground.chain }, { on := 10, ground := Ground.guard }], guard := some (10, true) }) rfl (fun K hK => ?_) ?_
                        · go_simp
                          refine (CA _).mono ?_
                          rintro e w1 ⟨rfl, os42, k42, rfl⟩
                          (try go_wp2_with fail)
                          refine hK.out _ _ (by (try dsimp only); simp [go_sem, f1', f2', ka, a0, a1, a2, a3, kga, z0, z1, kh]) (fun hHeld2 => ?_)
                          clear hK K hHeld
                          have hHeld := hHeld2
                          clear hHeld2
                          (try simp only [Act.put, List.setIfInBounds_toArray, List.set_cons_zero, List.set_cons_succ])
                          refine wpAnyH_take (i := 12) (oi := { dst := some 122, op := Op.pick (Operand.tmp 120) (Operand.tmp 121) (Operand.const (Value.bool false)), type := 4, pos := "law.go:78", after := #[{ on := 10, ground := Ground.data }, { on := 11, ground := Ground.data }], guard := none }) (v := ?_) rfl (by kernel_rfl) (by kernel_rfl) (by kernel_rfl) (fun _ _ _ h => h) (Or.inl ⟨by rfl, ?_⟩) (by assumption) ?_
                          rotate_left
                          · (intro w hSw; (try dsimp only at hSw); go_simp <;> with_reducible rfl)
                          (try simp only [Act.put, List.setIfInBounds_toArray, List.set_cons_zero, List.set_cons_succ])
                          refine wpAnyH_take (i := 13) (oi := { dst := some 4, op := Op.assign (Operand.tmp 122), type := 4, pos := "law.go:78", after := #[{ on := 12, ground := Ground.data }, { on := 11, ground := Ground.chain }, { on := 0, ground := Ground.phase }, { on := 1, ground := Ground.phase }, { on := 2, ground := Ground.phase }, { on := 3, ground := Ground.phase }, { on := 4, ground := Ground.phase }, { on := 5, ground := Ground.phase }, { on := 6, ground := Ground.phase }, { on := 7, ground := Ground.phase }, { on := 8, ground := Ground.phase }, { on := 9, ground := Ground.phase }, { on := 10, ground := Ground.phase }, { on := 11, ground := Ground.phase }, { on := 12, ground := Ground.phase }], guard := none }) (v := ?_) rfl (by kernel_rfl) (by kernel_rfl) (by kernel_rfl) (fun _ _ _ h => h) (Or.inl ⟨by rfl, ?_⟩) (by assumption) ?_
                          rotate_left
                          · (intro w hSw; (try dsimp only at hSw); go_simp <;> with_reducible rfl)
                          (try simp only [Act.put, List.setIfInBounds_toArray, List.set_cons_zero, List.set_cons_succ])
                          refine wpAnyH_done (by kernel_rfl) ?_ _
                          go_wp2
                          go_ret
                          exact ⟨rfl, (IsGr.of_below HB.out).trans (by with_reducible repeat (first | exact IsGr.refl _ | refine IsGr.gr ?_ _ _ | refine IsGr.alloc ?_ _ | refine IsGr.drew ?_ | refine IsGr.drewN ?_ _))⟩
                        exact AllReadyH.nil
                      exact AllReadyH.nil
                    exact AllReadyH.nil
                  exact AllReadyH.nil
end Go.Proofs.Ytecohcgcffhlnaa
