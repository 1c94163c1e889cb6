/- gromalaw01.WideRoots, for numbers below 0: the law answers true. -/
import Derived.Test.YtpdpofgmedoelaaA1
import Derived.Test.YtpdpofgmedoelaaL3
import Derived.Test.YtpdpofgmedoelaaW19
import Derived.Test.YtpdpofgmedoelaaG2
import Derived.Test.YtpdpofgmedoelaaR12a
import Derived.Test.YtpdpofgmedoelaaL5
namespace Go.Proofs.Ytpdpofgmedoelaa
open Go.RowKit Go.Shelf
attribute [local go_sem] Gr.size Gr.cell? Gr.frozen? Gr.setCell Gr.drew Gr.drewN Gr.of_drew Gr.of_drewN Gr.gr Gr.lt_of1 Gr.le_of1 Gr.lt_of2 Gr.le_of2 Gr.lt_of3 Gr.le_of3 Gr.lt_of4 Gr.le_of4 Gr.lt_of5 Gr.le_of5 Gr.lt_of6 Gr.le_of6 Gr.lt_of7 Gr.le_of7 Gr.lt_of8 Gr.le_of8 Gr.lt_of9 Gr.le_of9 Gr.lt_of10 Gr.le_of10 Gr.lt_of11 Gr.le_of11 Gr.lt_of12 Gr.le_of12 Gr.lt_of13 Gr.le_of13 Gr.lt_of14 Gr.le_of14 Gr.lt_of15 Gr.le_of15 Gr.lt_of16 Gr.le_of16 Gr.lt_of17 Gr.le_of17 Gr.lt_of18 Gr.le_of18 Gr.lt_of19 Gr.le_of19 Gr.lt_of20 Gr.le_of20 Gr.lt_of21 Gr.le_of21 Gr.lt_of22 Gr.le_of22 Gr.lt_of23 Gr.le_of23 Gr.lt_of24 Gr.le_of24


set_option maxRecDepth 20000 in set_option maxHeartbeats 8000000 in
theorem roots_neg (x0 x1 x2 x3 x n : Int) (hx : IsI x0 x1 x2 x3 x) (hneg : x < 0) (w : World) :
    Calls Try.prog 3 #[.agg #[.int .u64 x0, .int .u64 x1, .int .u64 x2, .int .u64 x3], .int .i64 n] w fun e w' => e = .returned (.bool true) ∧ IsGr w w' := by
  have RX := fun w => Read_any hx.1 hx.2.1 hx.2.2 w
  have CB := fun w => Bits_any x0 x1 x2 x3 x hx w
  have sx : Sm x := by have := hx.2; unfold Sm; omega
  have sx2 : Sm (abs x) := by have := hx.2; unfold Sm abs; split <;> omega
  have CA := fun w => awake_any w
  go_enter Try.func3, Try.ntmps3
  go_wp2_with fail
  refine (RX _).mono ?_
  rintro e w1 ⟨u, rfl, hu, os1, d1, rfl⟩
  obtain ⟨us, ua, un, uc, rfl⟩ := hu.shape
  have BS := fun w1 v (h : IsBig w1 v x) => BigSign_any v x w1 h sx
  rw [cmpI_lt hneg] at BS
  have CR := fun w => Root_neg x0 x1 x2 x3 x hx hneg w
  have ea : 0 - x = abs x := by unfold abs; rw [if_pos hneg]
  have HNG : Hid (x < 0) := hneg
  clear hneg
  go_wp2_with fail
  refine (BS _ _ (hu.gr ?_)).mono ?_
  exact (by repeat (first | with_reducible exact IsGr.refl _ | (refine ⟨#[], d1, ?_⟩; (try simp only [Gr.of_drew]); (try simp only [Gr.gr]); (try simp only [Array.append_assoc]); (try simp only [Array.append_empty]); (try with_reducible rfl); done) | with_reducible refine IsGr.alloc ?_ _ | with_reducible refine IsGr.gr ?_ _ _ | with_reducible refine IsGr.drew ?_ | with_reducible refine IsGr.drewN ?_ _))
  rintro e w1 ⟨rfl, os2, d2, rfl⟩
  have CM := fun w1 v (h : IsBig w1 v x) => Minus_any v x w1 h sx
  rw [ea] at CM
  go_wp2_with fail
  refine (CM _ _ (hu.gr ?_)).mono ?_
  exact (by repeat (first | with_reducible exact IsGr.refl _ | (refine ⟨#[], d1, ?_⟩; (try simp only [Gr.of_drew]); (try simp only [Gr.gr]); (try simp only [Array.append_assoc]); (try simp only [Array.append_empty]); (try with_reducible rfl); done) | with_reducible refine IsGr.alloc ?_ _ | with_reducible refine IsGr.gr ?_ _ _ | with_reducible refine IsGr.drew ?_ | with_reducible refine IsGr.drewN ?_ _))
  rintro e w1 ⟨z, rfl, hz, os7, d7, rfl⟩
  obtain ⟨zs, za, zn, zc, rfl⟩ := hz.shape
  simp only [Gr.gr] at hz
  go_upto_region 5 with fail
  go_cut [7] (fun t7 wr => ∃ (L : Nat) (zs : Bool) (za : Option Addr) (zn zc : Nat), t7 = .int .i64 L ∧ L ≤ 256 ∧ BL (abs x) L ∧ w.heap.size + 1 + os1.size + 1 < wr.heap.size ∧ (wr.cell? ⟨w.heap.size, 0, none⟩ = some (.int .u64 x0) ∧ wr.cell? ⟨w.heap.size, 1, none⟩ = some (.int .u64 x1) ∧ wr.cell? ⟨w.heap.size, 2, none⟩ = some (.int .u64 x2) ∧ wr.cell? ⟨w.heap.size, 3, none⟩ = some (.int .u64 x3)) ∧ (wr.cell? ⟨w.heap.size + 1 + os1.size, 0, none⟩ = some (.bool us) ∧ wr.cell? ⟨w.heap.size + 1 + os1.size, 1, none⟩ = some (.slice ua un uc) ∧ wr.cell? ⟨w.heap.size + 1 + os1.size + 1, 0, none⟩ = some (.bool zs) ∧ wr.cell? ⟨w.heap.size + 1 + os1.size + 1, 1, none⟩ = some (.slice za zn zc)) ∧ IsBig wr (.agg #[.bool us, .slice ua un uc]) x ∧ IsBig wr (.agg #[.bool zs, .slice za zn zc]) (abs x) ∧ IsGr w wr)
  case first =>
    go_wp2_with fail
    refine (CB _).mono ?_
    rintro e w1 ⟨L, rfl, hL, hBL, os8, d8, rfl⟩
    go_wp2
    go_meet
    case rel =>
      refine ⟨L, zs, za, zn, zc, rfl, hL, hBL, ?_, ?_, ?_, ?_, ?_, (by with_reducible repeat (first | exact IsGr.refl _ | refine IsGr.gr ?_ _ _ | refine IsGr.alloc ?_ _ | refine IsGr.drew ?_ | refine IsGr.drewN ?_ _))⟩
      · simp [Gr.size]
        try omega
      · simp [go_sem]
      · simp [go_sem]
      · exact hu.gr (by repeat (first | with_reducible exact IsGr.refl _ | (refine ⟨#[], d1, ?_⟩; (try simp only [Gr.of_drew]); (try simp only [Gr.gr]); (try simp only [Array.append_assoc]); (try simp only [Array.append_empty]); (try with_reducible rfl); done) | with_reducible refine IsGr.alloc ?_ _ | with_reducible refine IsGr.gr ?_ _ _ | with_reducible refine IsGr.drew ?_ | with_reducible refine IsGr.drewN ?_ _))
      · refine IsBig.gr (hz.kb (W' := Gr (((Gr (w.alloc (.cells #[.int .u64 x0, .int .u64 x1, .int .u64 x2, .int .u64 x3] 24)) os1 d1).alloc (.cells #[.bool us, .slice ua un uc] 27)).alloc (.cells #[.bool zs, .slice za zn zc] 27)) (os2 ++ os7) d7) ?_) (by repeat (first | with_reducible exact IsGr.refl _ | (refine ⟨os8, d8, ?_⟩; (try simp only [Gr.of_drew]); (try simp only [Gr.gr]); (try simp only [Array.append_assoc]); (try simp only [Array.append_empty]); (try with_reducible rfl); done) | with_reducible refine IsGr.alloc ?_ _ | with_reducible refine IsGr.gr ?_ _ _ | with_reducible refine IsGr.drew ?_ | with_reducible refine IsGr.drewN ?_ _))
        with_reducible repeat (first | exact Kb.refl _ | refine Kb.gr ?_ (by first | (simp; done) | simp [Gr.size]) _ _ _ | refine Kb.gr_app ?_ (by first | (simp; done) | simp [Gr.size]) _ _ _ _ | refine Kb.box ?_ (by first | (simp; done) | simp [Gr.size]) _ _ _ _ _ _ _ _ _ | refine Kb.alloc ?_ (by first | (simp; done) | simp [Gr.size]) _ | refine Kb.drew_l ?_ | refine Kb.drew_r ?_ | refine Kb.lay ?_ _ | refine Kb.grow ?_ _ _)
  case rest =>
    obtain ⟨L, zs, za, zn, zc, rfl, hL, hBL, hsz, ⟨i1, i2, i3, i4⟩, ⟨b1, b2, b3, b4⟩, hu1, hz1, hgr⟩ := hcut
    obtain ⟨W1, hW1⟩ : ∃ W1, W1 = wc := ⟨_, rfl⟩
    subst hW1
    have z1 : w.heap.size < W1.heap.size := by omega
    have z5 : w.heap.size + 1 + os1.size < W1.heap.size := by omega
    have z6 : w.heap.size + 1 + os1.size + 1 < W1.heap.size := by omega
    have HU := fun w1 (hg : IsGr W1 w1) => hu1.gr hg
    have HS := fun w1 (hg : IsGr W1 w1) => hz1.gr hg
    have HG0 : Hid (IsGr w W1) := hgr
    clear hu1 hz1 hgr hsz hu CB RX
    have hL0 : L ≠ 0 := by
      intro e
      have h1 := hBL.1
      rw [e] at h1
      have h2 := HNG.out
      unfold abs at h1
      rw [if_pos h2] at h1
      simp at h1
      omega
    have tok1 : True := trivial
    have tok2 : True := trivial
    have hk0 : decide ((L : Int) < 0) = false := by simp
    have hk1 : decide (256 < (L : Int)) = false := by simp; omega
    have CP1 := fun w1 => Power_any (L : Int) w1 (by omega) (by omega)
    rw [Int.toNat_natCast] at CP1
    have sp1 := pow2_sm L (by omega)
    have e1 : cmpI (abs x) (2 ^ L) = -1 := cmpI_lt hBL.1
    have HE1 : Hid (BL (abs x) L) := hBL
    clear hBL
    go_upto_region 6 with fail
    go_cut [49] (fun t49 wr => t49 = .bool false ∧ IsGr W1 wr)
    case first =>
      have CP2 := fun w1 => Power_any ((L : Int) - 1) w1 (by omega) (by omega)
      rw [show ((L : Int) - 1).toNat = L - 1 by omega] at CP2
      have sp2 := pow2_sm (L - 1) (by omega)
      have hLp : decide (0 < L) = true := by simp; omega
      have hLq : (0 : Int) < (L : Int) := by omega
      have hLr : 0 < L := by omega
      have hwL : IntKind.i64.wrap ((L : Int) - 1) = (L : Int) - 1 := by rw [IntKind.wrap_i64]; omega
      obtain ⟨K, hK, hK2⟩ : ∃ K, cmpI (abs x) (2 ^ (L - 1)) = K ∧ decide (K < 0) = false := by
        refine ⟨_, rfl, ?_⟩
        have := HE1.out.2 hL0
        unfold cmpI
        rw [if_neg (by omega)]
        split <;> rfl
      have hK' : Hid (cmpI (abs x) (2 ^ (L - 1)) = K) := hK
      clear hK hL0
      go_region_held3 (fun w' => w'.cell? ⟨w.heap.size + 1 + os1.size + 1, 0, none⟩ = some (.bool zs) ∧ w'.cell? ⟨w.heap.size + 1 + os1.size + 1, 1, none⟩ = some (.slice za zn zc)) (simp [go_sem, b3, b4, z6])
        ((first | (go_at_call 20; have _t := tok1; refine (CP1 _).mono ?_; rintro e w1 ⟨p, rfl, hp, os3, n3, rfl⟩; obtain ⟨ps, pa, pn, pc, rfl⟩ := hp.shape; clear tok1) | (go_at_call 19; have _t := tok2; refine (BigCmp_any _ _ (abs x) (2 ^ L) _ (HS _ ?_) (hp.gr ?_) sx2 sp1).mono ?_; exact (by with_reducible repeat (first | exact IsGr.refl _ | refine IsGr.gr ?_ _ _ | refine IsGr.alloc ?_ _ | refine IsGr.drew ?_ | refine IsGr.drewN ?_ _)); exact (by repeat (first | with_reducible exact IsGr.refl _ | (refine ⟨#[], n3, ?_⟩; (try simp only [Gr.of_drew]); (try simp only [Gr.gr]); (try simp only [Array.append_assoc]); (try simp only [Array.append_empty]); (try with_reducible rfl); done) | with_reducible refine IsGr.alloc ?_ _ | with_reducible refine IsGr.gr ?_ _ _ | with_reducible refine IsGr.drew ?_ | with_reducible refine IsGr.drewN ?_ _)); rw [e1]; rintro e w1 ⟨rfl, os4, n4, rfl⟩; clear tok2) | (go_at_call 20; refine (CP2 _).mono ?_; rintro e w1 ⟨q, rfl, hq, os5, n5, rfl⟩; obtain ⟨qs, qa, qn, qc, rfl⟩ := hq.shape) | (go_at_call 19; refine (BigCmp_any _ _ (abs x) (2 ^ (L - 1)) _ (HS _ ?_) (hq.gr ?_) sx2 sp2).mono ?_; exact (by with_reducible repeat (first | exact IsGr.refl _ | refine IsGr.gr ?_ _ _ | refine IsGr.alloc ?_ _ | refine IsGr.drew ?_ | refine IsGr.drewN ?_ _)); exact (by repeat (first | with_reducible exact IsGr.refl _ | (refine ⟨#[], n5, ?_⟩; (try simp only [Gr.of_drew]); (try simp only [Gr.gr]); (try simp only [Array.append_assoc]); (try simp only [Array.append_empty]); (try with_reducible rfl); done) | with_reducible refine IsGr.alloc ?_ _ | with_reducible refine IsGr.gr ?_ _ _ | with_reducible refine IsGr.drew ?_ | with_reducible refine IsGr.drewN ?_ _)); rw [hK'.out]; rintro e w1 ⟨rfl, os6, n6, rfl⟩)))
      all_goals
        go_wp2
        go_meet
        case rel => exact ⟨rfl, (by with_reducible repeat (first | exact IsGr.refl _ | refine IsGr.gr ?_ _ _ | refine IsGr.alloc ?_ _ | refine IsGr.drew ?_ | refine IsGr.drewN ?_ _))⟩
    case rest =>
      obtain ⟨rfl, hg6⟩ := hcut
      obtain ⟨W2, hW2⟩ : ∃ W2, W2 = wc := ⟨_, rfl⟩
      subst hW2
      replace i1 := hg6.cell_eq z1 i1
      replace i2 := hg6.cell_eq z1 i2
      replace i3 := hg6.cell_eq z1 i3
      replace i4 := hg6.cell_eq z1 i4
      replace b1 := hg6.cell_eq z5 b1
      replace b2 := hg6.cell_eq z5 b2
      replace z1 : w.heap.size < W2.heap.size := Nat.lt_of_lt_of_le z1 hg6.size
      replace z5 : w.heap.size + 1 + os1.size < W2.heap.size := Nat.lt_of_lt_of_le z5 hg6.size
      replace HU := fun w1 (hg : IsGr W2 w1) => HU w1 (hg6.trans hg)
      replace HG0 : Hid (IsGr w W2) := HG0.out.trans hg6
      clear hg6
      clear b3 b4 z6 HS
      have heI := fun w => eqI_t Is.zero Is.zero rfl w
      go_wp2_with fail
      refine (CR _).mono ?_
      rintro e w1 ⟨rfl, os9, d9, rfl⟩
      go_wp2_with fail
      refine (BS _ _ (HU _ ?_)).mono ?_
      exact (by with_reducible repeat (first | exact IsGr.refl _ | refine IsGr.gr ?_ _ _ | refine IsGr.alloc ?_ _ | refine IsGr.drew ?_ | refine IsGr.drewN ?_ _))
      rintro e w1 ⟨rfl, os10, d10, rfl⟩
      go_upto_region 16 with fail
      by_cases hn : n < 0 ∨ 256 < n
      · have CW := fun w => Power_none x0 x1 x2 x3 n hn w
        have heI := fun w => eqI_t Is.zero Is.zero rfl w
        by_cases hn0 : n < 0
        · go_wp2_with fail
          refine (CW _).mono ?_
          rintro e w1 ⟨rfl, os20, n20, rfl⟩
          go_wp2_with fail
          refine (CA _).mono ?_
          rintro e w1 ⟨rfl, osa, na, rfl⟩
          go_wp2
          go_ret
          exact ⟨rfl, HG0.out.trans (by with_reducible repeat (first | exact IsGr.refl _ | refine IsGr.gr ?_ _ _ | refine IsGr.alloc ?_ _ | refine IsGr.drew ?_ | refine IsGr.drewN ?_ _))⟩
        · have hn1 : 256 < n := by omega
          have hn2 : decide (n < 0) = false := by simp; omega
          go_wp2_with fail
          refine (CW _).mono ?_
          rintro e w1 ⟨rfl, os20, n20, rfl⟩
          go_wp2_with fail
          refine (CA _).mono ?_
          rintro e w1 ⟨rfl, osa, na, rfl⟩
          go_wp2
          go_ret
          exact ⟨rfl, HG0.out.trans (by with_reducible repeat (first | exact IsGr.refl _ | refine IsGr.gr ?_ _ _ | refine IsGr.alloc ?_ _ | refine IsGr.drew ?_ | refine IsGr.drewN ?_ _))⟩
      · obtain ⟨N, rfl⟩ := Int.eq_ofNat_of_zero_le (show 0 ≤ n by omega)
        have CW := fun w => WPower_any x0 x1 x2 x3 x hx N (by omega) w
        have C1 := fun w => BigOf_any 1 (by omega) (by omega) w
        have hn0 : decide ((N : Int) < 0) = false := by simp
        have hn1 : decide (256 < (N : Int)) = false := by simp; omega
        have hN256 : N ≤ 256 := by omega
        clear hn
        go_wp2_with fail
        refine (CW _).mono ?_
        rintro e w1 ⟨p0, p1, p2, p3, ok, rfl, hP, os20, n20, rfl⟩
        have HP : Hid (PowT x N p0 p1 p2 p3 ok) := hP
        clear hP
        go_wp2_with fail
        refine (C1 _).mono ?_
        rintro e w1 ⟨o, rfl, ho, os21, n21, rfl⟩
        obtain ⟨bs, ba, bn, bc, rfl⟩ := ho.shape
        try simp only [Gr.gr] at ho
        go_wp2
        go_loopw [116] (fun t116 wr => ∃ (i : Nat) (bs : Bool) (ba : Option Addr) (bn bc : Nat), i ≤ N ∧ t116 = .int .i64 i ∧ Hid (∀ k, k ≤ i → -57896044618658097711785492504343953926634992332820282019728792003956564819968 ≤ x ^ k ∧ x ^ k < 57896044618658097711785492504343953926634992332820282019728792003956564819968) ∧ IsBig wr (.agg #[.bool bs, .slice ba bn bc]) (x ^ i) ∧
            IsGr ((Gr ((Gr ((Gr W2 os9 d9).alloc (.cells #[.int .u64 0, .int .u64 0, .int .u64 0, .int .u64 0] 24)) (os10 ++ os20) n20).alloc (.cells #[.int .u64 p0, .int .u64 p1, .int .u64 p2, .int .u64 p3] 24)) os21 n21).alloc (.cells #[.bool bs, .slice ba bn bc] 27)) wr) (fun t116 _ => (N - intOf t116).toNat)
        case atStart =>
          refine ⟨0, bs, ba, bn, bc, by omega, rfl, ?_, ?_, IsGr.refl _⟩
          · intro k hk
            obtain rfl : k = 0 := by omega
            simp
          · rw [Int.pow_zero]; exact ho.gr (IsGr.alloc (IsGr.refl _) _)
        case round =>
          obtain ⟨i, bs, ba, bn, bc, hi, rfl, HF, hb, os, d, rfl⟩ := hrel
          have si : Sm (x ^ i) := by have := HF.out i (Nat.le_refl _); unfold Sm; omega
          by_cases hlt : i < N
          · have sp : Sm (x ^ (i + 1)) := by rw [Int.pow_succ]; exact prod_sm (HF.out i (Nat.le_refl _)) hx.2
            have CM := fun w1 v u (h1 : IsBig w1 v (x ^ i)) (h2 : IsBig w1 u x) => BigMul_any v u (x ^ i) x w1 h1 h2 si sx
            rw [← Int.pow_succ] at CM
            go_wp2_with fail
            refine (CM _ _ _ hb (HU _ ?_)).mono ?_
            exact (by with_reducible repeat (first | exact IsGr.refl _ | refine IsGr.gr ?_ _ _ | refine IsGr.alloc ?_ _ | refine IsGr.drew ?_ | refine IsGr.drewN ?_ _))
            rintro e w1 ⟨r, rfl, hr, os22, n22, rfl⟩
            obtain ⟨rs, ra, rn, rc, rfl⟩ := hr.shape
            simp only [Gr.gr] at hr
            have hr2 := IsBig.ret (s' := rs) (a' := ra) (k' := rn) (c' := rc) hr
            by_cases hf : -57896044618658097711785492504343953926634992332820282019728792003956564819968 ≤ x ^ (i + 1) ∧ x ^ (i + 1) < 57896044618658097711785492504343953926634992332820282019728792003956564819968
            · have CF := fun w1 v (h1 : IsBig w1 v (x ^ (i + 1))) => Fits_any v (x ^ (i + 1)) w1 h1 sp
              rw [fits_t hf] at CF
              have HF2 : Hid (∀ k, k ≤ i + 1 → -57896044618658097711785492504343953926634992332820282019728792003956564819968 ≤ x ^ k ∧ x ^ k < 57896044618658097711785492504343953926634992332820282019728792003956564819968) := by
                intro k hk
                by_cases hki : k ≤ i
                · exact HF.out k hki
                · obtain rfl : k = i + 1 := by omega
                  exact hf
              clear hf HF
              go_wp2_with fail
              refine (CF _ _ hr2).mono ?_
              rintro e w1 ⟨rfl, os23, n23, rfl⟩
              go_wp2
              go_roundw
              case rel => exact ⟨i + 1, rs, ra, rn, rc, by omega, by go_num, HF2.out, hr2.gr (by repeat (first | with_reducible exact IsGr.refl _ | (refine ⟨os23, n23, ?_⟩; (try simp only [Gr.of_drew]); (try simp only [Gr.gr]); (try simp only [Array.append_assoc]); (try simp only [Array.append_empty]); (try with_reducible rfl); done) | with_reducible refine IsGr.alloc ?_ _ | with_reducible refine IsGr.gr ?_ _ _ | with_reducible refine IsGr.drew ?_ | with_reducible refine IsGr.drewN ?_ _)), (by with_reducible repeat (first | exact IsGr.refl _ | refine IsGr.gr ?_ _ _ | refine IsGr.alloc ?_ _ | refine IsGr.drew ?_ | refine IsGr.drewN ?_ _))⟩
              case measure => simp [intOf]; omega
            · have CF := fun w1 v (h1 : IsBig w1 v (x ^ (i + 1))) => Fits_any v (x ^ (i + 1)) w1 h1 sp
              rw [fits_f hf] at CF
              have heI := fun w => eqI_t Is.zero Is.zero rfl w
              obtain ⟨rfl, rfl, rfl, rfl, rfl⟩ : ok = false ∧ p0 = 0 ∧ p1 = 0 ∧ p2 = 0 ∧ p3 = 0 := by
                rcases HP.out with ⟨_, h, _⟩ | ⟨h1, h2, _⟩
                · exact absurd (h (i + 1) (by omega)) hf
                · exact ⟨h1, h2⟩
              clear hf HF
              go_wp2_with fail
              refine (CF _ _ hr2).mono ?_
              rintro e w1 ⟨rfl, os23, n23, rfl⟩
              go_wp2_with fail
              refine (CA _).mono ?_
              rintro e w1 ⟨rfl, osa, na, rfl⟩
              go_wp2
              go_ret
              exact ⟨rfl, HG0.out.trans (by with_reducible repeat (first | exact IsGr.refl _ | refine IsGr.gr ?_ _ _ | refine IsGr.alloc ?_ _ | refine IsGr.drew ?_ | refine IsGr.drewN ?_ _))⟩
          · obtain rfl : i = N := by omega
            have hT : Told (x ^ i) p0 p1 p2 p3 ok := by
              rcases HP.out with ⟨h1, _, h2⟩ | ⟨_, _, k, hk, h⟩
              · exact Or.inl ⟨h1, h2⟩
              · exact absurd (HF.out k hk) h
            clear HF HP
            go_wp2_with fail
            refine (told_any hT _ _ hb si).mono ?_
            rintro e w1 ⟨rfl, os24, n24, rfl⟩
            go_wp2_with fail
            refine (CA _).mono ?_
            rintro e w1 ⟨rfl, osa, na, rfl⟩
            go_wp2
            go_ret
            exact ⟨rfl, HG0.out.trans (by with_reducible repeat (first | exact IsGr.refl _ | refine IsGr.gr ?_ _ _ | refine IsGr.alloc ?_ _ | refine IsGr.drew ?_ | refine IsGr.drewN ?_ _))⟩
end Go.Proofs.Ytpdpofgmedoelaa
