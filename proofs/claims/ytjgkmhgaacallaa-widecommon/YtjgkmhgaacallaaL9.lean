/- gromalaw01.WideCommon: for every three Ints the law answers true: the greatest number that divides both is there, and is not 0. -/
import Derived.Test.YtjgkmhgaacallaaL8
import Derived.Test.YtjgkmhgaacallaaG2
namespace Go.Proofs.Ytjgkmhgaacallaa
open Go.RowKit Go.Shelf
attribute [local go_sem] Gr.size Gr.cell? Gr.frozen? Gr.setCell Gr.drew Gr.drewN Gr.of_drew Gr.of_drewN Gr.gr Gr.lt_of1 Gr.le_of1 Gr.lt_of2 Gr.le_of2 Gr.lt_of3 Gr.le_of3 Gr.lt_of4 Gr.le_of4 Gr.lt_of5 Gr.le_of5 Gr.lt_of6 Gr.le_of6 Gr.lt_of7 Gr.le_of7 Gr.lt_of8 Gr.le_of8 Gr.lt_of9 Gr.le_of9 Gr.lt_of10 Gr.le_of10 Gr.lt_of11 Gr.le_of11 Gr.lt_of12 Gr.le_of12 Gr.lt_of13 Gr.le_of13 Gr.lt_of14 Gr.le_of14 Gr.lt_of15 Gr.le_of15 Gr.lt_of16 Gr.le_of16 Gr.lt_of17 Gr.le_of17 Gr.lt_of18 Gr.le_of18 Gr.lt_of19 Gr.le_of19 Gr.lt_of20 Gr.le_of20 Gr.lt_of21 Gr.le_of21 Gr.lt_of22 Gr.le_of22 Gr.lt_of23 Gr.le_of23 Gr.lt_of24 Gr.le_of24

theorem cmp_ne {x : Int} (h : x ≠ 0) : (cmpI x 0 != 0) = true ∧ (cmpI x 0 == 0) = false := by
  unfold cmpI
  by_cases h1 : x < 0
  · simp [h1]
  · simp [h1, h]


set_option maxRecDepth 20000 in set_option maxHeartbeats 8000000 in
theorem common_yes (x0 x1 x2 x3 x y0 y1 y2 y3 y z0 z1 z2 z3 z : Int) (hx : IsI x0 x1 x2 x3 x) (hy : IsI y0 y1 y2 y3 y) (hz : IsI z0 z1 z2 z3 z) (g0 : 0 < gcdI (abs x) (abs y)) (gH : gcdI (abs x) (abs y) < 57896044618658097711785492504343953926634992332820282019728792003956564819968) (w : World) :
    Calls Try.prog 8 #[.agg #[.int .u64 x0, .int .u64 x1, .int .u64 x2, .int .u64 x3], .agg #[.int .u64 y0, .int .u64 y1, .int .u64 y2, .int .u64 y3], .agg #[.int .u64 z0, .int .u64 z1, .int .u64 z2, .int .u64 z3]] w fun e w' => e = .returned (.bool true) ∧ IsGr w w' := by
  have CA := fun w => awake_any w
  have CC := fun w => Common_any x0 x1 x2 x3 x y0 y1 y2 y3 y hx hy w
  have gl := gcdI_l x y
  have gr := gcdI_r x y
  have ga : x.fmod z = 0 → y.fmod z = 0 → (gcdI (abs x) (abs y)).fmod z = 0 := gcdI_all
  generalize gcdI (abs x) (abs y) = G at CC gl gr ga g0 gH
  have HGA : Hid (x.fmod z = 0 → y.fmod z = 0 → G.fmod z = 0) := ga
  have HGL : Hid (x.fmod G = 0 ∧ y.fmod G = 0) := ⟨gl, gr⟩
  have eG : cmpI G 0 = 1 := cmpI_gt g0
  have e0 : cmpI 0 0 = 0 := by decide
  clear ga gl gr
  go_enter Try.func8, Try.ntmps8
  go_wp2_with fail
  refine (CC _).mono ?_
  rintro e w1 ⟨c0, c1, c2, c3, ok, rfl, hT, os1, n1, rfl⟩
  obtain ⟨rfl, hc⟩ := told_of hT (by omega)
  have hec : ∀ w, (Op.equalIn 10000 24 (.agg #[.int .u64 c0, .int .u64 c1, .int .u64 c2, .int .u64 c3]) (.agg #[.int .u64 0, .int .u64 0, .int .u64 0, .int .u64 0])).run Try.prog w = .ok false w := fun w => eqI_f hc.1 Is.zero (by omega) w
  have D1 := fun w => Div_all x0 x1 x2 x3 x c0 c1 c2 c3 G hx hc w
  have D2 := fun w => Div_all y0 y1 y2 y3 y c0 c1 c2 c3 G hy hc w
  have D3 := fun w => Div_all x0 x1 x2 x3 x z0 z1 z2 z3 z hx hz w
  have D4 := fun w => Div_all y0 y1 y2 y3 y z0 z1 z2 z3 z hy hz w
  have D5 := fun w => Div_all c0 c1 c2 c3 G z0 z1 z2 z3 z hc hz w
  have SG := fun w => Sign_any c0 c1 c2 c3 G hc w
  rw [eG] at SG
  clear hT CC
  go_wp2_with fail
  refine (D1 _).mono ?_
  rintro e w1 ⟨q0, q1, q2, q3, r0, r1, r2, r3, ok, rfl, hD, os2, n2, rfl⟩
  obtain ⟨rfl, hr⟩ := div_told hD (by omega) (by omega)
  rw [HGL.out.1] at hr
  have SR := fun w => Sign_any r0 r1 r2 r3 0 hr w
  rw [e0] at SR
  clear hD hr D1
  go_wp2_with fail
  refine (D2 _).mono ?_
  rintro e w1 ⟨q4, q5, q6, q7, s0, s1, s2, s3, ok, rfl, hD, os3, n3, rfl⟩
  obtain ⟨rfl, hs⟩ := div_told hD (by omega) (by omega)
  rw [HGL.out.2] at hs
  have SS := fun w => Sign_any s0 s1 s2 s3 0 hs w
  rw [e0] at SS
  clear hD hs D2
  go_wp2_with fail
  refine (SR _).mono ?_
  rintro e w1 ⟨rfl, os4, n4, rfl⟩
  go_wp2_with fail
  refine (SS _).mono ?_
  rintro e w1 ⟨rfl, os5, n5, rfl⟩
  go_wp2_with fail
  refine (SG _).mono ?_
  rintro e w1 ⟨rfl, os6, n6, rfl⟩
  clear SR SS SG
  go_wp2_with fail
  refine (D3 _).mono ?_
  rintro e w1 ⟨a0, a1, a2, a3, b0, b1, b2, b3, ok3, rfl, hD3, os7, n7, rfl⟩
  go_wp2_with fail
  refine (D4 _).mono ?_
  rintro e w1 ⟨d0, d1, d2, d3, f0, f1, f2, f3, ok4, rfl, hD4, os8, n8, rfl⟩
  clear D3 D4
  rcases hD3 with ⟨rfl, hz0, -, hb⟩ | ⟨rfl, -⟩
  · rcases hD4 with ⟨rfl, -, -, hf⟩ | ⟨rfl, -⟩
    · have SB := fun w => Sign_any b0 b1 b2 b3 _ hb w
      have SF := fun w => Sign_any f0 f1 f2 f3 _ hf w
      by_cases hbz : x.fmod z = 0
      · rw [hbz, e0] at SB
        by_cases hfz : y.fmod z = 0
        · rw [hfz, e0] at SF
          have HGZ : Hid (G.fmod z = 0) := HGA.out hbz hfz
          go_wp2_with fail
          refine (SB _).mono ?_
          rintro e w1 ⟨rfl, os9, n9, rfl⟩
          go_wp2_with fail
          refine (SF _).mono ?_
          rintro e w1 ⟨rfl, os10, n10, rfl⟩
          clear SB SF hb hf
          go_wp2_with fail
          refine (D5 _).mono ?_
          rintro e w1 ⟨k0, k1, k2, k3, t0, t1, t2, t3, ok5, rfl, hD, os11, n11, rfl⟩
          obtain ⟨rfl, ht⟩ := div_told hD hz0 (by omega)
          rw [HGZ.out] at ht
          have ST := fun w => Sign_any t0 t1 t2 t3 0 ht w
          rw [e0] at ST
          clear hD ht D5
          go_wp2_with fail
          refine (ST _).mono ?_
          rintro e w1 ⟨rfl, os12, n12, rfl⟩
          go_wp2_with fail
          refine (CA _).mono ?_
          rintro e w1 ⟨rfl, osa, na, rfl⟩
          go_wp2
          go_ret
          exact ⟨rfl, (by with_reducible repeat (first | exact IsGr.refl _ | refine IsGr.gr ?_ _ _ | refine IsGr.alloc ?_ _ | refine IsGr.drew ?_ | refine IsGr.drewN ?_ _))⟩
        · have hn := cmp_ne hfz
          generalize cmpI (y.fmod z) 0 = K at SF hn
          obtain ⟨hn1, hn2⟩ := hn
          go_wp2_with fail
          refine (SB _).mono ?_
          rintro e w1 ⟨rfl, os9, n9, rfl⟩
          go_wp2_with fail
          refine (SF _).mono ?_
          rintro e w1 ⟨rfl, os10, n10, rfl⟩
          go_wp2_with fail
          refine (CA _).mono ?_
          rintro e w1 ⟨rfl, osa, na, rfl⟩
          go_wp2
          go_ret
          exact ⟨rfl, (by with_reducible repeat (first | exact IsGr.refl _ | refine IsGr.gr ?_ _ _ | refine IsGr.alloc ?_ _ | refine IsGr.drew ?_ | refine IsGr.drewN ?_ _))⟩
      · have hn := cmp_ne hbz
        generalize cmpI (x.fmod z) 0 = K at SB hn
        obtain ⟨hn1, hn2⟩ := hn
        go_wp2_with fail
        refine (SB _).mono ?_
        rintro e w1 ⟨rfl, os9, n9, rfl⟩
        go_wp2_with fail
        refine (CA _).mono ?_
        rintro e w1 ⟨rfl, osa, na, rfl⟩
        go_wp2
        go_ret
        exact ⟨rfl, (by with_reducible repeat (first | exact IsGr.refl _ | refine IsGr.gr ?_ _ _ | refine IsGr.alloc ?_ _ | refine IsGr.drew ?_ | refine IsGr.drewN ?_ _))⟩
    · skip
      go_wp2_with fail
      refine (CA _).mono ?_
      rintro e w1 ⟨rfl, osa, na, rfl⟩
      go_wp2
      go_ret
      exact ⟨rfl, (by with_reducible repeat (first | exact IsGr.refl _ | refine IsGr.gr ?_ _ _ | refine IsGr.alloc ?_ _ | refine IsGr.drew ?_ | refine IsGr.drewN ?_ _))⟩
  · skip
    go_wp2_with fail
    refine (CA _).mono ?_
    rintro e w1 ⟨rfl, osa, na, rfl⟩
    go_wp2
    go_ret
    exact ⟨rfl, (by with_reducible repeat (first | exact IsGr.refl _ | refine IsGr.gr ?_ _ _ | refine IsGr.alloc ?_ _ | refine IsGr.drew ?_ | refine IsGr.drewN ?_ _))⟩

theorem law_common (x0 x1 x2 x3 x y0 y1 y2 y3 y z0 z1 z2 z3 z : Int) (hx : IsI x0 x1 x2 x3 x) (hy : IsI y0 y1 y2 y3 y) (hz : IsI z0 z1 z2 z3 z) (w : World) :
    Calls Try.prog 8 #[.agg #[.int .u64 x0, .int .u64 x1, .int .u64 x2, .int .u64 x3], .agg #[.int .u64 y0, .int .u64 y1, .int .u64 y2, .int .u64 y3], .agg #[.int .u64 z0, .int .u64 z1, .int .u64 z2, .int .u64 z3]] w fun e w' => e = .returned (.bool true) ∧ IsGr w w' := by
  have h0 := gcdI_nonneg x y
  by_cases hg : gcdI (abs x) (abs y) = 0
  · obtain ⟨rfl, rfl⟩ := gcdI_none hg
    exact common_zero x0 x1 x2 x3 y0 y1 y2 y3 z0 z1 z2 z3 hx hy w
  · by_cases hh : gcdI (abs x) (abs y) < 57896044618658097711785492504343953926634992332820282019728792003956564819968
    · exact common_yes x0 x1 x2 x3 x y0 y1 y2 y3 y z0 z1 z2 z3 z hx hy hz (by omega) hh w
    · exact common_no x0 x1 x2 x3 x y0 y1 y2 y3 y z0 z1 z2 z3 hx hy (by omega) w
end Go.Proofs.Ytjgkmhgaacallaa
