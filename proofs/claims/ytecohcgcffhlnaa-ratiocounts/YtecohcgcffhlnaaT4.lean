/- Fractions held against each other, and the fixed answer that each statement of layer 2 asks besides. -/
import Derived.Test.YtecohcgcffhlnaaT3
namespace Go.Proofs.Ytecohcgcffhlnaa
open Go.RowKit Go.Shelf
attribute [local go_sem] Gr.size Gr.cell? Gr.frozen? Gr.setCell Gr.drew Gr.drewN Gr.of_drew Gr.of_drewN Gr.gr Gr.lt_of1 Gr.le_of1 Gr.lt_of2 Gr.le_of2 Gr.lt_of3 Gr.le_of3 Gr.lt_of4 Gr.le_of4 Gr.lt_of5 Gr.le_of5 Gr.lt_of6 Gr.le_of6 Gr.lt_of7 Gr.le_of7 Gr.lt_of8 Gr.le_of8 Gr.lt_of9 Gr.le_of9 Gr.lt_of10 Gr.le_of10 Gr.lt_of11 Gr.le_of11 Gr.lt_of12 Gr.le_of12 Gr.lt_of13 Gr.le_of13 Gr.lt_of14 Gr.le_of14 Gr.lt_of15 Gr.le_of15 Gr.lt_of16 Gr.le_of16 Gr.lt_of17 Gr.le_of17 Gr.lt_of18 Gr.le_of18 Gr.lt_of19 Gr.le_of19 Gr.lt_of20 Gr.le_of20 Gr.lt_of21 Gr.le_of21 Gr.lt_of22 Gr.le_of22 Gr.lt_of23 Gr.le_of23 Gr.lt_of24 Gr.le_of24

theorem eqIf (f : Nat) {a0 a1 a2 a3 a b0 b1 b2 b3 b : Int} (ha : Is a0 a1 a2 a3 a) (hb : Is b0 b1 b2 b3 b) (w : World) : (Op.equalIn (f + 1 + 1) 24 (.agg #[.int .u64 a0, .int .u64 a1, .int .u64 a2, .int .u64 a3]) (.agg #[.int .u64 b0, .int .u64 b1, .int .u64 b2, .int .u64 b3])).run Try.prog w = .ok (decide (a = b)) w := by
  rw [← beq4 ha hb]
  have h22 : ∀ (a b : Int) w, (Op.equalIn (f + 1) 22 (.int .u64 a) (.int .u64 b)).run Try.prog w = .ok (a == b) w := fun a b w => run_equalIn_int w f 22 .u64 .u64 a b Try.underlying22
  rw [Op.equalIn]
  simp only [Sem.run_bind, run_underlying Try.underlying24, Result.andThen_ok]
  simp [go_sem, h22, List.range']
  by_cases h0 : a0 = b0 <;> by_cases h1 : a1 = b1 <;> by_cases h2 : a2 = b2 <;> by_cases h3 : a3 = b3 <;> simp [h0, h1, h2, h3]

theorem eqR {a0 a1 a2 a3 a b0 b1 b2 b3 b c0 c1 c2 c3 c d0 d1 d2 d3 d : Int} (ha : Is a0 a1 a2 a3 a) (hb : Is b0 b1 b2 b3 b) (hc : Is c0 c1 c2 c3 c) (hd : Is d0 d1 d2 d3 d) (w : World) : (Op.equalIn 10000 26 (.agg #[.int .u64 a0, .int .u64 a1, .int .u64 a2, .int .u64 a3, .int .u64 b0, .int .u64 b1, .int .u64 b2, .int .u64 b3]) (.agg #[.int .u64 c0, .int .u64 c1, .int .u64 c2, .int .u64 c3, .int .u64 d0, .int .u64 d1, .int .u64 d2, .int .u64 d3])).run Try.prog w = .ok (decide (a = c) && decide (b = d)) w := by
  show (Op.equalIn (9999 + 1) 26 _ _).run Try.prog w = _
  have h1 := fun w => eqIf 9997 ha hc w
  have h2 := fun w => eqIf 9997 hb hd w
  rw [Op.equalIn]
  simp only [Sem.run_bind, run_underlying Try.underlying26, Result.andThen_ok]
  simp [go_sem, h1, h2]
  by_cases e1 : a = c <;> by_cases e2 : b = d <;> simp [e1, e2]

theorem eqR_t {a0 a1 a2 a3 a b0 b1 b2 b3 b c0 c1 c2 c3 c d0 d1 d2 d3 d : Int} (ha : Is a0 a1 a2 a3 a) (hb : Is b0 b1 b2 b3 b) (hc : Is c0 c1 c2 c3 c) (hd : Is d0 d1 d2 d3 d) (e1 : a = c) (e2 : b = d) (w : World) : (Op.equalIn 10000 26 (.agg #[.int .u64 a0, .int .u64 a1, .int .u64 a2, .int .u64 a3, .int .u64 b0, .int .u64 b1, .int .u64 b2, .int .u64 b3]) (.agg #[.int .u64 c0, .int .u64 c1, .int .u64 c2, .int .u64 c3, .int .u64 d0, .int .u64 d1, .int .u64 d2, .int .u64 d3])).run Try.prog w = .ok true w := by rw [eqR ha hb hc hd]; simp [e1, e2]

set_option maxRecDepth 20000 in set_option maxHeartbeats 8000000 in
theorem awake2_any (w : World) : Calls Try.prog 16 #[] w fun e w' => e = .returned (.bool true) ∧ IsGr w w' := by
  have C6 := fun w => Of_any 6 (by omega) (by omega) w
  have Cm4 := fun w => Of_any (-4) (by omega) (by omega) w
  have Cm2 := fun w => Of_any (-2) (by omega) (by omega) w
  have Cm3 := fun w => Of_any (-3) (by omega) (by omega) w
  have C2 := fun w => Of_any 2 (by omega) (by omega) w
  go_enter Try.func16, Try.ntmps16
  go_wp2_with fail
  refine (C6 _).mono ?_
  rintro e w1 ⟨a0, a1, a2, a3, rfl, ha, os1, n1, rfl⟩
  go_wp2_with fail
  refine (Cm4 _).mono ?_
  rintro e w1 ⟨b0, b1, b2, b3, rfl, hb, os2, n2, rfl⟩
  go_wp2_with fail
  refine (New_any a0 a1 a2 a3 6 b0 b1 b2 b3 (-4) ha hb _).mono ?_
  rintro e w1 ⟨s0, s1, s2, s3, t0, t1, t2, t3, ok, rfl, hN, os3, n3, rfl⟩
  obtain ⟨rfl, hs, ht⟩ : ok = true ∧ IsI s0 s1 s2 s3 (-6) ∧ IsI t0 t1 t2 t3 4 := by
    rcases hN with ⟨h1, _, _, h2⟩ | ⟨_, h, _⟩
    · exact ⟨h1, (h2 (by omega)).1, (h2 (by omega)).2⟩
    · omega
  clear hN ha hb
  go_wp2_with fail
  refine (Floor_any s0 s1 s2 s3 (-6) t0 t1 t2 t3 4 hs ht _).mono ?_
  rintro e w1 ⟨f0, f1, f2, f3, ok, rfl, hF, os4, n4, rfl⟩
  obtain ⟨rfl, hf⟩ := hF.1 (by omega)
  rw [show (-6 : Int).fdiv 4 = -2 by decide] at hf
  clear hF
  go_wp2_with fail
  refine (Reduced_any s0 s1 s2 s3 (-6) t0 t1 t2 t3 4 hs ht _).mono ?_
  rintro e w1 ⟨p0, p1, p2, p3, q0, q1, q2, q3, ok, rfl, hR, os5, n5, rfl⟩
  obtain ⟨rfl, hp, hq⟩ := hR.1 (by omega)
  rw [show (-6 : Int).fdiv (gcdI (abs (-6)) (abs 4)) = -3 by decide] at hp
  rw [show (4 : Int).fdiv (gcdI (abs (-6)) (abs 4)) = 2 by decide] at hq
  have CS := fun w => RSign_any s0 s1 s2 s3 (-6) t0 t1 t2 t3 4 hs ht w
  rw [show (if (0 : Int) < 4 then cmpI (-6) 0 else 0) = -1 by decide] at CS
  have CW := fun w => Whole_any s0 s1 s2 s3 (-6) t0 t1 t2 t3 4 hs ht w
  rw [show (decide ((0 : Int) < 4) && decide ((-6 : Int).fmod 4 = 0)) = false by decide] at CW
  clear hR hs ht C6 Cm4
  have tok1 : True := trivial
  have tok2 : True := trivial
  go_upto_region 4 with fail
  go_region_held3 (fun w' => (w'.cell? ⟨w.heap.size + (os1.size + (os2.size + os3.size)), 0, none⟩ = some (.int .u64 s0) ∧ w'.cell? ⟨w.heap.size + (os1.size + (os2.size + os3.size)), 1, none⟩ = some (.int .u64 s1) ∧ w'.cell? ⟨w.heap.size + (os1.size + (os2.size + os3.size)), 2, none⟩ = some (.int .u64 s2) ∧ w'.cell? ⟨w.heap.size + (os1.size + (os2.size + os3.size)), 3, none⟩ = some (.int .u64 s3) ∧ w'.cell? ⟨w.heap.size + (os1.size + (os2.size + os3.size)), 4, none⟩ = some (.int .u64 t0) ∧ w'.cell? ⟨w.heap.size + (os1.size + (os2.size + os3.size)), 5, none⟩ = some (.int .u64 t1) ∧ w'.cell? ⟨w.heap.size + (os1.size + (os2.size + os3.size)), 6, none⟩ = some (.int .u64 t2) ∧ w'.cell? ⟨w.heap.size + (os1.size + (os2.size + os3.size)), 7, none⟩ = some (.int .u64 t3)) ∧ (w'.cell? ⟨w.heap.size + (os1.size + (os2.size + os3.size)) + 1 + os4.size, 0, none⟩ = some (.int .u64 f0) ∧ w'.cell? ⟨w.heap.size + (os1.size + (os2.size + os3.size)) + 1 + os4.size, 1, none⟩ = some (.int .u64 f1) ∧ w'.cell? ⟨w.heap.size + (os1.size + (os2.size + os3.size)) + 1 + os4.size, 2, none⟩ = some (.int .u64 f2) ∧ w'.cell? ⟨w.heap.size + (os1.size + (os2.size + os3.size)) + 1 + os4.size, 3, none⟩ = some (.int .u64 f3)) ∧ (w'.cell? ⟨w.heap.size + (os1.size + (os2.size + os3.size)) + 1 + os4.size + 1 + os5.size, 0, none⟩ = some (.int .u64 p0) ∧ w'.cell? ⟨w.heap.size + (os1.size + (os2.size + os3.size)) + 1 + os4.size + 1 + os5.size, 1, none⟩ = some (.int .u64 p1) ∧ w'.cell? ⟨w.heap.size + (os1.size + (os2.size + os3.size)) + 1 + os4.size + 1 + os5.size, 2, none⟩ = some (.int .u64 p2) ∧ w'.cell? ⟨w.heap.size + (os1.size + (os2.size + os3.size)) + 1 + os4.size + 1 + os5.size, 3, none⟩ = some (.int .u64 p3) ∧ w'.cell? ⟨w.heap.size + (os1.size + (os2.size + os3.size)) + 1 + os4.size + 1 + os5.size, 4, none⟩ = some (.int .u64 q0) ∧ w'.cell? ⟨w.heap.size + (os1.size + (os2.size + os3.size)) + 1 + os4.size + 1 + os5.size, 5, none⟩ = some (.int .u64 q1) ∧ w'.cell? ⟨w.heap.size + (os1.size + (os2.size + os3.size)) + 1 + os4.size + 1 + os5.size, 6, none⟩ = some (.int .u64 q2) ∧ w'.cell? ⟨w.heap.size + (os1.size + (os2.size + os3.size)) + 1 + os4.size + 1 + os5.size, 7, none⟩ = some (.int .u64 q3))) (simp [go_sem])
    ((first | (go_at_call 19; have _t := tok1; refine (Cm2 _).mono ?_; rintro e w1 ⟨u0, u1, u2, u3, rfl, hu, os7, n7, rfl⟩; have he1 := fun w => eqI_t hf.1 hu.1 rfl w; clear tok1) | (go_at_call 19; have _t := tok2; refine (Cm3 _).mono ?_; rintro e w1 ⟨v0, v1, v2, v3, rfl, hv, os8, n8, rfl⟩; clear tok2) | (go_at_call 19; refine (C2 _).mono ?_; rintro e w1 ⟨z0, z1, z2, z3, rfl, hz, os9, n9, rfl⟩; have he2 := fun w => eqR_t hp.1 hq.1 hv.1 hz.1 rfl rfl w) | (go_at_call 53; refine (CS _).mono ?_; rintro e w1 ⟨rfl, os10, n10, rfl⟩) | (go_at_call 54; refine (CW _).mono ?_; rintro e w1 ⟨rfl, os11, n11, rfl⟩)))
  all_goals
    go_wp2
    go_ret
    exact ⟨rfl, (by with_reducible repeat (first | exact IsGr.refl _ | refine IsGr.gr ?_ _ _ | refine IsGr.alloc ?_ _ | refine IsGr.drew ?_ | refine IsGr.drewN ?_ _))⟩
end Go.Proofs.Ytecohcgcffhlnaa
