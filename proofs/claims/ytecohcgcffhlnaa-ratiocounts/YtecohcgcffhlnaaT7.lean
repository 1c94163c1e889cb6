/- Contracts of package ratio over the loaded program: crossed, Cmp. -/
import Derived.Test.YtecohcgcffhlnaaT2
namespace Go.Proofs.Ytecohcgcffhlnaa
open Go.RowKit Go.Shelf
attribute [local go_sem] Gr.size Gr.cell? Gr.frozen? Gr.setCell Gr.drew Gr.drewN Gr.of_drew Gr.of_drewN Gr.gr Gr.lt_of1 Gr.le_of1 Gr.lt_of2 Gr.le_of2 Gr.lt_of3 Gr.le_of3 Gr.lt_of4 Gr.le_of4 Gr.lt_of5 Gr.le_of5 Gr.lt_of6 Gr.le_of6 Gr.lt_of7 Gr.le_of7 Gr.lt_of8 Gr.le_of8 Gr.lt_of9 Gr.le_of9 Gr.lt_of10 Gr.le_of10 Gr.lt_of11 Gr.le_of11 Gr.lt_of12 Gr.le_of12 Gr.lt_of13 Gr.le_of13 Gr.lt_of14 Gr.le_of14 Gr.lt_of15 Gr.le_of15 Gr.lt_of16 Gr.le_of16 Gr.lt_of17 Gr.le_of17 Gr.lt_of18 Gr.le_of18 Gr.lt_of19 Gr.le_of19 Gr.lt_of20 Gr.le_of20 Gr.lt_of21 Gr.le_of21 Gr.lt_of22 Gr.le_of22 Gr.lt_of23 Gr.le_of23 Gr.lt_of24 Gr.le_of24

/-- Do both fractions stand over one denominator? -/
def crossOk (n d m c : Int) : Prop := 0 < d ∧ 0 < c ∧ (-57896044618658097711785492504343953926634992332820282019728792003956564819968 ≤ n * c ∧ n * c < 57896044618658097711785492504343953926634992332820282019728792003956564819968) ∧ (-57896044618658097711785492504343953926634992332820282019728792003956564819968 ≤ m * d ∧ m * d < 57896044618658097711785492504343953926634992332820282019728792003956564819968)
/-- What crossed answers. -/
def CrT (n d m c s0 s1 s2 s3 t0 t1 t2 t3 : Int) (ok : Bool) : Prop :=
  (ok = true ∧ crossOk n d m c ∧ IsI s0 s1 s2 s3 (n * c) ∧ IsI t0 t1 t2 t3 (m * d)) ∨ (ok = false ∧ ¬ crossOk n d m c)

set_option maxRecDepth 20000 in set_option maxHeartbeats 4000000 in
theorem crossed_any (n0 n1 n2 n3 n d0 d1 d2 d3 d m0 m1 m2 m3 m c0 c1 c2 c3 c : Int) (hn : IsI n0 n1 n2 n3 n) (hd : IsI d0 d1 d2 d3 d) (hm : IsI m0 m1 m2 m3 m) (hc : IsI c0 c1 c2 c3 c) (w : World) :
    Calls Try.prog 55 #[.agg #[.int .u64 n0, .int .u64 n1, .int .u64 n2, .int .u64 n3, .int .u64 d0, .int .u64 d1, .int .u64 d2, .int .u64 d3], .agg #[.int .u64 m0, .int .u64 m1, .int .u64 m2, .int .u64 m3, .int .u64 c0, .int .u64 c1, .int .u64 c2, .int .u64 c3]] w fun e w' => ∃ (s0 s1 s2 s3 t0 t1 t2 t3 : Int) (ok : Bool), e = .returned (.tuple #[.agg #[.int .u64 s0, .int .u64 s1, .int .u64 s2, .int .u64 s3], .agg #[.int .u64 t0, .int .u64 t1, .int .u64 t2, .int .u64 t3], .bool ok]) ∧ CrT n d m c s0 s1 s2 s3 t0 t1 t2 t3 ok ∧ IsGr w w' := by
  have R1 := fun w => Right_any n0 n1 n2 n3 d0 d1 d2 d3 d hd w
  have R2 := fun w => Right_any m0 m1 m2 m3 c0 c1 c2 c3 c hc w
  by_cases h1 : 0 < d
  · rw [show decide (0 < d) = true by simp [h1]] at R1
    by_cases h2 : 0 < c
    · rw [show decide (0 < c) = true by simp [h2]] at R2
      have M1 := fun w => Mul_any n0 n1 n2 n3 n c0 c1 c2 c3 c hn hc w
      have M2 := fun w => Mul_any m0 m1 m2 m3 m d0 d1 d2 d3 d hm hd w
      have HP : Hid (0 < d ∧ 0 < c) := ⟨h1, h2⟩
      clear h1 h2 hn hd hm hc
      go_enter Try.func55, Try.ntmps55
      go_wp2_with fail
      refine (R1 _).mono ?_
      rintro e w1 ⟨rfl, os1, k1, rfl⟩
      go_wp2_with fail
      refine (R2 _).mono ?_
      rintro e w1 ⟨rfl, os2, k2, rfl⟩
      go_wp2_with fail
      refine (M1 _).mono ?_
      rintro e w1 ⟨s0, s1, s2, s3, o1, rfl, T1, os3, k3, rfl⟩
      go_wp2_with fail
      refine (M2 _).mono ?_
      rintro e w1 ⟨t0, t1, t2, t3, o2, rfl, T2, os4, k4, rfl⟩
      have hT : CrT n d m c s0 s1 s2 s3 t0 t1 t2 t3 (o1 && o2) := by
        have hp := HP.out
        rcases T1 with ⟨rfl, a⟩ | ⟨rfl, a, _⟩
        · rcases T2 with ⟨rfl, b⟩ | ⟨rfl, b, _⟩
          · exact Or.inl ⟨rfl, ⟨hp.1, hp.2, a.2, b.2⟩, a, b⟩
          · exact Or.inr ⟨rfl, fun k => b k.2.2.2⟩
        · exact Or.inr ⟨rfl, fun k => a k.2.2.1⟩
      clear T1 T2
      cases o1 with
      | true =>
        rw [Bool.true_and] at hT
        go_wp2
        go_region
        all_goals
          go_wp2
          exact bodyPost_ret (v := .tuple #[.agg #[.int .u64 s0, .int .u64 s1, .int .u64 s2, .int .u64 s3], .agg #[.int .u64 t0, .int .u64 t1, .int .u64 t2, .int .u64 t3], .bool o2]) (by simp [results, Try.results55, go_sem]) rfl ⟨s0, s1, s2, s3, t0, t1, t2, t3, o2, rfl, hT, (by with_reducible repeat (first | exact IsGr.refl _ | refine IsGr.gr ?_ _ _ | refine IsGr.alloc ?_ _ | refine IsGr.drew ?_ | refine IsGr.drewN ?_ _))⟩
      | false =>
        rw [Bool.false_and] at hT
        go_wp2
        go_region
        all_goals
          go_wp2
          exact bodyPost_ret (v := .tuple #[.agg #[.int .u64 s0, .int .u64 s1, .int .u64 s2, .int .u64 s3], .agg #[.int .u64 t0, .int .u64 t1, .int .u64 t2, .int .u64 t3], .bool false]) (by simp [results, Try.results55, go_sem]) rfl ⟨s0, s1, s2, s3, t0, t1, t2, t3, false, rfl, hT, (by with_reducible repeat (first | exact IsGr.refl _ | refine IsGr.gr ?_ _ _ | refine IsGr.alloc ?_ _ | refine IsGr.drew ?_ | refine IsGr.drewN ?_ _))⟩
    · rw [show decide (0 < c) = false by simp; omega] at R2
      have hT : CrT n d m c 0 0 0 0 0 0 0 0 false := Or.inr ⟨rfl, fun k => h2 k.2.1⟩
      clear h1 h2 hn hd hm hc
      go_enter Try.func55, Try.ntmps55
      go_wp2_with fail
      refine (R1 _).mono ?_
      rintro e w1 ⟨rfl, os1, k1, rfl⟩
      go_wp2_with fail
      refine (R2 _).mono ?_
      rintro e w1 ⟨rfl, os2, k2, rfl⟩
      go_wp2
      exact bodyPost_ret (v := .tuple #[.agg #[.int .u64 0, .int .u64 0, .int .u64 0, .int .u64 0], .agg #[.int .u64 0, .int .u64 0, .int .u64 0, .int .u64 0], .bool false]) (by simp [results, Try.results55, go_sem]) rfl ⟨0, 0, 0, 0, 0, 0, 0, 0, false, rfl, hT, (by with_reducible repeat (first | exact IsGr.refl _ | refine IsGr.gr ?_ _ _ | refine IsGr.alloc ?_ _ | refine IsGr.drew ?_ | refine IsGr.drewN ?_ _))⟩
  · rw [show decide (0 < d) = false by simp; omega] at R1
    have hT : CrT n d m c 0 0 0 0 0 0 0 0 false := Or.inr ⟨rfl, fun k => h1 k.1⟩
    clear h1 hn hd hm hc
    go_enter Try.func55, Try.ntmps55
    go_wp2_with fail
    refine (R1 _).mono ?_
    rintro e w1 ⟨rfl, os1, k1, rfl⟩
    go_wp2
    exact bodyPost_ret (v := .tuple #[.agg #[.int .u64 0, .int .u64 0, .int .u64 0, .int .u64 0], .agg #[.int .u64 0, .int .u64 0, .int .u64 0, .int .u64 0], .bool false]) (by simp [results, Try.results55, go_sem]) rfl ⟨0, 0, 0, 0, 0, 0, 0, 0, false, rfl, hT, (by with_reducible repeat (first | exact IsGr.refl _ | refine IsGr.gr ?_ _ _ | refine IsGr.alloc ?_ _ | refine IsGr.drew ?_ | refine IsGr.drewN ?_ _))⟩

/-- What Cmp answers. -/
def RCmpT (n d m c r : Int) (ok : Bool) : Prop := (ok = true ∧ crossOk n d m c ∧ r = cmpI (n * c) (m * d)) ∨ (ok = false ∧ ¬ crossOk n d m c ∧ r = 0)

end Go.Proofs.Ytecohcgcffhlnaa
