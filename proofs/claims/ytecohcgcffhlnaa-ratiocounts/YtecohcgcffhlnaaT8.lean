/- Contracts of package ratio over the loaded program: Add, Mul. -/
import Derived.Test.YtecohcgcffhlnaaT7
namespace Go.Proofs.Ytecohcgcffhlnaa
open Go.RowKit Go.Shelf
attribute [local go_sem] Gr.size Gr.cell? Gr.frozen? Gr.setCell Gr.drew Gr.drewN Gr.of_drew Gr.of_drewN Gr.gr Gr.lt_of1 Gr.le_of1 Gr.lt_of2 Gr.le_of2 Gr.lt_of3 Gr.le_of3 Gr.lt_of4 Gr.le_of4 Gr.lt_of5 Gr.le_of5 Gr.lt_of6 Gr.le_of6 Gr.lt_of7 Gr.le_of7 Gr.lt_of8 Gr.le_of8 Gr.lt_of9 Gr.le_of9 Gr.lt_of10 Gr.le_of10 Gr.lt_of11 Gr.le_of11 Gr.lt_of12 Gr.le_of12 Gr.lt_of13 Gr.le_of13 Gr.lt_of14 Gr.le_of14 Gr.lt_of15 Gr.le_of15 Gr.lt_of16 Gr.le_of16 Gr.lt_of17 Gr.le_of17 Gr.lt_of18 Gr.le_of18 Gr.lt_of19 Gr.le_of19 Gr.lt_of20 Gr.le_of20 Gr.lt_of21 Gr.le_of21 Gr.lt_of22 Gr.le_of22 Gr.lt_of23 Gr.le_of23 Gr.lt_of24 Gr.le_of24

/-- A fraction a over b, if yes; else nothing. -/
def FracT (yes : Prop) (a b s0 s1 s2 s3 t0 t1 t2 t3 : Int) (ok : Bool) : Prop :=
  (ok = true ∧ yes ∧ IsI s0 s1 s2 s3 a ∧ IsI t0 t1 t2 t3 b) ∨ (ok = false ∧ ¬ yes ∧ s0 = 0 ∧ s1 = 0 ∧ s2 = 0 ∧ s3 = 0 ∧ t0 = 0 ∧ t1 = 0 ∧ t2 = 0 ∧ t3 = 0)
theorem FracT.no {yes : Prop} {a b : Int} (h : ¬ yes) : FracT yes a b 0 0 0 0 0 0 0 0 false := Or.inr ⟨rfl, h, rfl, rfl, rfl, rfl, rfl, rfl, rfl, rfl⟩

/-- Has the sum its numbers? -/
def addOk (n d m c : Int) : Prop := crossOk n d m c ∧ (-57896044618658097711785492504343953926634992332820282019728792003956564819968 ≤ n * c + m * d ∧ n * c + m * d < 57896044618658097711785492504343953926634992332820282019728792003956564819968) ∧ (-57896044618658097711785492504343953926634992332820282019728792003956564819968 ≤ d * c ∧ d * c < 57896044618658097711785492504343953926634992332820282019728792003956564819968)
/-- Has the product its numbers? -/
def mulOk (n d m c : Int) : Prop := 0 < d ∧ 0 < c ∧ (-57896044618658097711785492504343953926634992332820282019728792003956564819968 ≤ n * m ∧ n * m < 57896044618658097711785492504343953926634992332820282019728792003956564819968) ∧ (-57896044618658097711785492504343953926634992332820282019728792003956564819968 ≤ d * c ∧ d * c < 57896044618658097711785492504343953926634992332820282019728792003956564819968)


set_option maxRecDepth 20000 in set_option maxHeartbeats 4000000 in
theorem RAdd_any (n0 n1 n2 n3 n d0 d1 d2 d3 d m0 m1 m2 m3 m c0 c1 c2 c3 c : Int) (hn : IsI n0 n1 n2 n3 n) (hd : IsI d0 d1 d2 d3 d) (hm : IsI m0 m1 m2 m3 m) (hc : IsI c0 c1 c2 c3 c) (w : World) :
    Calls Try.prog 20 #[.agg #[.int .u64 n0, .int .u64 n1, .int .u64 n2, .int .u64 n3, .int .u64 d0, .int .u64 d1, .int .u64 d2, .int .u64 d3], .agg #[.int .u64 m0, .int .u64 m1, .int .u64 m2, .int .u64 m3, .int .u64 c0, .int .u64 c1, .int .u64 c2, .int .u64 c3]] w fun e w' => ∃ (s0 s1 s2 s3 t0 t1 t2 t3 : Int) (ok : Bool), e = .returned (.tuple #[.agg #[.int .u64 s0, .int .u64 s1, .int .u64 s2, .int .u64 s3, .int .u64 t0, .int .u64 t1, .int .u64 t2, .int .u64 t3], .bool ok]) ∧ FracT (addOk n d m c) (n * c + m * d) (d * c) s0 s1 s2 s3 t0 t1 t2 t3 ok ∧ IsGr w w' := by
  have CC := fun w => crossed_any n0 n1 n2 n3 n d0 d1 d2 d3 d m0 m1 m2 m3 m c0 c1 c2 c3 c hn hd hm hc w
  have CM := fun w => Mul_any d0 d1 d2 d3 d c0 c1 c2 c3 c hd hc w
  clear hn hd hm hc
  go_enter Try.func20, Try.ntmps20
  go_wp2_with fail
  refine (CC _).mono ?_
  rintro e w1 ⟨p0, p1, p2, p3, q0, q1, q2, q3, ok, rfl, hT, os1, k1, rfl⟩
  rcases hT with ⟨rfl, hk, hp, hq⟩ | ⟨rfl, hk⟩
  · have HK : Hid (crossOk n d m c) := hk
    have CA := fun w => Add_any p0 p1 p2 p3 _ q0 q1 q2 q3 _ hp hq w
    clear hk hp hq CC
    go_wp2_with fail
    refine (CA _).mono ?_
    rintro e w1 ⟨s0, s1, s2, s3, o1, rfl, T1, os2, k2, rfl⟩
    go_wp2_with fail
    refine (CM _).mono ?_
    rintro e w1 ⟨t0, t1, t2, t3, o2, rfl, T2, os3, k3, rfl⟩
    rcases T1 with ⟨rfl, a⟩ | ⟨rfl, a, rfl, rfl, rfl, rfl⟩
    · rcases T2 with ⟨rfl, b⟩ | ⟨rfl, b, rfl, rfl, rfl, rfl⟩
      · have hF := (show FracT (addOk n d m c) (n * c + m * d) (d * c) s0 s1 s2 s3 t0 t1 t2 t3 true from Or.inl ⟨rfl, ⟨HK.out, a.2, b.2⟩, a, b⟩)
        have CT := fun w => rtold_t s0 s1 s2 s3 t0 t1 t2 t3 w
        clear a b
        go_wp2_with fail
        refine (CT _).mono ?_
        rintro e w1 ⟨rfl, os9, k9, rfl⟩
        go_wp2
        exact bodyPost_ret (v := .tuple #[.agg #[.int .u64 s0, .int .u64 s1, .int .u64 s2, .int .u64 s3, .int .u64 t0, .int .u64 t1, .int .u64 t2, .int .u64 t3], .bool true]) (by simp [results, Try.results20, go_sem]) rfl ⟨s0, s1, s2, s3, t0, t1, t2, t3, true, rfl, hF, (by with_reducible repeat (first | exact IsGr.refl _ | refine IsGr.gr ?_ _ _ | refine IsGr.alloc ?_ _ | refine IsGr.drew ?_ | refine IsGr.drewN ?_ _))⟩
      · have hF := (FracT.no (fun k => b k.2.2) : FracT (addOk n d m c) (n * c + m * d) (d * c) 0 0 0 0 0 0 0 0 false)
        have CT := fun w => rtold_f s0 s1 s2 s3 0 0 0 0 w
        clear a b
        go_wp2_with fail
        refine (CT _).mono ?_
        rintro e w1 ⟨rfl, os9, k9, rfl⟩
        go_wp2
        exact bodyPost_ret (v := .tuple #[.agg #[.int .u64 0, .int .u64 0, .int .u64 0, .int .u64 0, .int .u64 0, .int .u64 0, .int .u64 0, .int .u64 0], .bool false]) (by simp [results, Try.results20, go_sem]) rfl ⟨0, 0, 0, 0, 0, 0, 0, 0, false, rfl, hF, (by with_reducible repeat (first | exact IsGr.refl _ | refine IsGr.gr ?_ _ _ | refine IsGr.alloc ?_ _ | refine IsGr.drew ?_ | refine IsGr.drewN ?_ _))⟩
    · have hF := (FracT.no (fun k => a k.2.1) : FracT (addOk n d m c) (n * c + m * d) (d * c) 0 0 0 0 0 0 0 0 false)
      have CT := fun w => rtold_f 0 0 0 0 t0 t1 t2 t3 w
      clear a T2
      go_wp2_with fail
      refine (CT _).mono ?_
      rintro e w1 ⟨rfl, os9, k9, rfl⟩
      go_wp2
      exact bodyPost_ret (v := .tuple #[.agg #[.int .u64 0, .int .u64 0, .int .u64 0, .int .u64 0, .int .u64 0, .int .u64 0, .int .u64 0, .int .u64 0], .bool false]) (by simp [results, Try.results20, go_sem]) rfl ⟨0, 0, 0, 0, 0, 0, 0, 0, false, rfl, hF, (by with_reducible repeat (first | exact IsGr.refl _ | refine IsGr.gr ?_ _ _ | refine IsGr.alloc ?_ _ | refine IsGr.drew ?_ | refine IsGr.drewN ?_ _))⟩
  · have hF := (FracT.no (fun k => hk k.1) : FracT (addOk n d m c) (n * c + m * d) (d * c) 0 0 0 0 0 0 0 0 false)
    clear hk
    go_wp2
    exact bodyPost_ret (v := .tuple #[.agg #[.int .u64 0, .int .u64 0, .int .u64 0, .int .u64 0, .int .u64 0, .int .u64 0, .int .u64 0, .int .u64 0], .bool false]) (by simp [results, Try.results20, go_sem]) rfl ⟨0, 0, 0, 0, 0, 0, 0, 0, false, rfl, hF, (by with_reducible repeat (first | exact IsGr.refl _ | refine IsGr.gr ?_ _ _ | refine IsGr.alloc ?_ _ | refine IsGr.drew ?_ | refine IsGr.drewN ?_ _))⟩

set_option maxRecDepth 20000 in set_option maxHeartbeats 4000000 in
theorem RMul_any (n0 n1 n2 n3 n d0 d1 d2 d3 d m0 m1 m2 m3 m c0 c1 c2 c3 c : Int) (hn : IsI n0 n1 n2 n3 n) (hd : IsI d0 d1 d2 d3 d) (hm : IsI m0 m1 m2 m3 m) (hc : IsI c0 c1 c2 c3 c) (w : World) :
    Calls Try.prog 21 #[.agg #[.int .u64 n0, .int .u64 n1, .int .u64 n2, .int .u64 n3, .int .u64 d0, .int .u64 d1, .int .u64 d2, .int .u64 d3], .agg #[.int .u64 m0, .int .u64 m1, .int .u64 m2, .int .u64 m3, .int .u64 c0, .int .u64 c1, .int .u64 c2, .int .u64 c3]] w fun e w' => ∃ (s0 s1 s2 s3 t0 t1 t2 t3 : Int) (ok : Bool), e = .returned (.tuple #[.agg #[.int .u64 s0, .int .u64 s1, .int .u64 s2, .int .u64 s3, .int .u64 t0, .int .u64 t1, .int .u64 t2, .int .u64 t3], .bool ok]) ∧ FracT (mulOk n d m c) (n * m) (d * c) s0 s1 s2 s3 t0 t1 t2 t3 ok ∧ IsGr w w' := by
  have R1 := fun w => Right_any n0 n1 n2 n3 d0 d1 d2 d3 d hd w
  have R2 := fun w => Right_any m0 m1 m2 m3 c0 c1 c2 c3 c hc w
  have CA := fun w => Mul_any n0 n1 n2 n3 n m0 m1 m2 m3 m hn hm w
  have CM := fun w => Mul_any d0 d1 d2 d3 d c0 c1 c2 c3 c hd hc w
  clear hn hd hm hc
  by_cases h1 : 0 < d
  · rw [show decide (0 < d) = true by simp [h1]] at R1
    by_cases h2 : 0 < c
    · rw [show decide (0 < c) = true by simp [h2]] at R2
      have HK : Hid (0 < d ∧ 0 < c) := ⟨h1, h2⟩
      clear h1 h2
      go_enter Try.func21, Try.ntmps21
      go_wp2_with fail
      refine (R1 _).mono ?_
      rintro e w1 ⟨rfl, os1, k1, rfl⟩
      go_wp2_with fail
      refine (R2 _).mono ?_
      rintro e w1 ⟨rfl, os2, k2, rfl⟩
      go_wp2_with fail
      refine (CA _).mono ?_
      rintro e w1 ⟨s0, s1, s2, s3, o1, rfl, T1, os3, k3, rfl⟩
      go_wp2_with fail
      refine (CM _).mono ?_
      rintro e w1 ⟨t0, t1, t2, t3, o2, rfl, T2, os4, k4, rfl⟩
      rcases T1 with ⟨rfl, a⟩ | ⟨rfl, a, rfl, rfl, rfl, rfl⟩
      · rcases T2 with ⟨rfl, b⟩ | ⟨rfl, b, rfl, rfl, rfl, rfl⟩
        · have hF := (show FracT (mulOk n d m c) (n * m) (d * c) s0 s1 s2 s3 t0 t1 t2 t3 true from Or.inl ⟨rfl, ⟨HK.out.1, HK.out.2, a.2, b.2⟩, a, b⟩)
          have CT := fun w => rtold_t s0 s1 s2 s3 t0 t1 t2 t3 w
          clear a b
          go_wp2_with fail
          refine (CT _).mono ?_
          rintro e w1 ⟨rfl, os9, k9, rfl⟩
          go_wp2
          exact bodyPost_ret (v := .tuple #[.agg #[.int .u64 s0, .int .u64 s1, .int .u64 s2, .int .u64 s3, .int .u64 t0, .int .u64 t1, .int .u64 t2, .int .u64 t3], .bool true]) (by simp [results, Try.results21, go_sem]) rfl ⟨s0, s1, s2, s3, t0, t1, t2, t3, true, rfl, hF, (by with_reducible repeat (first | exact IsGr.refl _ | refine IsGr.gr ?_ _ _ | refine IsGr.alloc ?_ _ | refine IsGr.drew ?_ | refine IsGr.drewN ?_ _))⟩
        · have hF := (FracT.no (fun k => b k.2.2.2) : FracT (mulOk n d m c) (n * m) (d * c) 0 0 0 0 0 0 0 0 false)
          have CT := fun w => rtold_f s0 s1 s2 s3 0 0 0 0 w
          clear a b
          go_wp2_with fail
          refine (CT _).mono ?_
          rintro e w1 ⟨rfl, os9, k9, rfl⟩
          go_wp2
          exact bodyPost_ret (v := .tuple #[.agg #[.int .u64 0, .int .u64 0, .int .u64 0, .int .u64 0, .int .u64 0, .int .u64 0, .int .u64 0, .int .u64 0], .bool false]) (by simp [results, Try.results21, go_sem]) rfl ⟨0, 0, 0, 0, 0, 0, 0, 0, false, rfl, hF, (by with_reducible repeat (first | exact IsGr.refl _ | refine IsGr.gr ?_ _ _ | refine IsGr.alloc ?_ _ | refine IsGr.drew ?_ | refine IsGr.drewN ?_ _))⟩
      · have hF := (FracT.no (fun k => a k.2.2.1) : FracT (mulOk n d m c) (n * m) (d * c) 0 0 0 0 0 0 0 0 false)
        have CT := fun w => rtold_f 0 0 0 0 t0 t1 t2 t3 w
        clear a T2
        go_wp2_with fail
        refine (CT _).mono ?_
        rintro e w1 ⟨rfl, os9, k9, rfl⟩
        go_wp2
        exact bodyPost_ret (v := .tuple #[.agg #[.int .u64 0, .int .u64 0, .int .u64 0, .int .u64 0, .int .u64 0, .int .u64 0, .int .u64 0, .int .u64 0], .bool false]) (by simp [results, Try.results21, go_sem]) rfl ⟨0, 0, 0, 0, 0, 0, 0, 0, false, rfl, hF, (by with_reducible repeat (first | exact IsGr.refl _ | refine IsGr.gr ?_ _ _ | refine IsGr.alloc ?_ _ | refine IsGr.drew ?_ | refine IsGr.drewN ?_ _))⟩
    · rw [show decide (0 < c) = false by simp; omega] at R2
      have hF := (FracT.no (fun k => h2 k.2.1) : FracT (mulOk n d m c) (n * m) (d * c) 0 0 0 0 0 0 0 0 false)
      clear h1 h2
      go_enter Try.func21, Try.ntmps21
      go_wp2_with fail
      refine (R1 _).mono ?_
      rintro e w1 ⟨rfl, os1, k1, rfl⟩
      go_wp2_with fail
      refine (R2 _).mono ?_
      rintro e w1 ⟨rfl, os2, k2, rfl⟩
      go_wp2
      exact bodyPost_ret (v := .tuple #[.agg #[.int .u64 0, .int .u64 0, .int .u64 0, .int .u64 0, .int .u64 0, .int .u64 0, .int .u64 0, .int .u64 0], .bool false]) (by simp [results, Try.results21, go_sem]) rfl ⟨0, 0, 0, 0, 0, 0, 0, 0, false, rfl, hF, (by with_reducible repeat (first | exact IsGr.refl _ | refine IsGr.gr ?_ _ _ | refine IsGr.alloc ?_ _ | refine IsGr.drew ?_ | refine IsGr.drewN ?_ _))⟩
  · rw [show decide (0 < d) = false by simp; omega] at R1
    have hF := (FracT.no (fun k => h1 k.1) : FracT (mulOk n d m c) (n * m) (d * c) 0 0 0 0 0 0 0 0 false)
    clear h1
    go_enter Try.func21, Try.ntmps21
    go_wp2_with fail
    refine (R1 _).mono ?_
    rintro e w1 ⟨rfl, os1, k1, rfl⟩
    go_wp2
    exact bodyPost_ret (v := .tuple #[.agg #[.int .u64 0, .int .u64 0, .int .u64 0, .int .u64 0, .int .u64 0, .int .u64 0, .int .u64 0, .int .u64 0], .bool false]) (by simp [results, Try.results21, go_sem]) rfl ⟨0, 0, 0, 0, 0, 0, 0, 0, false, rfl, hF, (by with_reducible repeat (first | exact IsGr.refl _ | refine IsGr.gr ?_ _ _ | refine IsGr.alloc ?_ _ | refine IsGr.drew ?_ | refine IsGr.drewN ?_ _))⟩
end Go.Proofs.Ytecohcgcffhlnaa
