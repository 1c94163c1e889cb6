/- Contracts of package ratio over the loaded program: New, crossed, Cmp. -/
import Derived.Test.YtecohcgcffhlnaaT1
import Derived.Deep.DeepCutAuto
namespace Go.Proofs.Ytecohcgcffhlnaa
open Go.RowKit Go.Shelf
attribute [local go_sem] Gr.size Gr.cell? Gr.frozen? Gr.setCell Gr.drew Gr.drewN Gr.of_drew Gr.of_drewN Gr.gr Gr.lt_of1 Gr.le_of1 Gr.lt_of2 Gr.le_of2 Gr.lt_of3 Gr.le_of3 Gr.lt_of4 Gr.le_of4 Gr.lt_of5 Gr.le_of5 Gr.lt_of6 Gr.le_of6 Gr.lt_of7 Gr.le_of7 Gr.lt_of8 Gr.le_of8 Gr.lt_of9 Gr.le_of9 Gr.lt_of10 Gr.le_of10 Gr.lt_of11 Gr.le_of11 Gr.lt_of12 Gr.le_of12 Gr.lt_of13 Gr.le_of13 Gr.lt_of14 Gr.le_of14 Gr.lt_of15 Gr.le_of15 Gr.lt_of16 Gr.le_of16 Gr.lt_of17 Gr.le_of17 Gr.lt_of18 Gr.le_of18 Gr.lt_of19 Gr.le_of19 Gr.lt_of20 Gr.le_of20 Gr.lt_of21 Gr.le_of21 Gr.lt_of22 Gr.le_of22 Gr.lt_of23 Gr.le_of23 Gr.lt_of24 Gr.le_of24

/-- What New answers. -/
def NewT (n d s0 s1 s2 s3 t0 t1 t2 t3 : Int) (ok : Bool) : Prop :=
  (ok = true ∧ d ≠ 0 ∧ (0 < d → IsI s0 s1 s2 s3 n ∧ IsI t0 t1 t2 t3 d) ∧ (d < 0 → IsI s0 s1 s2 s3 (0 - n) ∧ IsI t0 t1 t2 t3 (0 - d))) ∨
  (ok = false ∧ (d = 0 ∨ d < 0 ∧ (n = -57896044618658097711785492504343953926634992332820282019728792003956564819968 ∨ d = -57896044618658097711785492504343953926634992332820282019728792003956564819968)) ∧ s0 = 0 ∧ s1 = 0 ∧ s2 = 0 ∧ s3 = 0 ∧ t0 = 0 ∧ t1 = 0 ∧ t2 = 0 ∧ t3 = 0)

set_option maxHeartbeats 4000000 in
theorem New_pos (n0 n1 n2 n3 n d0 d1 d2 d3 d : Int) (hn : IsI n0 n1 n2 n3 n) (hd : IsI d0 d1 d2 d3 d) (h : 0 ≤ d) (w : World) :
    Calls Try.prog 10 #[.agg #[.int .u64 n0, .int .u64 n1, .int .u64 n2, .int .u64 n3], .agg #[.int .u64 d0, .int .u64 d1, .int .u64 d2, .int .u64 d3]] w fun e w' => ∃ (s0 s1 s2 s3 t0 t1 t2 t3 : Int) (ok : Bool), e = .returned (.tuple #[.agg #[.int .u64 s0, .int .u64 s1, .int .u64 s2, .int .u64 s3, .int .u64 t0, .int .u64 t1, .int .u64 t2, .int .u64 t3], .bool ok]) ∧ NewT n d s0 s1 s2 s3 t0 t1 t2 t3 ok ∧ IsGr w w' := by
  have CS := fun w => Sign_any d0 d1 d2 d3 d hd w
  obtain ⟨K, hK, hK2⟩ : ∃ K, cmpI d 0 = K ∧ 0 ≤ K := by
    refine ⟨_, rfl, ?_⟩
    unfold cmpI
    rw [if_neg (by omega)]
    split <;> decide
  rw [hK] at CS
  clear hK
  by_cases hz : d = 0
  · have he : ∀ w, (Op.equalIn 10000 24 (.agg #[.int .u64 d0, .int .u64 d1, .int .u64 d2, .int .u64 d3]) (.agg #[.int .u64 0, .int .u64 0, .int .u64 0, .int .u64 0])).run Try.prog w = .ok true w := fun w => eqI_t hd.1 Is.zero (by omega) w
    have CT := fun w => rtold_f n0 n1 n2 n3 d0 d1 d2 d3 w
    have hN : NewT n d 0 0 0 0 0 0 0 0 false := Or.inr ⟨rfl, Or.inl hz, rfl, rfl, rfl, rfl, rfl, rfl, rfl, rfl⟩
    clear hz h hn hd
    go_enter Try.func10, Try.ntmps10
    go_wp2_with fail
    refine (CS _).mono ?_
    rintro e w1 ⟨rfl, os1, m1, rfl⟩
    go_wp2
    go_region_held3 (fun w' => (w'.cell? ⟨w.heap.size, 0, none⟩ = some (.int .u64 n0) ∧ w'.cell? ⟨w.heap.size, 1, none⟩ = some (.int .u64 n1) ∧ w'.cell? ⟨w.heap.size, 2, none⟩ = some (.int .u64 n2) ∧ w'.cell? ⟨w.heap.size, 3, none⟩ = some (.int .u64 n3)) ∧ (w'.cell? ⟨w.heap.size + 1, 0, none⟩ = some (.int .u64 d0) ∧ w'.cell? ⟨w.heap.size + 1, 1, none⟩ = some (.int .u64 d1) ∧ w'.cell? ⟨w.heap.size + 1, 2, none⟩ = some (.int .u64 d2) ∧ w'.cell? ⟨w.heap.size + 1, 3, none⟩ = some (.int .u64 d3))) (simp [go_sem])
      ((first | (go_at_call 46; refine (CT _).mono ?_; rintro e w1 ⟨rfl, os2, m2, rfl⟩)))
    all_goals
      go_wp2
      exact bodyPost_ret (v := .tuple #[.agg #[.int .u64 0, .int .u64 0, .int .u64 0, .int .u64 0, .int .u64 0, .int .u64 0, .int .u64 0, .int .u64 0], .bool false]) (by simp [results, Try.results10, go_sem]) rfl ⟨0, 0, 0, 0, 0, 0, 0, 0, false, rfl, hN, (by with_reducible repeat (first | exact IsGr.refl _ | refine IsGr.gr ?_ _ _ | refine IsGr.alloc ?_ _ | refine IsGr.drew ?_ | refine IsGr.drewN ?_ _))⟩
  · have he : ∀ w, (Op.equalIn 10000 24 (.agg #[.int .u64 d0, .int .u64 d1, .int .u64 d2, .int .u64 d3]) (.agg #[.int .u64 0, .int .u64 0, .int .u64 0, .int .u64 0])).run Try.prog w = .ok false w := fun w => by
      have := hd.2; exact eqI_f hd.1 Is.zero (by omega) w
    have CT := fun w => rtold_t n0 n1 n2 n3 d0 d1 d2 d3 w
    have hN : NewT n d n0 n1 n2 n3 d0 d1 d2 d3 true := Or.inl ⟨rfl, hz, fun _ => ⟨hn, hd⟩, fun h2 => by omega⟩
    clear hz h hn hd
    go_enter Try.func10, Try.ntmps10
    go_wp2_with fail
    refine (CS _).mono ?_
    rintro e w1 ⟨rfl, os1, m1, rfl⟩
    go_wp2
    go_region_held3 (fun w' => (w'.cell? ⟨w.heap.size, 0, none⟩ = some (.int .u64 n0) ∧ w'.cell? ⟨w.heap.size, 1, none⟩ = some (.int .u64 n1) ∧ w'.cell? ⟨w.heap.size, 2, none⟩ = some (.int .u64 n2) ∧ w'.cell? ⟨w.heap.size, 3, none⟩ = some (.int .u64 n3)) ∧ (w'.cell? ⟨w.heap.size + 1, 0, none⟩ = some (.int .u64 d0) ∧ w'.cell? ⟨w.heap.size + 1, 1, none⟩ = some (.int .u64 d1) ∧ w'.cell? ⟨w.heap.size + 1, 2, none⟩ = some (.int .u64 d2) ∧ w'.cell? ⟨w.heap.size + 1, 3, none⟩ = some (.int .u64 d3))) (simp [go_sem])
      ((first | (go_at_call 46; refine (CT _).mono ?_; rintro e w1 ⟨rfl, os2, m2, rfl⟩)))
    all_goals
      go_wp2
      exact bodyPost_ret (v := .tuple #[.agg #[.int .u64 n0, .int .u64 n1, .int .u64 n2, .int .u64 n3, .int .u64 d0, .int .u64 d1, .int .u64 d2, .int .u64 d3], .bool true]) (by simp [results, Try.results10, go_sem]) rfl ⟨n0, n1, n2, n3, d0, d1, d2, d3, true, rfl, hN, (by with_reducible repeat (first | exact IsGr.refl _ | refine IsGr.gr ?_ _ _ | refine IsGr.alloc ?_ _ | refine IsGr.drew ?_ | refine IsGr.drewN ?_ _))⟩

set_option maxHeartbeats 4000000 in
theorem New_neg (n0 n1 n2 n3 n d0 d1 d2 d3 d : Int) (hn : IsI n0 n1 n2 n3 n) (hd : IsI d0 d1 d2 d3 d) (h : d < 0) (w : World) :
    Calls Try.prog 10 #[.agg #[.int .u64 n0, .int .u64 n1, .int .u64 n2, .int .u64 n3], .agg #[.int .u64 d0, .int .u64 d1, .int .u64 d2, .int .u64 d3]] w fun e w' => ∃ (s0 s1 s2 s3 t0 t1 t2 t3 : Int) (ok : Bool), e = .returned (.tuple #[.agg #[.int .u64 s0, .int .u64 s1, .int .u64 s2, .int .u64 s3, .int .u64 t0, .int .u64 t1, .int .u64 t2, .int .u64 t3], .bool ok]) ∧ NewT n d s0 s1 s2 s3 t0 t1 t2 t3 ok ∧ IsGr w w' := by
  have CS := fun w => Sign_any d0 d1 d2 d3 d hd w
  rw [cmpI_lt h] at CS
  have CN := fun w => Neg_any n0 n1 n2 n3 n hn w
  have CD := fun w => Neg_any d0 d1 d2 d3 d hd w
  have HR : Hid ((-57896044618658097711785492504343953926634992332820282019728792003956564819968 ≤ n ∧ n < 57896044618658097711785492504343953926634992332820282019728792003956564819968) ∧ (-57896044618658097711785492504343953926634992332820282019728792003956564819968 ≤ d ∧ d < 57896044618658097711785492504343953926634992332820282019728792003956564819968) ∧ d < 0) := ⟨hn.2, hd.2, h⟩
  clear h hn hd
  go_enter Try.func10, Try.ntmps10
  go_wp2_with fail
  refine (CS _).mono ?_
  rintro e w1 ⟨rfl, os1, m1, rfl⟩
  go_wp2_with fail
  refine (CN _).mono ?_
  rintro e w1 ⟨a0, a1, a2, a3, k1, rfl, T1, os2, m2, rfl⟩
  go_wp2_with fail
  refine (CD _).mono ?_
  rintro e w1 ⟨b0, b1, b2, b3, k2, rfl, T2, os3, m3, rfl⟩
  rcases T1 with ⟨rfl, ha⟩ | ⟨rfl, ha, rfl, rfl, rfl, rfl⟩
  · rcases T2 with ⟨rfl, hb⟩ | ⟨rfl, hb, rfl, rfl, rfl, rfl⟩
    · have CT := fun w => rtold_t a0 a1 a2 a3 b0 b1 b2 b3 w
      have hN : NewT n d a0 a1 a2 a3 b0 b1 b2 b3 true := by
        have := HR.out.2.2
        exact Or.inl ⟨rfl, by omega, fun h2 => by omega, fun _ => ⟨ha, hb⟩⟩
      clear ha hb
      go_wp2_with fail
      refine (CT _).mono ?_
      rintro e w1 ⟨rfl, os4, m4, rfl⟩
      go_wp2
      exact bodyPost_ret (v := .tuple #[.agg #[.int .u64 a0, .int .u64 a1, .int .u64 a2, .int .u64 a3, .int .u64 b0, .int .u64 b1, .int .u64 b2, .int .u64 b3], .bool true]) (by simp [results, Try.results10, go_sem]) rfl ⟨a0, a1, a2, a3, b0, b1, b2, b3, true, rfl, hN, (by with_reducible repeat (first | exact IsGr.refl _ | refine IsGr.gr ?_ _ _ | refine IsGr.alloc ?_ _ | refine IsGr.drew ?_ | refine IsGr.drewN ?_ _))⟩
    · have CT := fun w => rtold_f a0 a1 a2 a3 0 0 0 0 w
      have hN : NewT n d 0 0 0 0 0 0 0 0 false := by
        have := HR.out
        exact Or.inr ⟨rfl, by omega, rfl, rfl, rfl, rfl, rfl, rfl, rfl, rfl⟩
      clear ha hb
      go_wp2_with fail
      refine (CT _).mono ?_
      rintro e w1 ⟨rfl, os4, m4, rfl⟩
      go_wp2
      exact bodyPost_ret (v := .tuple #[.agg #[.int .u64 0, .int .u64 0, .int .u64 0, .int .u64 0, .int .u64 0, .int .u64 0, .int .u64 0, .int .u64 0], .bool false]) (by simp [results, Try.results10, go_sem]) rfl ⟨0, 0, 0, 0, 0, 0, 0, 0, false, rfl, hN, (by with_reducible repeat (first | exact IsGr.refl _ | refine IsGr.gr ?_ _ _ | refine IsGr.alloc ?_ _ | refine IsGr.drew ?_ | refine IsGr.drewN ?_ _))⟩
  · have CT := fun w => rtold_f 0 0 0 0 b0 b1 b2 b3 w
    have hN : NewT n d 0 0 0 0 0 0 0 0 false := by
      have := HR.out
      exact Or.inr ⟨rfl, by omega, rfl, rfl, rfl, rfl, rfl, rfl, rfl, rfl⟩
    clear ha T2
    go_wp2_with fail
    refine (CT _).mono ?_
    rintro e w1 ⟨rfl, os4, m4, rfl⟩
    go_wp2
    exact bodyPost_ret (v := .tuple #[.agg #[.int .u64 0, .int .u64 0, .int .u64 0, .int .u64 0, .int .u64 0, .int .u64 0, .int .u64 0, .int .u64 0], .bool false]) (by simp [results, Try.results10, go_sem]) rfl ⟨0, 0, 0, 0, 0, 0, 0, 0, false, rfl, hN, (by with_reducible repeat (first | exact IsGr.refl _ | refine IsGr.gr ?_ _ _ | refine IsGr.alloc ?_ _ | refine IsGr.drew ?_ | refine IsGr.drewN ?_ _))⟩

theorem New_any (n0 n1 n2 n3 n d0 d1 d2 d3 d : Int) (hn : IsI n0 n1 n2 n3 n) (hd : IsI d0 d1 d2 d3 d) (w : World) :
    Calls Try.prog 10 #[.agg #[.int .u64 n0, .int .u64 n1, .int .u64 n2, .int .u64 n3], .agg #[.int .u64 d0, .int .u64 d1, .int .u64 d2, .int .u64 d3]] w fun e w' => ∃ (s0 s1 s2 s3 t0 t1 t2 t3 : Int) (ok : Bool), e = .returned (.tuple #[.agg #[.int .u64 s0, .int .u64 s1, .int .u64 s2, .int .u64 s3, .int .u64 t0, .int .u64 t1, .int .u64 t2, .int .u64 t3], .bool ok]) ∧ NewT n d s0 s1 s2 s3 t0 t1 t2 t3 ok ∧ IsGr w w' := by
  by_cases h : d < 0
  · exact New_neg n0 n1 n2 n3 n d0 d1 d2 d3 d hn hd h w
  · exact New_pos n0 n1 n2 n3 n d0 d1 d2 d3 d hn hd (by omega) w
end Go.Proofs.Ytecohcgcffhlnaa
