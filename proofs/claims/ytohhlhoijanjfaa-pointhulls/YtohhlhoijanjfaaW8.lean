/- Contracts of package wide over the loaded program: sums and differences of Ints. -/
import Derived.Test.YtohhlhoijanjfaaW7
namespace Go.Proofs.Ytohhlhoijanjfaa
open Go.RowKit Go.Shelf
attribute [local go_sem] Gr.size Gr.cell? Gr.frozen? Gr.setCell Gr.drew Gr.drewN Gr.of_drew Gr.of_drewN Gr.gr Gr.lt_of1 Gr.le_of1 Gr.lt_of2 Gr.le_of2 Gr.lt_of3 Gr.le_of3 Gr.lt_of4 Gr.le_of4 Gr.lt_of5 Gr.le_of5 Gr.lt_of6 Gr.le_of6 Gr.lt_of7 Gr.le_of7 Gr.lt_of8 Gr.le_of8

theorem IsI.range {a b c d z : Int} (h : IsI a b c d z) : -57896044618658097711785492504343953926634992332820282019728792003956564819968 ≤ z ∧ z < 57896044618658097711785492504343953926634992332820282019728792003956564819968 := h.2
theorem IsI.neg {a b c d z : Int} (h : IsI a b c d z) : decide (57896044618658097711785492504343953926634992332820282019728792003956564819968 ≤ z % 115792089237316195423570985008687907853269984665640564039457584007913129639936) = decide (z < 0) := by
  have := h.2; rw [decide_eq_decide]; omega
theorem IsI.mag {a b c d z : Int} (h : IsI a b c d z) (p : Int) (hp : p = z % 115792089237316195423570985008687907853269984665640564039457584007913129639936) : mag p = if z < 0 then -z else z := by
  have := h.2; subst hp; unfold Ytohhlhoijanjfaa.mag; split <;> split <;> omega
theorem IsI.zero : IsI 0 0 0 0 0 := ⟨Is.zero, by omega, by omega⟩
theorem IsI.mk {a b c d n z : Int} (h : Is a b c d n) (e : z % 115792089237316195423570985008687907853269984665640564039457584007913129639936 = n) (h0 : -57896044618658097711785492504343953926634992332820282019728792003956564819968 ≤ z) (h1 : z < 57896044618658097711785492504343953926634992332820282019728792003956564819968) : IsI a b c d z := ⟨e ▸ h, h0, h1⟩

theorem below_neg {x0 x1 x2 x3 x : Int} (hx : IsI x0 x1 x2 x3 x) (w : World) :
    Calls Try.prog 118 #[.agg #[.int .u64 x0, .int .u64 x1, .int .u64 x2, .int .u64 x3]] w fun e w' => e = .returned (.bool (decide (x < 0))) ∧ IsGr w w' := by
  rw [← hx.neg]; exact below_any _ _ _ _ _ hx.1 w

/-- What an answer of Ints is: z, if it is one; else nothing. -/
def Told (z s0 s1 s2 s3 : Int) (ok : Bool) : Prop := (ok = true ∧ IsI s0 s1 s2 s3 z) ∨ (ok = false ∧ ¬ (-57896044618658097711785492504343953926634992332820282019728792003956564819968 ≤ z ∧ z < 57896044618658097711785492504343953926634992332820282019728792003956564819968) ∧ s0 = 0 ∧ s1 = 0 ∧ s2 = 0 ∧ s3 = 0)

set_option maxHeartbeats 4000000 in
theorem Add_any (x0 x1 x2 x3 x y0 y1 y2 y3 y : Int) (hx : IsI x0 x1 x2 x3 x) (hy : IsI y0 y1 y2 y3 y) (w : World) :
    Calls Try.prog 104 #[.agg #[.int .u64 x0, .int .u64 x1, .int .u64 x2, .int .u64 x3], .agg #[.int .u64 y0, .int .u64 y1, .int .u64 y2, .int .u64 y3]] w fun e w' => ∃ (s0 s1 s2 s3 : Int) (ok : Bool), e = .returned (.tuple #[.agg #[.int .u64 s0, .int .u64 s1, .int .u64 s2, .int .u64 s3], .bool ok]) ∧ Told (x + y) s0 s1 s2 s3 ok ∧ IsGr w w' := by
  have rx := hx.2; have ry := hy.2
  go_enter Try.func104, Try.ntmps104
  go_wp2_with fail
  refine (plus_any x0 x1 x2 x3 _ y0 y1 y2 y3 _ hx.1 hy.1 _).mono ?_
  rintro e w1 ⟨s0, s1, s2, s3, rfl, hs, os1, n1, rfl⟩
  have BX := fun w => below_neg hx w
  have BY := fun w => below_neg hy w
  have BS := fun w => below_any s0 s1 s2 s3 _ hs w
  have e0 : (x % 115792089237316195423570985008687907853269984665640564039457584007913129639936 + y % 115792089237316195423570985008687907853269984665640564039457584007913129639936) % 115792089237316195423570985008687907853269984665640564039457584007913129639936 = (x + y) % 115792089237316195423570985008687907853269984665640564039457584007913129639936 := by omega
  rw [e0] at hs BS
  by_cases h1 : x < 0
  · have d1 : decide (x < 0) = true := by simp [h1]
    rw [d1] at BX
    by_cases h2 : y < 0
    · have d2 : decide (y < 0) = true := by simp [h2]
      rw [d2] at BY
      by_cases h3 : 57896044618658097711785492504343953926634992332820282019728792003956564819968 ≤ (x + y) % 115792089237316195423570985008687907853269984665640564039457584007913129639936
      · have d3 : decide (57896044618658097711785492504343953926634992332820282019728792003956564819968 ≤ (x + y) % 115792089237316195423570985008687907853269984665640564039457584007913129639936) = true := by simp [h3]
        rw [d3] at BS
        have hT : Told (x + y) s0 s1 s2 s3 true := Or.inl ⟨rfl, IsI.mk hs rfl (by omega) (by omega)⟩
        clear d1 d2 d3 h1 h2 h3 hs e0 rx ry hx hy
        go_wp2
        go_region_held3 (fun w' => (w'.cell? ⟨w.heap.size, 0, none⟩ = some (.int .u64 x0) ∧ w'.cell? ⟨w.heap.size, 1, none⟩ = some (.int .u64 x1) ∧ w'.cell? ⟨w.heap.size, 2, none⟩ = some (.int .u64 x2) ∧ w'.cell? ⟨w.heap.size, 3, none⟩ = some (.int .u64 x3)) ∧ (w'.cell? ⟨w.heap.size + 1, 0, none⟩ = some (.int .u64 y0) ∧ w'.cell? ⟨w.heap.size + 1, 1, none⟩ = some (.int .u64 y1) ∧ w'.cell? ⟨w.heap.size + 1, 2, none⟩ = some (.int .u64 y2) ∧ w'.cell? ⟨w.heap.size + 1, 3, none⟩ = some (.int .u64 y3)) ∧ (w'.cell? ⟨w.heap.size + 1 + 1 + 1 + os1.size, 0, none⟩ = some (.int .u64 s0) ∧ w'.cell? ⟨w.heap.size + 1 + 1 + 1 + os1.size, 1, none⟩ = some (.int .u64 s1) ∧ w'.cell? ⟨w.heap.size + 1 + 1 + 1 + os1.size, 2, none⟩ = some (.int .u64 s2) ∧ w'.cell? ⟨w.heap.size + 1 + 1 + 1 + os1.size, 3, none⟩ = some (.int .u64 s3))) (simp [go_sem])
          ((first | (go_at_call_of 118 (Value.int IntKind.u64 x0); refine (BX _).mono ?_; rintro e w1 ⟨rfl, os2, n2, rfl⟩) | (go_at_call_of 118 (Value.int IntKind.u64 y0); refine (BY _).mono ?_; rintro e w1 ⟨rfl, os3, n3, rfl⟩) | (go_at_call_of 118 (Value.int IntKind.u64 s0); refine (BS _).mono ?_; rintro e w1 ⟨rfl, os4, n4, rfl⟩)))
        all_goals
          go_wp2
          exact bodyPost_ret (v := .tuple #[.agg #[.int .u64 s0, .int .u64 s1, .int .u64 s2, .int .u64 s3], .bool true]) (by simp [results, Try.results104, go_sem]) rfl ⟨s0, s1, s2, s3, true, rfl, hT, (by with_reducible repeat (first | exact IsGr.refl _ | refine IsGr.gr ?_ _ _ | refine IsGr.alloc ?_ _ | refine IsGr.drew ?_ | refine IsGr.drewN ?_ _))⟩
      · have d3 : decide (57896044618658097711785492504343953926634992332820282019728792003956564819968 ≤ (x + y) % 115792089237316195423570985008687907853269984665640564039457584007913129639936) = false := by simp only [decide_eq_false_iff_not]; exact h3
        rw [d3] at BS
        have hT : Told (x + y) 0 0 0 0 false := Or.inr ⟨rfl, by omega, rfl, rfl, rfl, rfl⟩
        clear d1 d2 d3 h1 h2 h3 hs e0 rx ry hx hy
        go_wp2
        go_region_held3 (fun w' => (w'.cell? ⟨w.heap.size, 0, none⟩ = some (.int .u64 x0) ∧ w'.cell? ⟨w.heap.size, 1, none⟩ = some (.int .u64 x1) ∧ w'.cell? ⟨w.heap.size, 2, none⟩ = some (.int .u64 x2) ∧ w'.cell? ⟨w.heap.size, 3, none⟩ = some (.int .u64 x3)) ∧ (w'.cell? ⟨w.heap.size + 1, 0, none⟩ = some (.int .u64 y0) ∧ w'.cell? ⟨w.heap.size + 1, 1, none⟩ = some (.int .u64 y1) ∧ w'.cell? ⟨w.heap.size + 1, 2, none⟩ = some (.int .u64 y2) ∧ w'.cell? ⟨w.heap.size + 1, 3, none⟩ = some (.int .u64 y3)) ∧ (w'.cell? ⟨w.heap.size + 1 + 1 + 1 + os1.size, 0, none⟩ = some (.int .u64 s0) ∧ w'.cell? ⟨w.heap.size + 1 + 1 + 1 + os1.size, 1, none⟩ = some (.int .u64 s1) ∧ w'.cell? ⟨w.heap.size + 1 + 1 + 1 + os1.size, 2, none⟩ = some (.int .u64 s2) ∧ w'.cell? ⟨w.heap.size + 1 + 1 + 1 + os1.size, 3, none⟩ = some (.int .u64 s3))) (simp [go_sem])
          ((first | (go_at_call_of 118 (Value.int IntKind.u64 x0); refine (BX _).mono ?_; rintro e w1 ⟨rfl, os2, n2, rfl⟩) | (go_at_call_of 118 (Value.int IntKind.u64 y0); refine (BY _).mono ?_; rintro e w1 ⟨rfl, os3, n3, rfl⟩) | (go_at_call_of 118 (Value.int IntKind.u64 s0); refine (BS _).mono ?_; rintro e w1 ⟨rfl, os4, n4, rfl⟩)))
        all_goals
          go_wp2
          exact bodyPost_ret (v := .tuple #[.agg #[.int .u64 0, .int .u64 0, .int .u64 0, .int .u64 0], .bool false]) (by simp [results, Try.results104, go_sem]) rfl ⟨0, 0, 0, 0, false, rfl, hT, (by with_reducible repeat (first | exact IsGr.refl _ | refine IsGr.gr ?_ _ _ | refine IsGr.alloc ?_ _ | refine IsGr.drew ?_ | refine IsGr.drewN ?_ _))⟩
    · have d2 : decide (y < 0) = false := by simp [h2]
      rw [d2] at BY
      have hT : Told (x + y) s0 s1 s2 s3 true := Or.inl ⟨rfl, IsI.mk hs rfl (by omega) (by omega)⟩
      clear d1 d2 h1 h2 hs e0 rx ry hx hy BS
      go_wp2
      go_region_with (first | (go_at_call_of 118 (Value.int IntKind.u64 x0); refine (BX _).mono ?_; rintro e w1 ⟨rfl, os2, n2, rfl⟩) | (go_at_call_of 118 (Value.int IntKind.u64 y0); refine (BY _).mono ?_; rintro e w1 ⟨rfl, os3, n3, rfl⟩))
      all_goals
        go_wp2
        exact bodyPost_ret (v := .tuple #[.agg #[.int .u64 s0, .int .u64 s1, .int .u64 s2, .int .u64 s3], .bool true]) (by simp [results, Try.results104, go_sem]) rfl ⟨s0, s1, s2, s3, true, rfl, hT, (by with_reducible repeat (first | exact IsGr.refl _ | refine IsGr.gr ?_ _ _ | refine IsGr.alloc ?_ _ | refine IsGr.drew ?_ | refine IsGr.drewN ?_ _))⟩
  · have d1 : decide (x < 0) = false := by simp [h1]
    rw [d1] at BX
    by_cases h2 : y < 0
    · have d2 : decide (y < 0) = true := by simp [h2]
      rw [d2] at BY
      have hT : Told (x + y) s0 s1 s2 s3 true := Or.inl ⟨rfl, IsI.mk hs rfl (by omega) (by omega)⟩
      clear d1 d2 h1 h2 hs e0 rx ry hx hy BS
      go_wp2
      go_region_with (first | (go_at_call_of 118 (Value.int IntKind.u64 x0); refine (BX _).mono ?_; rintro e w1 ⟨rfl, os2, n2, rfl⟩) | (go_at_call_of 118 (Value.int IntKind.u64 y0); refine (BY _).mono ?_; rintro e w1 ⟨rfl, os3, n3, rfl⟩))
      all_goals
        go_wp2
        exact bodyPost_ret (v := .tuple #[.agg #[.int .u64 s0, .int .u64 s1, .int .u64 s2, .int .u64 s3], .bool true]) (by simp [results, Try.results104, go_sem]) rfl ⟨s0, s1, s2, s3, true, rfl, hT, (by with_reducible repeat (first | exact IsGr.refl _ | refine IsGr.gr ?_ _ _ | refine IsGr.alloc ?_ _ | refine IsGr.drew ?_ | refine IsGr.drewN ?_ _))⟩
    · have d2 : decide (y < 0) = false := by simp [h2]
      rw [d2] at BY
      by_cases h3 : 57896044618658097711785492504343953926634992332820282019728792003956564819968 ≤ (x + y) % 115792089237316195423570985008687907853269984665640564039457584007913129639936
      · have d3 : decide (57896044618658097711785492504343953926634992332820282019728792003956564819968 ≤ (x + y) % 115792089237316195423570985008687907853269984665640564039457584007913129639936) = true := by simp [h3]
        rw [d3] at BS
        have hT : Told (x + y) 0 0 0 0 false := Or.inr ⟨rfl, by omega, rfl, rfl, rfl, rfl⟩
        clear d1 d2 d3 h1 h2 h3 hs e0 rx ry hx hy
        go_wp2
        go_region_held3 (fun w' => (w'.cell? ⟨w.heap.size, 0, none⟩ = some (.int .u64 x0) ∧ w'.cell? ⟨w.heap.size, 1, none⟩ = some (.int .u64 x1) ∧ w'.cell? ⟨w.heap.size, 2, none⟩ = some (.int .u64 x2) ∧ w'.cell? ⟨w.heap.size, 3, none⟩ = some (.int .u64 x3)) ∧ (w'.cell? ⟨w.heap.size + 1, 0, none⟩ = some (.int .u64 y0) ∧ w'.cell? ⟨w.heap.size + 1, 1, none⟩ = some (.int .u64 y1) ∧ w'.cell? ⟨w.heap.size + 1, 2, none⟩ = some (.int .u64 y2) ∧ w'.cell? ⟨w.heap.size + 1, 3, none⟩ = some (.int .u64 y3)) ∧ (w'.cell? ⟨w.heap.size + 1 + 1 + 1 + os1.size, 0, none⟩ = some (.int .u64 s0) ∧ w'.cell? ⟨w.heap.size + 1 + 1 + 1 + os1.size, 1, none⟩ = some (.int .u64 s1) ∧ w'.cell? ⟨w.heap.size + 1 + 1 + 1 + os1.size, 2, none⟩ = some (.int .u64 s2) ∧ w'.cell? ⟨w.heap.size + 1 + 1 + 1 + os1.size, 3, none⟩ = some (.int .u64 s3))) (simp [go_sem])
          ((first | (go_at_call_of 118 (Value.int IntKind.u64 x0); refine (BX _).mono ?_; rintro e w1 ⟨rfl, os2, n2, rfl⟩) | (go_at_call_of 118 (Value.int IntKind.u64 y0); refine (BY _).mono ?_; rintro e w1 ⟨rfl, os3, n3, rfl⟩) | (go_at_call_of 118 (Value.int IntKind.u64 s0); refine (BS _).mono ?_; rintro e w1 ⟨rfl, os4, n4, rfl⟩)))
        all_goals
          go_wp2
          exact bodyPost_ret (v := .tuple #[.agg #[.int .u64 0, .int .u64 0, .int .u64 0, .int .u64 0], .bool false]) (by simp [results, Try.results104, go_sem]) rfl ⟨0, 0, 0, 0, false, rfl, hT, (by with_reducible repeat (first | exact IsGr.refl _ | refine IsGr.gr ?_ _ _ | refine IsGr.alloc ?_ _ | refine IsGr.drew ?_ | refine IsGr.drewN ?_ _))⟩
      · have d3 : decide (57896044618658097711785492504343953926634992332820282019728792003956564819968 ≤ (x + y) % 115792089237316195423570985008687907853269984665640564039457584007913129639936) = false := by simp only [decide_eq_false_iff_not]; exact h3
        rw [d3] at BS
        have hT : Told (x + y) s0 s1 s2 s3 true := Or.inl ⟨rfl, IsI.mk hs rfl (by omega) (by omega)⟩
        clear d1 d2 d3 h1 h2 h3 hs e0 rx ry hx hy
        go_wp2
        go_region_held3 (fun w' => (w'.cell? ⟨w.heap.size, 0, none⟩ = some (.int .u64 x0) ∧ w'.cell? ⟨w.heap.size, 1, none⟩ = some (.int .u64 x1) ∧ w'.cell? ⟨w.heap.size, 2, none⟩ = some (.int .u64 x2) ∧ w'.cell? ⟨w.heap.size, 3, none⟩ = some (.int .u64 x3)) ∧ (w'.cell? ⟨w.heap.size + 1, 0, none⟩ = some (.int .u64 y0) ∧ w'.cell? ⟨w.heap.size + 1, 1, none⟩ = some (.int .u64 y1) ∧ w'.cell? ⟨w.heap.size + 1, 2, none⟩ = some (.int .u64 y2) ∧ w'.cell? ⟨w.heap.size + 1, 3, none⟩ = some (.int .u64 y3)) ∧ (w'.cell? ⟨w.heap.size + 1 + 1 + 1 + os1.size, 0, none⟩ = some (.int .u64 s0) ∧ w'.cell? ⟨w.heap.size + 1 + 1 + 1 + os1.size, 1, none⟩ = some (.int .u64 s1) ∧ w'.cell? ⟨w.heap.size + 1 + 1 + 1 + os1.size, 2, none⟩ = some (.int .u64 s2) ∧ w'.cell? ⟨w.heap.size + 1 + 1 + 1 + os1.size, 3, none⟩ = some (.int .u64 s3))) (simp [go_sem])
          ((first | (go_at_call_of 118 (Value.int IntKind.u64 x0); refine (BX _).mono ?_; rintro e w1 ⟨rfl, os2, n2, rfl⟩) | (go_at_call_of 118 (Value.int IntKind.u64 y0); refine (BY _).mono ?_; rintro e w1 ⟨rfl, os3, n3, rfl⟩) | (go_at_call_of 118 (Value.int IntKind.u64 s0); refine (BS _).mono ?_; rintro e w1 ⟨rfl, os4, n4, rfl⟩)))
        all_goals
          go_wp2
          exact bodyPost_ret (v := .tuple #[.agg #[.int .u64 s0, .int .u64 s1, .int .u64 s2, .int .u64 s3], .bool true]) (by simp [results, Try.results104, go_sem]) rfl ⟨s0, s1, s2, s3, true, rfl, hT, (by with_reducible repeat (first | exact IsGr.refl _ | refine IsGr.gr ?_ _ _ | refine IsGr.alloc ?_ _ | refine IsGr.drew ?_ | refine IsGr.drewN ?_ _))⟩

set_option maxHeartbeats 4000000 in
theorem Sub_any (x0 x1 x2 x3 x y0 y1 y2 y3 y : Int) (hx : IsI x0 x1 x2 x3 x) (hy : IsI y0 y1 y2 y3 y) (w : World) :
    Calls Try.prog 94 #[.agg #[.int .u64 x0, .int .u64 x1, .int .u64 x2, .int .u64 x3], .agg #[.int .u64 y0, .int .u64 y1, .int .u64 y2, .int .u64 y3]] w fun e w' => ∃ (s0 s1 s2 s3 : Int) (ok : Bool), e = .returned (.tuple #[.agg #[.int .u64 s0, .int .u64 s1, .int .u64 s2, .int .u64 s3], .bool ok]) ∧ Told (x - y) s0 s1 s2 s3 ok ∧ IsGr w w' := by
  have rx := hx.2; have ry := hy.2
  go_enter Try.func94, Try.ntmps94
  go_wp2_with fail
  refine (minus_any x0 x1 x2 x3 _ y0 y1 y2 y3 _ hx.1 hy.1 _).mono ?_
  rintro e w1 ⟨s0, s1, s2, s3, rfl, hs, os1, n1, rfl⟩
  have BX := fun w => below_neg hx w
  have BY := fun w => below_neg hy w
  have BS := fun w => below_any s0 s1 s2 s3 _ hs w
  have e0 : (x % 115792089237316195423570985008687907853269984665640564039457584007913129639936 - y % 115792089237316195423570985008687907853269984665640564039457584007913129639936) % 115792089237316195423570985008687907853269984665640564039457584007913129639936 = (x - y) % 115792089237316195423570985008687907853269984665640564039457584007913129639936 := by omega
  rw [e0] at hs BS
  by_cases h1 : x < 0
  · have d1 : decide (x < 0) = true := by simp [h1]
    rw [d1] at BX
    by_cases h2 : y < 0
    · have d2 : decide (y < 0) = true := by simp [h2]
      rw [d2] at BY
      have hT : Told (x - y) s0 s1 s2 s3 true := Or.inl ⟨rfl, IsI.mk hs rfl (by omega) (by omega)⟩
      clear d1 d2 h1 h2 hs e0 rx ry hx hy BS
      go_wp2
      go_region_with (first | (go_at_call_of 118 (Value.int IntKind.u64 x0); refine (BX _).mono ?_; rintro e w1 ⟨rfl, os2, n2, rfl⟩) | (go_at_call_of 118 (Value.int IntKind.u64 y0); refine (BY _).mono ?_; rintro e w1 ⟨rfl, os3, n3, rfl⟩))
      all_goals
        go_wp2
        exact bodyPost_ret (v := .tuple #[.agg #[.int .u64 s0, .int .u64 s1, .int .u64 s2, .int .u64 s3], .bool true]) (by simp [results, Try.results94, go_sem]) rfl ⟨s0, s1, s2, s3, true, rfl, hT, (by with_reducible repeat (first | exact IsGr.refl _ | refine IsGr.gr ?_ _ _ | refine IsGr.alloc ?_ _ | refine IsGr.drew ?_ | refine IsGr.drewN ?_ _))⟩
    · have d2 : decide (y < 0) = false := by simp [h2]
      rw [d2] at BY
      by_cases h3 : 57896044618658097711785492504343953926634992332820282019728792003956564819968 ≤ (x - y) % 115792089237316195423570985008687907853269984665640564039457584007913129639936
      · have d3 : decide (57896044618658097711785492504343953926634992332820282019728792003956564819968 ≤ (x - y) % 115792089237316195423570985008687907853269984665640564039457584007913129639936) = true := by simp [h3]
        rw [d3] at BS
        have hT : Told (x - y) s0 s1 s2 s3 true := Or.inl ⟨rfl, IsI.mk hs rfl (by omega) (by omega)⟩
        clear d1 d2 d3 h1 h2 h3 hs e0 rx ry hx hy
        go_wp2
        go_region_held3 (fun w' => (w'.cell? ⟨w.heap.size, 0, none⟩ = some (.int .u64 x0) ∧ w'.cell? ⟨w.heap.size, 1, none⟩ = some (.int .u64 x1) ∧ w'.cell? ⟨w.heap.size, 2, none⟩ = some (.int .u64 x2) ∧ w'.cell? ⟨w.heap.size, 3, none⟩ = some (.int .u64 x3)) ∧ (w'.cell? ⟨w.heap.size + 1, 0, none⟩ = some (.int .u64 y0) ∧ w'.cell? ⟨w.heap.size + 1, 1, none⟩ = some (.int .u64 y1) ∧ w'.cell? ⟨w.heap.size + 1, 2, none⟩ = some (.int .u64 y2) ∧ w'.cell? ⟨w.heap.size + 1, 3, none⟩ = some (.int .u64 y3)) ∧ (w'.cell? ⟨w.heap.size + 1 + 1 + 1 + os1.size, 0, none⟩ = some (.int .u64 s0) ∧ w'.cell? ⟨w.heap.size + 1 + 1 + 1 + os1.size, 1, none⟩ = some (.int .u64 s1) ∧ w'.cell? ⟨w.heap.size + 1 + 1 + 1 + os1.size, 2, none⟩ = some (.int .u64 s2) ∧ w'.cell? ⟨w.heap.size + 1 + 1 + 1 + os1.size, 3, none⟩ = some (.int .u64 s3))) (simp [go_sem])
          ((first | (go_at_call_of 118 (Value.int IntKind.u64 x0); refine (BX _).mono ?_; rintro e w1 ⟨rfl, os2, n2, rfl⟩) | (go_at_call_of 118 (Value.int IntKind.u64 y0); refine (BY _).mono ?_; rintro e w1 ⟨rfl, os3, n3, rfl⟩) | (go_at_call_of 118 (Value.int IntKind.u64 s0); refine (BS _).mono ?_; rintro e w1 ⟨rfl, os4, n4, rfl⟩)))
        all_goals
          go_wp2
          exact bodyPost_ret (v := .tuple #[.agg #[.int .u64 s0, .int .u64 s1, .int .u64 s2, .int .u64 s3], .bool true]) (by simp [results, Try.results94, go_sem]) rfl ⟨s0, s1, s2, s3, true, rfl, hT, (by with_reducible repeat (first | exact IsGr.refl _ | refine IsGr.gr ?_ _ _ | refine IsGr.alloc ?_ _ | refine IsGr.drew ?_ | refine IsGr.drewN ?_ _))⟩
      · have d3 : decide (57896044618658097711785492504343953926634992332820282019728792003956564819968 ≤ (x - y) % 115792089237316195423570985008687907853269984665640564039457584007913129639936) = false := by simp only [decide_eq_false_iff_not]; exact h3
        rw [d3] at BS
        have hT : Told (x - y) 0 0 0 0 false := Or.inr ⟨rfl, by omega, rfl, rfl, rfl, rfl⟩
        clear d1 d2 d3 h1 h2 h3 hs e0 rx ry hx hy
        go_wp2
        go_region_held3 (fun w' => (w'.cell? ⟨w.heap.size, 0, none⟩ = some (.int .u64 x0) ∧ w'.cell? ⟨w.heap.size, 1, none⟩ = some (.int .u64 x1) ∧ w'.cell? ⟨w.heap.size, 2, none⟩ = some (.int .u64 x2) ∧ w'.cell? ⟨w.heap.size, 3, none⟩ = some (.int .u64 x3)) ∧ (w'.cell? ⟨w.heap.size + 1, 0, none⟩ = some (.int .u64 y0) ∧ w'.cell? ⟨w.heap.size + 1, 1, none⟩ = some (.int .u64 y1) ∧ w'.cell? ⟨w.heap.size + 1, 2, none⟩ = some (.int .u64 y2) ∧ w'.cell? ⟨w.heap.size + 1, 3, none⟩ = some (.int .u64 y3)) ∧ (w'.cell? ⟨w.heap.size + 1 + 1 + 1 + os1.size, 0, none⟩ = some (.int .u64 s0) ∧ w'.cell? ⟨w.heap.size + 1 + 1 + 1 + os1.size, 1, none⟩ = some (.int .u64 s1) ∧ w'.cell? ⟨w.heap.size + 1 + 1 + 1 + os1.size, 2, none⟩ = some (.int .u64 s2) ∧ w'.cell? ⟨w.heap.size + 1 + 1 + 1 + os1.size, 3, none⟩ = some (.int .u64 s3))) (simp [go_sem])
          ((first | (go_at_call_of 118 (Value.int IntKind.u64 x0); refine (BX _).mono ?_; rintro e w1 ⟨rfl, os2, n2, rfl⟩) | (go_at_call_of 118 (Value.int IntKind.u64 y0); refine (BY _).mono ?_; rintro e w1 ⟨rfl, os3, n3, rfl⟩) | (go_at_call_of 118 (Value.int IntKind.u64 s0); refine (BS _).mono ?_; rintro e w1 ⟨rfl, os4, n4, rfl⟩)))
        all_goals
          go_wp2
          exact bodyPost_ret (v := .tuple #[.agg #[.int .u64 0, .int .u64 0, .int .u64 0, .int .u64 0], .bool false]) (by simp [results, Try.results94, go_sem]) rfl ⟨0, 0, 0, 0, false, rfl, hT, (by with_reducible repeat (first | exact IsGr.refl _ | refine IsGr.gr ?_ _ _ | refine IsGr.alloc ?_ _ | refine IsGr.drew ?_ | refine IsGr.drewN ?_ _))⟩
  · have d1 : decide (x < 0) = false := by simp [h1]
    rw [d1] at BX
    by_cases h2 : y < 0
    · have d2 : decide (y < 0) = true := by simp [h2]
      rw [d2] at BY
      by_cases h3 : 57896044618658097711785492504343953926634992332820282019728792003956564819968 ≤ (x - y) % 115792089237316195423570985008687907853269984665640564039457584007913129639936
      · have d3 : decide (57896044618658097711785492504343953926634992332820282019728792003956564819968 ≤ (x - y) % 115792089237316195423570985008687907853269984665640564039457584007913129639936) = true := by simp [h3]
        rw [d3] at BS
        have hT : Told (x - y) 0 0 0 0 false := Or.inr ⟨rfl, by omega, rfl, rfl, rfl, rfl⟩
        clear d1 d2 d3 h1 h2 h3 hs e0 rx ry hx hy
        go_wp2
        go_region_held3 (fun w' => (w'.cell? ⟨w.heap.size, 0, none⟩ = some (.int .u64 x0) ∧ w'.cell? ⟨w.heap.size, 1, none⟩ = some (.int .u64 x1) ∧ w'.cell? ⟨w.heap.size, 2, none⟩ = some (.int .u64 x2) ∧ w'.cell? ⟨w.heap.size, 3, none⟩ = some (.int .u64 x3)) ∧ (w'.cell? ⟨w.heap.size + 1, 0, none⟩ = some (.int .u64 y0) ∧ w'.cell? ⟨w.heap.size + 1, 1, none⟩ = some (.int .u64 y1) ∧ w'.cell? ⟨w.heap.size + 1, 2, none⟩ = some (.int .u64 y2) ∧ w'.cell? ⟨w.heap.size + 1, 3, none⟩ = some (.int .u64 y3)) ∧ (w'.cell? ⟨w.heap.size + 1 + 1 + 1 + os1.size, 0, none⟩ = some (.int .u64 s0) ∧ w'.cell? ⟨w.heap.size + 1 + 1 + 1 + os1.size, 1, none⟩ = some (.int .u64 s1) ∧ w'.cell? ⟨w.heap.size + 1 + 1 + 1 + os1.size, 2, none⟩ = some (.int .u64 s2) ∧ w'.cell? ⟨w.heap.size + 1 + 1 + 1 + os1.size, 3, none⟩ = some (.int .u64 s3))) (simp [go_sem])
          ((first | (go_at_call_of 118 (Value.int IntKind.u64 x0); refine (BX _).mono ?_; rintro e w1 ⟨rfl, os2, n2, rfl⟩) | (go_at_call_of 118 (Value.int IntKind.u64 y0); refine (BY _).mono ?_; rintro e w1 ⟨rfl, os3, n3, rfl⟩) | (go_at_call_of 118 (Value.int IntKind.u64 s0); refine (BS _).mono ?_; rintro e w1 ⟨rfl, os4, n4, rfl⟩)))
        all_goals
          go_wp2
          exact bodyPost_ret (v := .tuple #[.agg #[.int .u64 0, .int .u64 0, .int .u64 0, .int .u64 0], .bool false]) (by simp [results, Try.results94, go_sem]) rfl ⟨0, 0, 0, 0, false, rfl, hT, (by with_reducible repeat (first | exact IsGr.refl _ | refine IsGr.gr ?_ _ _ | refine IsGr.alloc ?_ _ | refine IsGr.drew ?_ | refine IsGr.drewN ?_ _))⟩
      · have d3 : decide (57896044618658097711785492504343953926634992332820282019728792003956564819968 ≤ (x - y) % 115792089237316195423570985008687907853269984665640564039457584007913129639936) = false := by simp only [decide_eq_false_iff_not]; exact h3
        rw [d3] at BS
        have hT : Told (x - y) s0 s1 s2 s3 true := Or.inl ⟨rfl, IsI.mk hs rfl (by omega) (by omega)⟩
        clear d1 d2 d3 h1 h2 h3 hs e0 rx ry hx hy
        go_wp2
        go_region_held3 (fun w' => (w'.cell? ⟨w.heap.size, 0, none⟩ = some (.int .u64 x0) ∧ w'.cell? ⟨w.heap.size, 1, none⟩ = some (.int .u64 x1) ∧ w'.cell? ⟨w.heap.size, 2, none⟩ = some (.int .u64 x2) ∧ w'.cell? ⟨w.heap.size, 3, none⟩ = some (.int .u64 x3)) ∧ (w'.cell? ⟨w.heap.size + 1, 0, none⟩ = some (.int .u64 y0) ∧ w'.cell? ⟨w.heap.size + 1, 1, none⟩ = some (.int .u64 y1) ∧ w'.cell? ⟨w.heap.size + 1, 2, none⟩ = some (.int .u64 y2) ∧ w'.cell? ⟨w.heap.size + 1, 3, none⟩ = some (.int .u64 y3)) ∧ (w'.cell? ⟨w.heap.size + 1 + 1 + 1 + os1.size, 0, none⟩ = some (.int .u64 s0) ∧ w'.cell? ⟨w.heap.size + 1 + 1 + 1 + os1.size, 1, none⟩ = some (.int .u64 s1) ∧ w'.cell? ⟨w.heap.size + 1 + 1 + 1 + os1.size, 2, none⟩ = some (.int .u64 s2) ∧ w'.cell? ⟨w.heap.size + 1 + 1 + 1 + os1.size, 3, none⟩ = some (.int .u64 s3))) (simp [go_sem])
          ((first | (go_at_call_of 118 (Value.int IntKind.u64 x0); refine (BX _).mono ?_; rintro e w1 ⟨rfl, os2, n2, rfl⟩) | (go_at_call_of 118 (Value.int IntKind.u64 y0); refine (BY _).mono ?_; rintro e w1 ⟨rfl, os3, n3, rfl⟩) | (go_at_call_of 118 (Value.int IntKind.u64 s0); refine (BS _).mono ?_; rintro e w1 ⟨rfl, os4, n4, rfl⟩)))
        all_goals
          go_wp2
          exact bodyPost_ret (v := .tuple #[.agg #[.int .u64 s0, .int .u64 s1, .int .u64 s2, .int .u64 s3], .bool true]) (by simp [results, Try.results94, go_sem]) rfl ⟨s0, s1, s2, s3, true, rfl, hT, (by with_reducible repeat (first | exact IsGr.refl _ | refine IsGr.gr ?_ _ _ | refine IsGr.alloc ?_ _ | refine IsGr.drew ?_ | refine IsGr.drewN ?_ _))⟩
    · have d2 : decide (y < 0) = false := by simp [h2]
      rw [d2] at BY
      have hT : Told (x - y) s0 s1 s2 s3 true := Or.inl ⟨rfl, IsI.mk hs rfl (by omega) (by omega)⟩
      clear d1 d2 h1 h2 hs e0 rx ry hx hy BS
      go_wp2
      go_region_with (first | (go_at_call_of 118 (Value.int IntKind.u64 x0); refine (BX _).mono ?_; rintro e w1 ⟨rfl, os2, n2, rfl⟩) | (go_at_call_of 118 (Value.int IntKind.u64 y0); refine (BY _).mono ?_; rintro e w1 ⟨rfl, os3, n3, rfl⟩))
      all_goals
        go_wp2
        exact bodyPost_ret (v := .tuple #[.agg #[.int .u64 s0, .int .u64 s1, .int .u64 s2, .int .u64 s3], .bool true]) (by simp [results, Try.results94, go_sem]) rfl ⟨s0, s1, s2, s3, true, rfl, hT, (by with_reducible repeat (first | exact IsGr.refl _ | refine IsGr.gr ?_ _ _ | refine IsGr.alloc ?_ _ | refine IsGr.drew ?_ | refine IsGr.drewN ?_ _))⟩


set_option maxHeartbeats 4000000 in
theorem Neg_any (x0 x1 x2 x3 x : Int) (hx : IsI x0 x1 x2 x3 x) (w : World) :
    Calls Try.prog 116 #[.agg #[.int .u64 x0, .int .u64 x1, .int .u64 x2, .int .u64 x3]] w fun e w' => ∃ (s0 s1 s2 s3 : Int) (ok : Bool), e = .returned (.tuple #[.agg #[.int .u64 s0, .int .u64 s1, .int .u64 s2, .int .u64 s3], .bool ok]) ∧ Told (0 - x) s0 s1 s2 s3 ok ∧ IsGr w w' := by
  go_enter Try.func116, Try.ntmps116
  go_wp2_with fail
  refine (Sub_any 0 0 0 0 0 x0 x1 x2 x3 x IsI.zero hx _).mono ?_
  rintro e w1 ⟨s0, s1, s2, s3, ok, rfl, hT, os1, n1, rfl⟩
  go_wp2
  exact bodyPost_ret (v := .tuple #[.agg #[.int .u64 s0, .int .u64 s1, .int .u64 s2, .int .u64 s3], .bool ok]) (by simp [results, Try.results116, go_sem]) rfl ⟨s0, s1, s2, s3, ok, rfl, hT, (by with_reducible repeat (first | exact IsGr.refl _ | refine IsGr.gr ?_ _ _ | refine IsGr.alloc ?_ _ | refine IsGr.drew ?_ | refine IsGr.drewN ?_ _))⟩
end Go.Proofs.Ytohhlhoijanjfaa
