/- Contracts of package wide over the loaded program: products of Ints. -/
import Derived.Test.YtohhlhoijanjfaaW8
import Derived.Test.YtohhlhoijanjfaaM5
import Derived.Deep.DeepCutAuto
namespace Go.Proofs.Ytohhlhoijanjfaa
open Go.RowKit Go.Shelf
attribute [local go_sem] Gr.size Gr.cell? Gr.frozen? Gr.setCell Gr.drew Gr.drewN Gr.of_drew Gr.of_drewN Gr.gr Gr.lt_of1 Gr.le_of1 Gr.lt_of2 Gr.le_of2 Gr.lt_of3 Gr.le_of3 Gr.lt_of4 Gr.le_of4 Gr.lt_of5 Gr.le_of5 Gr.lt_of6 Gr.le_of6 Gr.lt_of7 Gr.le_of7 Gr.lt_of8 Gr.le_of8

theorem Gr.alloc0 (W : World) (o : Obj) (os : Array Obj) (n : Nat) : Gr (W.alloc o) os n = Gr ((Gr W #[] W.drawn).alloc o) os n := by rw [← Gr.nil]

theorem signed_told (x0 x1 x2 x3 x : Int) (b : Bool) (hx : Is x0 x1 x2 x3 x) (w : World) :
    Calls Try.prog 120 #[.agg #[.int .u64 x0, .int .u64 x1, .int .u64 x2, .int .u64 x3], .bool b] w fun e w' => ∃ (s0 s1 s2 s3 : Int) (ok : Bool), e = .returned (.tuple #[.agg #[.int .u64 s0, .int .u64 s1, .int .u64 s2, .int .u64 s3], .bool ok]) ∧ Told (sgn b x) s0 s1 s2 s3 ok ∧ IsGr w w' := by
  have hr := hx.range
  cases b with
  | false =>
    by_cases h : x < 57896044618658097711785492504343953926634992332820282019728792003956564819968
    · refine (signed_pos x0 x1 x2 x3 x hx h w).mono ?_
      rintro e w' ⟨rfl, hg⟩
      exact ⟨x0, x1, x2, x3, true, rfl, Or.inl ⟨rfl, IsI.mk hx (by unfold sgn; simp; omega) (by unfold sgn; simp; omega) (by unfold sgn; simp; omega)⟩, hg⟩
    · refine (signed_pos_no x0 x1 x2 x3 x hx (by omega) w).mono ?_
      rintro e w' ⟨rfl, hg⟩
      exact ⟨0, 0, 0, 0, false, rfl, Or.inr ⟨rfl, by unfold sgn; simp; omega, rfl, rfl, rfl, rfl⟩, hg⟩
  | true =>
    by_cases h : x ≤ 57896044618658097711785492504343953926634992332820282019728792003956564819968
    · refine (signed_neg x0 x1 x2 x3 x hx h w).mono ?_
      rintro e w' ⟨s0, s1, s2, s3, rfl, hs, hg⟩
      exact ⟨s0, s1, s2, s3, true, rfl, Or.inl ⟨rfl, IsI.mk hs (by unfold sgn; simp) (by unfold sgn; simp; omega) (by unfold sgn; simp; omega)⟩, hg⟩
    · refine (signed_neg_no x0 x1 x2 x3 x hx (by omega) w).mono ?_
      rintro e w' ⟨rfl, hg⟩
      exact ⟨0, 0, 0, 0, false, rfl, Or.inr ⟨rfl, by unfold sgn; simp; omega, rfl, rfl, rfl, rfl⟩, hg⟩

theorem sizeOf_abs {x0 x1 x2 x3 x : Int} (hx : IsI x0 x1 x2 x3 x) (w : World) :
    Calls Try.prog 97 #[.agg #[.int .u64 x0, .int .u64 x1, .int .u64 x2, .int .u64 x3]] w fun e w' => ∃ s0 s1 s2 s3 : Int, e = .returned (.agg #[.int .u64 s0, .int .u64 s1, .int .u64 s2, .int .u64 s3]) ∧ Is s0 s1 s2 s3 (abs x) ∧ IsGr w w' := by
  have hm : mag (x % 115792089237316195423570985008687907853269984665640564039457584007913129639936) = abs x := by
    have := hx.2; unfold mag abs; split <;> split <;> omega
  rw [← hm]; exact sizeOf_any _ _ _ _ _ hx.1 w

set_option maxHeartbeats 4000000 in
theorem Mul_any (x0 x1 x2 x3 x y0 y1 y2 y3 y : Int) (hx : IsI x0 x1 x2 x3 x) (hy : IsI y0 y1 y2 y3 y) (w : World) :
    Calls Try.prog 95 #[.agg #[.int .u64 x0, .int .u64 x1, .int .u64 x2, .int .u64 x3], .agg #[.int .u64 y0, .int .u64 y1, .int .u64 y2, .int .u64 y3]] w fun e w' => ∃ (s0 s1 s2 s3 : Int) (ok : Bool), e = .returned (.tuple #[.agg #[.int .u64 s0, .int .u64 s1, .int .u64 s2, .int .u64 s3], .bool ok]) ∧ Told (x * y) s0 s1 s2 s3 ok ∧ IsGr w w' := by
  have SX := fun w => sizeOf_abs hx w
  have SY := fun w => sizeOf_abs hy w
  have BX := fun w => below_neg hx w
  have BY := fun w => below_neg hy w
  have hms := mul_signs x y
  generalize hbx : decide (x < 0) = bx at BX hms
  generalize hby : decide (y < 0) = by' at BY hms
  have HMS : Hid (sgn (bx != by') (abs x * abs y) = x * y) := hms
  clear hms hbx hby
  go_enter Try.func95, Try.ntmps95
  go_upto_region 1 with fail
  go_cut [6, 7] (fun t6 t7 wr => ∃ (os : Array Obj) (n : Nat) (os' : Array Obj) (n' : Nat) (p0 p1 p2 p3 : Int) (ok : Bool), t6 = .pointer (some ⟨w.heap.size + 1 + 1 + 1 + os.size, 0, none⟩) ∧ t7 = .bool ok ∧ Prod (abs x) (abs y) p0 p1 p2 p3 ok ∧ wr = Gr ((Gr (((w.alloc (.cells #[.int .u64 x0, .int .u64 x1, .int .u64 x2, .int .u64 x3] 44)).alloc (.cells #[.int .u64 y0, .int .u64 y1, .int .u64 y2, .int .u64 y3] 44)).alloc (.cells #[.int .u64 0, .int .u64 0, .int .u64 0, .int .u64 0] 44)) os n).alloc (.cells #[.int .u64 p0, .int .u64 p1, .int .u64 p2, .int .u64 p3] 123)) os' n')
  case first =>
    go_region_held3 (fun w' => (w'.cell? ⟨w.heap.size, 0, none⟩ = some (.int .u64 x0) ∧ w'.cell? ⟨w.heap.size, 1, none⟩ = some (.int .u64 x1) ∧ w'.cell? ⟨w.heap.size, 2, none⟩ = some (.int .u64 x2) ∧ w'.cell? ⟨w.heap.size, 3, none⟩ = some (.int .u64 x3)) ∧ (w'.cell? ⟨w.heap.size + 1, 0, none⟩ = some (.int .u64 y0) ∧ w'.cell? ⟨w.heap.size + 1, 1, none⟩ = some (.int .u64 y1) ∧ w'.cell? ⟨w.heap.size + 1, 2, none⟩ = some (.int .u64 y2) ∧ w'.cell? ⟨w.heap.size + 1, 3, none⟩ = some (.int .u64 y3))) (simp [go_sem])
      ((first | (go_at_call_of 97 (Value.int IntKind.u64 x0); refine (SX _).mono ?_; rintro e w1 ⟨u0, u1, u2, u3, rfl, hu, os2, n2, rfl⟩) | (go_at_call_of 97 (Value.int IntKind.u64 y0); refine (SY _).mono ?_; rintro e w1 ⟨v0, v1, v2, v3, rfl, hv, os3, n3, rfl⟩) | (go_at_call 119; refine (times_any u0 u1 u2 u3 (abs x) v0 v1 v2 v3 (abs y) hu hv _).mono ?_; rintro e w1 ⟨p0, p1, p2, p3, ok, rfl, hp, os4, n4, rfl⟩)))
    all_goals
      go_wp2
      go_meet
      case rel =>
        first
          | (refine ⟨_, _, _, _, p0, p1, p2, p3, ok, ?_, rfl, hp, rfl⟩; simp; done)
          | (refine ⟨_, _, #[], _, p0, p1, p2, p3, ok, ?_, rfl, hp, Gr.nil _⟩; simp; done)
          | (refine ⟨#[], _, _, _, p0, p1, p2, p3, ok, ?_, rfl, hp, Gr.alloc0 _ _ _ _⟩; simp; done)
  case rest =>
    obtain ⟨os, n, os', n', p0, p1, p2, p3, ok, rfl, rfl, hp, rfl⟩ := hcut
    cases ok with
    | false =>
      have hT : Told (x * y) 0 0 0 0 false := by
        rcases hp with ⟨h, _⟩ | ⟨_, h, _⟩
        · cases h
        · refine Or.inr ⟨rfl, ?_, rfl, rfl, rfl, rfl⟩
          rw [← HMS.out]; unfold sgn; split <;> omega
      go_wp2
      exact bodyPost_ret (v := .tuple #[.agg #[.int .u64 0, .int .u64 0, .int .u64 0, .int .u64 0], .bool false]) (by simp [results, Try.results95, go_sem]) rfl ⟨0, 0, 0, 0, false, rfl, hT, (by with_reducible repeat (first | exact IsGr.refl _ | refine IsGr.gr ?_ _ _ | refine IsGr.alloc ?_ _ | refine IsGr.drew ?_ | refine IsGr.drewN ?_ _))⟩
    | true =>
      have hP : Is p0 p1 p2 p3 (abs x * abs y) := by
        rcases hp with ⟨_, _, h⟩ | ⟨h, _⟩
        · exact h
        · cases h
      have CS := fun w => signed_told p0 p1 p2 p3 (abs x * abs y) (bx != by') hP w
      rw [HMS.out] at CS
      clear hp hP
      go_wp2
      go_region_held3 (fun w' => (w'.cell? ⟨w.heap.size, 0, none⟩ = some (.int .u64 x0) ∧ w'.cell? ⟨w.heap.size, 1, none⟩ = some (.int .u64 x1) ∧ w'.cell? ⟨w.heap.size, 2, none⟩ = some (.int .u64 x2) ∧ w'.cell? ⟨w.heap.size, 3, none⟩ = some (.int .u64 x3)) ∧ (w'.cell? ⟨w.heap.size + 1, 0, none⟩ = some (.int .u64 y0) ∧ w'.cell? ⟨w.heap.size + 1, 1, none⟩ = some (.int .u64 y1) ∧ w'.cell? ⟨w.heap.size + 1, 2, none⟩ = some (.int .u64 y2) ∧ w'.cell? ⟨w.heap.size + 1, 3, none⟩ = some (.int .u64 y3)) ∧ (w'.cell? ⟨w.heap.size + 1 + 1 + 1 + os.size, 0, none⟩ = some (.int .u64 p0) ∧ w'.cell? ⟨w.heap.size + 1 + 1 + 1 + os.size, 1, none⟩ = some (.int .u64 p1) ∧ w'.cell? ⟨w.heap.size + 1 + 1 + 1 + os.size, 2, none⟩ = some (.int .u64 p2) ∧ w'.cell? ⟨w.heap.size + 1 + 1 + 1 + os.size, 3, none⟩ = some (.int .u64 p3))) (simp [go_sem])
        ((first | (go_at_call_of 118 (Value.int IntKind.u64 x0); refine (BX _).mono ?_; rintro e w1 ⟨rfl, os2, n2, rfl⟩) | (go_at_call_of 118 (Value.int IntKind.u64 y0); refine (BY _).mono ?_; rintro e w1 ⟨rfl, os3, n3, rfl⟩) | (go_at_call 120; refine (CS _).mono ?_; rintro e w1 ⟨s0, s1, s2, s3, ok, rfl, hT, os4, n4, rfl⟩)))
      all_goals
        go_wp2
        exact bodyPost_ret (v := .tuple #[.agg #[.int .u64 s0, .int .u64 s1, .int .u64 s2, .int .u64 s3], .bool ok]) (by simp [results, Try.results95, go_sem]) rfl ⟨s0, s1, s2, s3, ok, rfl, hT, (by with_reducible repeat (first | exact IsGr.refl _ | refine IsGr.gr ?_ _ _ | refine IsGr.alloc ?_ _ | refine IsGr.drew ?_ | refine IsGr.drewN ?_ _))⟩
end Go.Proofs.Ytohhlhoijanjfaa
