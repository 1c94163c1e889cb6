/- Contracts of package wide over the loaded program: Bits, Power. -/
import Derived.Test.YtpdpofgmedoelaaW9
import Derived.Test.YtpdpofgmedoelaaW11
namespace Go.Proofs.Ytpdpofgmedoelaa
open Go.RowKit Go.Shelf
attribute [local go_sem] Gr.size Gr.cell? Gr.frozen? Gr.setCell Gr.drew Gr.drewN Gr.of_drew Gr.of_drewN Gr.gr Gr.lt_of1 Gr.le_of1 Gr.lt_of2 Gr.le_of2 Gr.lt_of3 Gr.le_of3 Gr.lt_of4 Gr.le_of4 Gr.lt_of5 Gr.le_of5 Gr.lt_of6 Gr.le_of6 Gr.lt_of7 Gr.le_of7 Gr.lt_of8 Gr.le_of8

set_option maxHeartbeats 4000000 in
theorem Bits_any (x0 x1 x2 x3 x : Int) (hx : IsI x0 x1 x2 x3 x) (w : World) :
    Calls Try.prog 18 #[.agg #[.int .u64 x0, .int .u64 x1, .int .u64 x2, .int .u64 x3]] w fun e w' => ∃ L : Nat, e = .returned (.int .i64 L) ∧ L ≤ 256 ∧ BL (abs x) L ∧ IsGr w w' := by
  have SX := fun w => sizeOf_abs hx w
  go_enter Try.func18, Try.ntmps18
  go_wp2_with fail
  refine (SX _).mono ?_
  rintro e w1 ⟨s0, s1, s2, s3, rfl, hs, os1, n1, rfl⟩
  go_wp2_with fail
  refine (length_any s0 s1 s2 s3 _ hs _).mono ?_
  rintro e w1 ⟨L, rfl, hL, hB, os2, n2, rfl⟩
  go_wp2
  go_ret
  exact ⟨L, rfl, hL, hB, (by with_reducible repeat (first | exact IsGr.refl _ | refine IsGr.gr ?_ _ _ | refine IsGr.alloc ?_ _ | refine IsGr.drew ?_ | refine IsGr.drewN ?_ _))⟩

/-- What a power is told as. -/
def PowT (x : Int) (n : Nat) (s0 s1 s2 s3 : Int) (ok : Bool) : Prop :=
  (ok = true ∧ (∀ k, k ≤ n → -57896044618658097711785492504343953926634992332820282019728792003956564819968 ≤ x ^ k ∧ x ^ k < 57896044618658097711785492504343953926634992332820282019728792003956564819968) ∧ IsI s0 s1 s2 s3 (x ^ n)) ∨ (ok = false ∧ (s0 = 0 ∧ s1 = 0 ∧ s2 = 0 ∧ s3 = 0) ∧ ∃ k, k ≤ n ∧ ¬ (-57896044618658097711785492504343953926634992332820282019728792003956564819968 ≤ x ^ k ∧ x ^ k < 57896044618658097711785492504343953926634992332820282019728792003956564819968))

set_option maxHeartbeats 4000000 in
theorem Power_none (x0 x1 x2 x3 n : Int) (hn : n < 0 ∨ 256 < n) (w : World) :
    Calls Try.prog 25 #[.agg #[.int .u64 x0, .int .u64 x1, .int .u64 x2, .int .u64 x3], .int .i64 n] w fun e w' => e = .returned (.tuple #[.agg #[.int .u64 0, .int .u64 0, .int .u64 0, .int .u64 0], .bool false]) ∧ IsGr w w' := by
  by_cases h : n < 0
  · go_enter Try.func25, Try.ntmps25
    go_wp2
    exact bodyPost_ret (v := .tuple #[.agg #[.int .u64 0, .int .u64 0, .int .u64 0, .int .u64 0], .bool false]) (by simp [results, Try.results25, go_sem]) rfl ⟨rfl, (by with_reducible repeat (first | exact IsGr.refl _ | refine IsGr.gr ?_ _ _ | refine IsGr.alloc ?_ _ | refine IsGr.drew ?_ | refine IsGr.drewN ?_ _))⟩
  · have h2 : 256 < n := by omega
    have h3 : decide (n < 0) = false := by simp; omega
    clear hn
    go_enter Try.func25, Try.ntmps25
    go_wp2
    exact bodyPost_ret (v := .tuple #[.agg #[.int .u64 0, .int .u64 0, .int .u64 0, .int .u64 0], .bool false]) (by simp [results, Try.results25, go_sem]) rfl ⟨rfl, (by with_reducible repeat (first | exact IsGr.refl _ | refine IsGr.gr ?_ _ _ | refine IsGr.alloc ?_ _ | refine IsGr.drew ?_ | refine IsGr.drewN ?_ _))⟩

def PowP (x : Int) (n : Nat) (w : World) (e : Ending) (w' : World) : Prop := ∃ (s0 s1 s2 s3 : Int) (ok : Bool), e = .returned (.tuple #[.agg #[.int .u64 s0, .int .u64 s1, .int .u64 s2, .int .u64 s3], .bool ok]) ∧ PowT x n s0 s1 s2 s3 ok ∧ IsGr w w'

set_option maxHeartbeats 4000000 in
theorem WPower_any (x0 x1 x2 x3 x : Int) (hx : IsI x0 x1 x2 x3 x) (n : Nat) (hn : n ≤ 256) (w : World) :
    Calls Try.prog 25 #[.agg #[.int .u64 x0, .int .u64 x1, .int .u64 x2, .int .u64 x3], .int .i64 n] w fun e w' => PowP x n w e w' := by
  have C1 := fun w => Of_any 1 (by omega) (by omega) w
  have h0 : decide ((n : Int) < 0) = false := by simp
  have h1 : decide (256 < (n : Int)) = false := by simp; omega
  go_enter Try.func25, Try.ntmps25
  go_wp2_with fail
  refine (C1 _).mono ?_
  rintro e w1 ⟨o0, o1, o2, o3, rfl, ho, os1, n1, rfl⟩
  go_wp2
  go_loopw [17] (fun t17 wr => ∃ (i : Nat) (p0 p1 p2 p3 : Int) (os : Array Obj) (d : Nat), i ≤ n ∧ t17 = .int .i64 i ∧ Hid (∀ k, k ≤ i → -57896044618658097711785492504343953926634992332820282019728792003956564819968 ≤ x ^ k ∧ x ^ k < 57896044618658097711785492504343953926634992332820282019728792003956564819968) ∧ IsI p0 p1 p2 p3 (x ^ i) ∧
      wr = Gr ((Gr ((w.alloc (.cells #[.int .u64 x0, .int .u64 x1, .int .u64 x2, .int .u64 x3] 24)).alloc (.cells #[.int .u64 0, .int .u64 0, .int .u64 0, .int .u64 0] 24)) os1 n1).alloc (.cells #[.int .u64 p0, .int .u64 p1, .int .u64 p2, .int .u64 p3] 24)) os d) (fun t17 _ => (n - intOf t17).toNat)
  case atStart =>
    refine ⟨0, o0, o1, o2, o3, #[], n1, by omega, rfl, ?_, by simpa using ho, Gr.nil _⟩
    intro k hk
    obtain rfl : k = 0 := by omega
    simp
  case round =>
    obtain ⟨i, p0, p1, p2, p3, os, d, hi, rfl, HA, hp, rfl⟩ := hrel
    by_cases hlt : i < n
    · have CM := fun w => Mul_any p0 p1 p2 p3 (x ^ i) x0 x1 x2 x3 x hp hx w
      rw [← Int.pow_succ] at CM
      go_wp2_with fail
      refine (CM _).mono ?_
      rintro e w1 ⟨s0, s1, s2, s3, ok, rfl, hT, os2, n2, rfl⟩
      rcases hT with ⟨rfl, hs⟩ | ⟨rfl, ho, rfl, rfl, rfl, rfl⟩
      · go_wp2
        go_roundw
        case rel =>
          refine ⟨i + 1, s0, s1, s2, s3, _, _, by omega, by go_num, (fun k hk => ?_), hs, rfl⟩
          by_cases hki : k ≤ i
          · exact HA.out k hki
          · obtain rfl : k = i + 1 := by omega
            exact hs.2
        case measure => simp [intOf]; omega
      · have HO : Hid (¬ (-57896044618658097711785492504343953926634992332820282019728792003956564819968 ≤ x ^ (i + 1) ∧ x ^ (i + 1) < 57896044618658097711785492504343953926634992332820282019728792003956564819968)) := ho
        clear ho
        go_wp2
        exact bodyPost_ret (v := .tuple #[.agg #[.int .u64 0, .int .u64 0, .int .u64 0, .int .u64 0], .bool false]) (by simp [results, Try.results25, go_sem]) rfl ⟨0, 0, 0, 0, false, rfl, Or.inr ⟨rfl, ⟨rfl, rfl, rfl, rfl⟩, i + 1, by omega, HO.out⟩, (by with_reducible repeat (first | exact IsGr.refl _ | refine IsGr.gr ?_ _ _ | refine IsGr.alloc ?_ _ | refine IsGr.drew ?_ | refine IsGr.drewN ?_ _))⟩
    · obtain rfl : i = n := by omega
      go_wp2
      exact bodyPost_ret (v := .tuple #[.agg #[.int .u64 p0, .int .u64 p1, .int .u64 p2, .int .u64 p3], .bool true]) (by simp [results, Try.results25, go_sem]) rfl ⟨p0, p1, p2, p3, true, rfl, Or.inl ⟨rfl, HA.out, hp⟩, (by with_reducible repeat (first | exact IsGr.refl _ | refine IsGr.gr ?_ _ _ | refine IsGr.alloc ?_ _ | refine IsGr.drew ?_ | refine IsGr.drewN ?_ _))⟩
end Go.Proofs.Ytpdpofgmedoelaa
