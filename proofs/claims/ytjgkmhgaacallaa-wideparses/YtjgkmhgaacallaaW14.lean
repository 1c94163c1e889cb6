/- Contracts of package wide over the loaded program: one more decimal digit; Parse. -/
import Derived.Test.YtjgkmhgaacallaaW9
import Derived.Test.YtjgkmhgaacallaaM7
namespace Go.Proofs.Ytjgkmhgaacallaa
open Go.RowKit Go.Shelf
attribute [local go_sem] Gr.size Gr.cell? Gr.frozen? Gr.setCell Gr.drew Gr.drewN Gr.of_drew Gr.of_drewN Gr.gr Gr.lt_of1 Gr.le_of1 Gr.lt_of2 Gr.le_of2 Gr.lt_of3 Gr.le_of3 Gr.lt_of4 Gr.le_of4 Gr.lt_of5 Gr.le_of5 Gr.lt_of6 Gr.le_of6 Gr.lt_of7 Gr.le_of7 Gr.lt_of8 Gr.le_of8

/-- What a size with one more digit is told as. -/
def Len (x d s0 s1 s2 s3 : Int) (ok : Bool) : Prop := (ok = true ∧ Is s0 s1 s2 s3 (x * 10 + d)) ∨ (ok = false ∧ 115792089237316195423570985008687907853269984665640564039457584007913129639936 ≤ x * 10 + d ∧ s0 = 0 ∧ s1 = 0 ∧ s2 = 0 ∧ s3 = 0)

set_option maxHeartbeats 4000000 in
theorem lengthened_ten (x0 x1 x2 x3 x d : Int) (hx : Is x0 x1 x2 x3 x) (d0 : 0 ≤ d) (d1 : d < 10) (w : World) :
    Calls Try.prog 69 #[.agg #[.int .u64 x0, .int .u64 x1, .int .u64 x2, .int .u64 x3], .int .u64 10, .int .u64 d] w fun e w' => ∃ (s0 s1 s2 s3 : Int) (ok : Bool), e = .returned (.tuple #[.agg #[.int .u64 s0, .int .u64 s1, .int .u64 s2, .int .u64 s3], .bool ok]) ∧ Len x d s0 s1 s2 s3 ok ∧ IsGr w w' := by
  have hX := hx
  obtain ⟨a0, b0, a1, b1, a2, b2, a3, b3, hE⟩ := hX
  have HE : Hid (x = x0 + 18446744073709551616 * x1 + 340282366920938463463374607431768211456 * x2 + 6277101735386680763835789423207666416102355444464034512896 * x3) := hE
  clear hE hx
  go_enter Try.func69, Try.ntmps69
  go_wp2
  refine wp_loop_rounds 5 ?_
  rw [rounds_succ]; go_wp2_with fail
  refine (timesPlus_any x0 10 d 0 (by omega) (by omega) (by omega) (by omega) (by omega) (by omega) (by omega) (by omega) _).mono ?_
  rintro e w1 ⟨h0, l0, rfl, p0, q0, r0, s0, E0, rfl⟩
  go_wp2
  rw [rounds_succ]; go_wp2_with fail
  refine (timesPlus_any x1 10 h0 0 (by omega) (by omega) (by omega) (by omega) (by omega) (by omega) (by omega) (by omega) _).mono ?_
  rintro e w1 ⟨h1, l1, rfl, p1, q1, r1, s1, E1, rfl⟩
  go_wp2
  rw [rounds_succ]; go_wp2_with fail
  refine (timesPlus_any x2 10 h1 0 (by omega) (by omega) (by omega) (by omega) (by omega) (by omega) (by omega) (by omega) _).mono ?_
  rintro e w1 ⟨h2, l2, rfl, p2, q2, r2, s2, E2, rfl⟩
  go_wp2
  rw [rounds_succ]; go_wp2_with fail
  refine (timesPlus_any x3 10 h2 0 (by omega) (by omega) (by omega) (by omega) (by omega) (by omega) (by omega) (by omega) _).mono ?_
  rintro e w1 ⟨h3, l3, rfl, p3, q3, r3, s3, E3, rfl⟩
  go_wp2
  rw [rounds_succ]
  by_cases hz : h3 = 0
  · have hq : (h3 != 0) = false := by simp [hz]
    have hq2 : (h3 == 0) = true := by simp [hz]
    go_wp2
    refine bodyPost_ret (v := .tuple #[.agg #[.int .u64 l0, .int .u64 l1, .int .u64 l2, .int .u64 l3], .bool true]) (by simp [results, Try.results69, go_sem]) rfl ⟨l0, l1, l2, l3, true, rfl, Or.inl ⟨rfl, ?_⟩, (by with_reducible repeat (first | exact IsGr.refl _ | refine IsGr.gr ?_ _ _ | refine IsGr.alloc ?_ _ | refine IsGr.drew ?_ | refine IsGr.drewN ?_ _))⟩
    have h := HE.out; have h3 := E3.out; have h2 := E2.out; have h1 := E1.out; have h0 := E0.out
    unfold Is; omega
  · have hq : (h3 != 0) = true := by simp [hz]
    have hq2 : (h3 == 0) = false := by simp [hz]
    go_wp2
    refine bodyPost_ret (v := .tuple #[.agg #[.int .u64 0, .int .u64 0, .int .u64 0, .int .u64 0], .bool false]) (by simp [results, Try.results69, go_sem]) rfl ⟨0, 0, 0, 0, false, rfl, Or.inr ⟨rfl, ?_, rfl, rfl, rfl, rfl⟩, (by with_reducible repeat (first | exact IsGr.refl _ | refine IsGr.gr ?_ _ _ | refine IsGr.alloc ?_ _ | refine IsGr.drew ?_ | refine IsGr.drewN ?_ _))⟩
    have h := HE.out; have h3 := E3.out; have h2 := E2.out; have h1 := E1.out; have h0 := E0.out
    omega
end Go.Proofs.Ytjgkmhgaacallaa
