/- Contracts of package wide over the loaded program: Bits, Power. -/
import Derived.Test.YtohhlhoijanjfaaW9
import Derived.Test.YtohhlhoijanjfaaW11
namespace Go.Proofs.Ytohhlhoijanjfaa
open Go.RowKit Go.Shelf
attribute [local go_sem] Gr.size Gr.cell? Gr.frozen? Gr.setCell Gr.drew Gr.drewN Gr.of_drew Gr.of_drewN Gr.gr Gr.lt_of1 Gr.le_of1 Gr.lt_of2 Gr.le_of2 Gr.lt_of3 Gr.le_of3 Gr.lt_of4 Gr.le_of4 Gr.lt_of5 Gr.le_of5 Gr.lt_of6 Gr.le_of6 Gr.lt_of7 Gr.le_of7 Gr.lt_of8 Gr.le_of8

set_option maxHeartbeats 4000000 in
theorem Bits_any (x0 x1 x2 x3 x : Int) (hx : IsI x0 x1 x2 x3 x) (w : World) :
    Calls Try.prog 74 #[.agg #[.int .u64 x0, .int .u64 x1, .int .u64 x2, .int .u64 x3]] w fun e w' => ∃ L : Nat, e = .returned (.int .i64 L) ∧ L ≤ 256 ∧ BL (abs x) L ∧ IsGr w w' := by
  have SX := fun w => sizeOf_abs hx w
  go_enter Try.func74, Try.ntmps74
  go_wp2_with fail
  refine (SX _).mono ?_
  rintro e w1 ⟨s0, s1, s2, s3, rfl, hs, os1, n1, rfl⟩
  go_wp2_with fail
  refine (length_any s0 s1 s2 s3 _ hs _).mono ?_
  rintro e w1 ⟨L, rfl, hL, hB, os2, n2, rfl⟩
  go_wp2
  go_ret
  exact ⟨L, rfl, hL, hB, (by with_reducible repeat (first | exact IsGr.refl _ | refine IsGr.gr ?_ _ _ | refine IsGr.alloc ?_ _ | refine IsGr.drew ?_ | refine IsGr.drewN ?_ _))⟩

/-- What a power is told as. -/
def PowT (x : Int) (n : Nat) (s0 s1 s2 s3 : Int) (ok : Bool) : Prop :=
  (ok = true ∧ (∀ k, k ≤ n → -57896044618658097711785492504343953926634992332820282019728792003956564819968 ≤ x ^ k ∧ x ^ k < 57896044618658097711785492504343953926634992332820282019728792003956564819968) ∧ IsI s0 s1 s2 s3 (x ^ n)) ∨ (ok = false ∧ (s0 = 0 ∧ s1 = 0 ∧ s2 = 0 ∧ s3 = 0) ∧ ∃ k, k ≤ n ∧ ¬ (-57896044618658097711785492504343953926634992332820282019728792003956564819968 ≤ x ^ k ∧ x ^ k < 57896044618658097711785492504343953926634992332820282019728792003956564819968))

def PowP (x : Int) (n : Nat) (w : World) (e : Ending) (w' : World) : Prop := ∃ (s0 s1 s2 s3 : Int) (ok : Bool), e = .returned (.tuple #[.agg #[.int .u64 s0, .int .u64 s1, .int .u64 s2, .int .u64 s3], .bool ok]) ∧ PowT x n s0 s1 s2 s3 ok ∧ IsGr w w'

end Go.Proofs.Ytohhlhoijanjfaa
