/- Contracts of package wide over the loaded program: Div at every two Ints. -/
import Derived.Test.YtohhlhoijanjfaaW10
namespace Go.Proofs.Ytohhlhoijanjfaa
open Go.RowKit Go.Shelf

/-- What Div answers. -/
def DivAll (x y s0 s1 s2 s3 r0 r1 r2 r3 : Int) (ok : Bool) : Prop :=
  (ok = true ∧ y ≠ 0 ∧ IsI s0 s1 s2 s3 (x.fdiv y) ∧ IsI r0 r1 r2 r3 (x.fmod y)) ∨
  (ok = false ∧ (y = 0 ∨ x = -57896044618658097711785492504343953926634992332820282019728792003956564819968 ∧ y = -1) ∧ s0 = 0 ∧ s1 = 0 ∧ s2 = 0 ∧ s3 = 0 ∧ r0 = 0 ∧ r1 = 0 ∧ r2 = 0 ∧ r3 = 0)

theorem Div_all (x0 x1 x2 x3 x y0 y1 y2 y3 y : Int) (hx : IsI x0 x1 x2 x3 x) (hy : IsI y0 y1 y2 y3 y) (w : World) :
    Calls Try.prog 99 #[.agg #[.int .u64 x0, .int .u64 x1, .int .u64 x2, .int .u64 x3], .agg #[.int .u64 y0, .int .u64 y1, .int .u64 y2, .int .u64 y3]] w fun e w' => ∃ (s0 s1 s2 s3 r0 r1 r2 r3 : Int) (ok : Bool), e = .returned (.tuple #[.agg #[.int .u64 s0, .int .u64 s1, .int .u64 s2, .int .u64 s3], .agg #[.int .u64 r0, .int .u64 r1, .int .u64 r2, .int .u64 r3], .bool ok]) ∧ DivAll x y s0 s1 s2 s3 r0 r1 r2 r3 ok ∧ IsGr w w' := by
  by_cases h : y = 0
  · subst h
    refine (Div_zero x0 x1 x2 x3 y0 y1 y2 y3 hy w).mono ?_
    rintro e w' ⟨rfl, hg⟩
    exact ⟨0, 0, 0, 0, 0, 0, 0, 0, false, rfl, Or.inr ⟨rfl, Or.inl rfl, rfl, rfl, rfl, rfl, rfl, rfl, rfl, rfl⟩, hg⟩
  · refine (Div_any x0 x1 x2 x3 x y0 y1 y2 y3 y hx hy h w).mono ?_
    rintro e w' ⟨s0, s1, s2, s3, r0, r1, r2, r3, ok, rfl, hD, hg⟩
    refine ⟨s0, s1, s2, s3, r0, r1, r2, r3, ok, rfl, ?_, hg⟩
    rcases hD with ⟨a, b, c⟩ | hD
    · exact Or.inl ⟨a, h, b, c⟩
    · exact Or.inr ⟨hD.1, Or.inr ⟨hD.2.1, hD.2.2.1⟩, hD.2.2.2⟩
end Go.Proofs.Ytohhlhoijanjfaa
