/- gromalaw04.CrossSpots: for every two spots and every point the law answers true. -/
import Derived.Test.YtohhlhoijanjfaaZ9ag
import Derived.Test.YtohhlhoijanjfaaZ9bg
import Derived.Test.YtohhlhoijanjfaaZ9cg
namespace Go.Proofs.Ytohhlhoijanjfaa
open Go.RowKit Go.Shelf

theorem law_spots (x y z u v t a1 a2 : Int) (fx : Fit x) (fy : Fit y) (fz : Fit z) (fu : Fit u) (fv : Fit v) (ft : Fit t) (w : World) :
    Calls Try.prog 7 #[.agg #[.int .u64 (wd0 x), .int .u64 (wd1 x), .int .u64 (wd2 x), .int .u64 (wd3 x), .int .u64 (wd0 y), .int .u64 (wd1 y), .int .u64 (wd2 y), .int .u64 (wd3 y), .int .u64 (wd0 z), .int .u64 (wd1 z), .int .u64 (wd2 z), .int .u64 (wd3 z)], .agg #[.int .u64 (wd0 u), .int .u64 (wd1 u), .int .u64 (wd2 u), .int .u64 (wd3 u), .int .u64 (wd0 v), .int .u64 (wd1 v), .int .u64 (wd2 v), .int .u64 (wd3 v), .int .u64 (wd0 t), .int .u64 (wd1 t), .int .u64 (wd2 t), .int .u64 (wd3 t)], .agg #[.int .i64 a1, .int .i64 a2]] w fun e w' => e = .returned (.bool true) ∧ IsGr w w' := by
  cases hA : spotR x y z with
  | false =>
    have hW : wholeS x y z = false := by unfold wholeS; rw [hA]; rfl
    exact law_spots_wrong x y z u v t a1 a2 fx fy fz fu fv ft hA hW w
  | true =>
    cases hW : wholeS x y z with
    | false => exact law_spots_part x y z u v t a1 a2 fx fy fz fu fv ft hA hW w
    | true => exact law_spots_whole x y z u v t a1 a2 fx fy fz fu fv ft hA hW w
end Go.Proofs.Ytohhlhoijanjfaa
