/- Plain facts on signs: products of signs, the other sign. -/
import Derived.Test.YtohhlhoijanjfaaU7g
namespace Go.Proofs.Ytohhlhoijanjfaa
open Go.RowKit

theorem cmpI_neg {x y : Int} (h : x = -y) : cmpI x 0 = -cmpI y 0 := by
  subst h; unfold cmpI; repeat' split
  all_goals omega
theorem wrap_prod {x y : Int} (hx : x = -1 ∨ x = 0 ∨ x = 1) (hy : y = -1 ∨ y = 0 ∨ y = 1) : IntKind.i64.wrap (x * y) = x * y ∧ (x * y = -1 ∨ x * y = 0 ∨ x * y = 1) := by
  rw [IntKind.wrap_i64]
  rcases hx with rfl | rfl | rfl <;> rcases hy with rfl | rfl | rfl <;> simp
end Go.Proofs.Ytohhlhoijanjfaa
