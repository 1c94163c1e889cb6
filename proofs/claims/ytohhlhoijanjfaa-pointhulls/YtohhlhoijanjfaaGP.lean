/- What the rows of the statements share: the arguments opened and shut. What the rows of the statements share: points opened and shut. -/
import Derived.Test.YtohhlhoijanjfaaW3
import Derived.ProofKit
import Derived.Laws.IdiomArrays
namespace Go.Proofs.Ytohhlhoijanjfaa
open Go.ChangeShapes Go.WideShapes Go.ChangeAt Go.RowKit

theorem own_knob : ownKnob Try.prog.godebug = none := by kernel_rfl
end Go.Proofs.Ytohhlhoijanjfaa
namespace Go.Proofs.Ytohhlhoijanjfaa
open Go.ChangeShapes Go.WideShapes Go.ChangeAt Go.RowKit

theorem cells_n : Try.prog.cellsOf 3 = 1 := by kernel_rfl
theorem cells_pt : Try.prog.cellsOf 24 = 2 := by kernel_rfl
end Go.Proofs.Ytohhlhoijanjfaa
