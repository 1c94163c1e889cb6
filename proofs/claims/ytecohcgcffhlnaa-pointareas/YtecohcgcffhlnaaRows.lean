/-
  No cell of these rows narrows 'for every input' (looked for: loops, veiled, ifaces, maps, wideKeys, modest, calm, conditions, laid).
  DERIVED. THE GIVEN ROWS OF THIS SEAT. 7 by the template 'for every input the law returns true; each argument reads behind the call as it read before'; 0 by the template 'total and deterministic' (their statements: YtecohcgcffhlnaaTotals.lean).
  GIVEN WITH THE SEED: the statements are not yours to turn. If you find one false, say at which input.
  Laid BY PROGRAM, IN A SANDBOX (cutbox-rows.mjs): the forced cells as the released guide's own fill.sh prints them over the translation 708a9bab394e8fbf… (all of the seat's roots in one cut). By AI agents, Wed Nov 11 2026. No macro, syntax, notation, axiom, sorry.
-/
import Derived.Test.YtecohcgcffhlnaaChecked
import GoSem.Claim
import GoSem.ClaimJoined
import GoSem.ClaimMapViews
import Derived.JoinedTies
import Derived.KernelRfl
namespace Go.Proofs.Ytecohcgcffhlnaa
/- THE CELL 'sum', in the pinned program and in every row, IS THE sha256 OF THE DUMP (.gsa) THAT YtecohcgcffhlnaaProg.lean LOADS. Nothing in Lean hashes anything: it is a label: what it is worth is what the hold of that sum in a sandbox is worth. -/
noncomputable def Try.pinned : Pinned := { name := "ytecohcgcffhlnaa", sum := "708a9bab394e8fbf5980e115b824f3d375759aef260d7df16d98297b1e2d72ca", checked := Try.checked }
namespace Rows
def none {H : Type} : Left H := { results := [], args := [] }

/-- 'gromalaw02.RatioMakes': WHATEVER THE INPUT: true; the input reads as it did. -/
def ratioMakesSpec : ChangeSpec := { name := "ratioMakes", fn := fun _ => fun
  | [d1, d2, d3] => { results := [.lit (.bool true)], args := [d1, d2, d3] }
  | _ => none }
def ratioMakesRow : OpenClaim := { program := "ytecohcgcffhlnaa", sum := "708a9bab394e8fbf5980e115b824f3d375759aef260d7df16d98297b1e2d72ca", func := "groma/gromalaw02.RatioMakes", spec := "ratioMakes", inPlace := ["math/bits.Sub64", "math/bits.Add64"], apart := false }
def RatioMakesSaid : Prop := ratioMakesRow.holds Try.pinned (OpenSpec.ofChange ratioMakesSpec)

/-- ITS FALSE NEIGHBOUR: 'it returns false'. Refute it at one input. -/
def ratioMakesWrong : ChangeSpec := { name := "ratioMakes", fn := fun _ => fun
  | [d1, d2, d3] => { results := [.lit (.bool false)], args := [d1, d2, d3] }
  | _ => none }
def RatioMakesWrongFalsely : Prop := ratioMakesRow.holds Try.pinned (OpenSpec.ofChange ratioMakesWrong)

/-- 'gromalaw02.RatioCounts': WHATEVER THE INPUT: true; the input reads as it did. -/
def ratioCountsSpec : ChangeSpec := { name := "ratioCounts", fn := fun _ => fun
  | [d1, d2] => { results := [.lit (.bool true)], args := [d1, d2] }
  | _ => none }
def ratioCountsRow : OpenClaim := { program := "ytecohcgcffhlnaa", sum := "708a9bab394e8fbf5980e115b824f3d375759aef260d7df16d98297b1e2d72ca", func := "groma/gromalaw02.RatioCounts", spec := "ratioCounts", inPlace := ["math/bits.Sub64", "math/bits.Add64"], apart := false }
def RatioCountsSaid : Prop := ratioCountsRow.holds Try.pinned (OpenSpec.ofChange ratioCountsSpec)

/-- ITS FALSE NEIGHBOUR: 'it returns false'. Refute it at one input. -/
def ratioCountsWrong : ChangeSpec := { name := "ratioCounts", fn := fun _ => fun
  | [d1, d2] => { results := [.lit (.bool false)], args := [d1, d2] }
  | _ => none }
def RatioCountsWrongFalsely : Prop := ratioCountsRow.holds Try.pinned (OpenSpec.ofChange ratioCountsWrong)

/-- 'gromalaw03.PointCircles': WHATEVER THE INPUT: true; the input reads as it did. -/
def pointCirclesSpec : ChangeSpec := { name := "pointCircles", fn := fun _ => fun
  | [d] => { results := [.lit (.bool true)], args := [d] }
  | _ => none }
def pointCirclesRow : OpenClaim := { program := "ytecohcgcffhlnaa", sum := "708a9bab394e8fbf5980e115b824f3d375759aef260d7df16d98297b1e2d72ca", func := "groma/gromalaw03.PointCircles", spec := "pointCircles", inPlace := ["math/bits.Sub64", "math/bits.Add64"], apart := false }
def PointCirclesSaid : Prop := pointCirclesRow.holds Try.pinned (OpenSpec.ofChange pointCirclesSpec)

/-- ITS FALSE NEIGHBOUR: 'it returns false'. Refute it at one input. -/
def pointCirclesWrong : ChangeSpec := { name := "pointCircles", fn := fun _ => fun
  | [d] => { results := [.lit (.bool false)], args := [d] }
  | _ => none }
def PointCirclesWrongFalsely : Prop := pointCirclesRow.holds Try.pinned (OpenSpec.ofChange pointCirclesWrong)

/-- 'gromalaw03.PointIn': WHATEVER THE INPUT: true; the input reads as it did. -/
def pointInSpec : ChangeSpec := { name := "pointIn", fn := fun _ => fun
  | [d] => { results := [.lit (.bool true)], args := [d] }
  | _ => none }
def pointInRow : OpenClaim := { program := "ytecohcgcffhlnaa", sum := "708a9bab394e8fbf5980e115b824f3d375759aef260d7df16d98297b1e2d72ca", func := "groma/gromalaw03.PointIn", spec := "pointIn", inPlace := ["math/bits.Sub64", "math/bits.Add64"], apart := false }
def PointInSaid : Prop := pointInRow.holds Try.pinned (OpenSpec.ofChange pointInSpec)

/-- ITS FALSE NEIGHBOUR: 'it returns false'. Refute it at one input. -/
def pointInWrong : ChangeSpec := { name := "pointIn", fn := fun _ => fun
  | [d] => { results := [.lit (.bool false)], args := [d] }
  | _ => none }
def PointInWrongFalsely : Prop := pointInRow.holds Try.pinned (OpenSpec.ofChange pointInWrong)

/-- 'gromalaw03.PointAreas': WHATEVER THE INPUT: true; the input reads as it did. -/
def pointAreasSpec : ChangeSpec := { name := "pointAreas", fn := fun _ => fun
  | [d1, d2] => { results := [.lit (.bool true)], args := [d1, d2] }
  | _ => none }
def pointAreasRow : OpenClaim := { program := "ytecohcgcffhlnaa", sum := "708a9bab394e8fbf5980e115b824f3d375759aef260d7df16d98297b1e2d72ca", func := "groma/gromalaw03.PointAreas", spec := "pointAreas", inPlace := ["math/bits.Sub64", "math/bits.Add64"], apart := false }
def PointAreasSaid : Prop := pointAreasRow.holds Try.pinned (OpenSpec.ofChange pointAreasSpec)

/-- ITS FALSE NEIGHBOUR: 'it returns false'. Refute it at one input. -/
def pointAreasWrong : ChangeSpec := { name := "pointAreas", fn := fun _ => fun
  | [d1, d2] => { results := [.lit (.bool false)], args := [d1, d2] }
  | _ => none }
def PointAreasWrongFalsely : Prop := pointAreasRow.holds Try.pinned (OpenSpec.ofChange pointAreasWrong)

/-- 'gromalaw03.PointWinds': WHATEVER THE INPUT: true; the input reads as it did. -/
def pointWindsSpec : ChangeSpec := { name := "pointWinds", fn := fun _ => fun
  | [d1, d2] => { results := [.lit (.bool true)], args := [d1, d2] }
  | _ => none }
def pointWindsRow : OpenClaim := { program := "ytecohcgcffhlnaa", sum := "708a9bab394e8fbf5980e115b824f3d375759aef260d7df16d98297b1e2d72ca", func := "groma/gromalaw03.PointWinds", spec := "pointWinds", inPlace := ["math/bits.Sub64", "math/bits.Add64"], apart := false }
def PointWindsSaid : Prop := pointWindsRow.holds Try.pinned (OpenSpec.ofChange pointWindsSpec)

/-- ITS FALSE NEIGHBOUR: 'it returns false'. Refute it at one input. -/
def pointWindsWrong : ChangeSpec := { name := "pointWinds", fn := fun _ => fun
  | [d1, d2] => { results := [.lit (.bool false)], args := [d1, d2] }
  | _ => none }
def PointWindsWrongFalsely : Prop := pointWindsRow.holds Try.pinned (OpenSpec.ofChange pointWindsWrong)

/-- 'gromalaw03.PointHulls': WHATEVER THE INPUT: true; the input reads as it did. -/
def pointHullsSpec : ChangeSpec := { name := "pointHulls", fn := fun _ => fun
  | [d] => { results := [.lit (.bool true)], args := [d] }
  | _ => none }
def pointHullsRow : OpenClaim := { program := "ytecohcgcffhlnaa", sum := "708a9bab394e8fbf5980e115b824f3d375759aef260d7df16d98297b1e2d72ca", func := "groma/gromalaw03.PointHulls", spec := "pointHulls", inPlace := ["math/bits.Sub64", "math/bits.Add64"], unfollowed := true, recurses := true, apart := false }
def PointHullsSaid : Prop := pointHullsRow.holds Try.pinned (OpenSpec.ofChange pointHullsSpec)

/-- ITS FALSE NEIGHBOUR: 'it returns false'. Refute it at one input. -/
def pointHullsWrong : ChangeSpec := { name := "pointHulls", fn := fun _ => fun
  | [d] => { results := [.lit (.bool false)], args := [d] }
  | _ => none }
def PointHullsWrongFalsely : Prop := pointHullsRow.holds Try.pinned (OpenSpec.ofChange pointHullsWrong)

/- THE SECOND FORM. 'bulk': how many values and letters a reading holds, each counted each time it is reached (what is shared counts as often as it is met; a slice's spare places count too). A statement '..UptoSaid' is the law's where the arguments, and the package variables that the reading takes, are together of bulk at most 1048576: NARROWER than '..Said'. Prove '..Said' where nothing that the law and all that it calls make is longer than what came in: it says more and counts as full. Else prove '..UptoSaid'. A law counts once. -/
mutual
def uptoBulk {H : Type} : DataW H → Nat
  | .lit (.string bytes) => bytes.length + 1
  | .lit _ => 1
  | .nil => 1
  | .ptr d => uptoBulk d + 1
  | .slice elems spare => uptoBulkAll elems + uptoBulkAll spare + 1
  | .agg parts => uptoBulkAll parts + 1
  | .iface _ d => uptoBulk d + 1
  | .map entries => uptoBulkEntries entries + 1
  | .held _ => 1
def uptoBulkAll {H : Type} : List (DataW H) → Nat
  | [] => 0
  | d :: r => uptoBulk d + uptoBulkAll r
def uptoBulkEntries {H : Type} : List (Lit × DataW H) → Nat
  | [] => 0
  | x :: r => uptoBulkEntry x + uptoBulkEntries r
def uptoBulkEntry {H : Type} : Lit × DataW H → Nat
  | (.string bytes, d) => bytes.length + uptoBulk d + 1
  | (_, d) => uptoBulk d + 1
 end
def uptoSmall : (H : Type) → List (DataW H) → Bool := fun _ ds => decide (uptoBulkAll ds ≤ 1048576)
def OpenSpec.upto (s : _root_.Go.ChangeSpec) : _root_.Go.OpenSpec := { _root_.Go.OpenSpec.ofChange s with cond := some uptoSmall }

/-- 'gromalaw02.RatioMakes', WHERE WHAT IT READS IS OF BULK AT MOST 1048576: true; the input reads as it did. -/
def ratioMakesUptoRow : OpenClaim := { program := "ytecohcgcffhlnaa", sum := "708a9bab394e8fbf5980e115b824f3d375759aef260d7df16d98297b1e2d72ca", func := "groma/gromalaw02.RatioMakes", spec := "ratioMakes", inPlace := ["math/bits.Sub64", "math/bits.Add64"], apart := false, narrowed := true }
def RatioMakesUptoSaid : Prop := ratioMakesUptoRow.holds Try.pinned (OpenSpec.upto ratioMakesSpec)

/-- 'gromalaw02.RatioCounts', WHERE WHAT IT READS IS OF BULK AT MOST 1048576: true; the input reads as it did. -/
def ratioCountsUptoRow : OpenClaim := { program := "ytecohcgcffhlnaa", sum := "708a9bab394e8fbf5980e115b824f3d375759aef260d7df16d98297b1e2d72ca", func := "groma/gromalaw02.RatioCounts", spec := "ratioCounts", inPlace := ["math/bits.Sub64", "math/bits.Add64"], apart := false, narrowed := true }
def RatioCountsUptoSaid : Prop := ratioCountsUptoRow.holds Try.pinned (OpenSpec.upto ratioCountsSpec)

/-- 'gromalaw03.PointCircles', WHERE WHAT IT READS IS OF BULK AT MOST 1048576: true; the input reads as it did. -/
def pointCirclesUptoRow : OpenClaim := { program := "ytecohcgcffhlnaa", sum := "708a9bab394e8fbf5980e115b824f3d375759aef260d7df16d98297b1e2d72ca", func := "groma/gromalaw03.PointCircles", spec := "pointCircles", inPlace := ["math/bits.Sub64", "math/bits.Add64"], apart := false, narrowed := true }
def PointCirclesUptoSaid : Prop := pointCirclesUptoRow.holds Try.pinned (OpenSpec.upto pointCirclesSpec)

/-- 'gromalaw03.PointIn', WHERE WHAT IT READS IS OF BULK AT MOST 1048576: true; the input reads as it did. -/
def pointInUptoRow : OpenClaim := { program := "ytecohcgcffhlnaa", sum := "708a9bab394e8fbf5980e115b824f3d375759aef260d7df16d98297b1e2d72ca", func := "groma/gromalaw03.PointIn", spec := "pointIn", inPlace := ["math/bits.Sub64", "math/bits.Add64"], apart := false, narrowed := true }
def PointInUptoSaid : Prop := pointInUptoRow.holds Try.pinned (OpenSpec.upto pointInSpec)

/-- 'gromalaw03.PointAreas', WHERE WHAT IT READS IS OF BULK AT MOST 1048576: true; the input reads as it did. -/
def pointAreasUptoRow : OpenClaim := { program := "ytecohcgcffhlnaa", sum := "708a9bab394e8fbf5980e115b824f3d375759aef260d7df16d98297b1e2d72ca", func := "groma/gromalaw03.PointAreas", spec := "pointAreas", inPlace := ["math/bits.Sub64", "math/bits.Add64"], apart := false, narrowed := true }
def PointAreasUptoSaid : Prop := pointAreasUptoRow.holds Try.pinned (OpenSpec.upto pointAreasSpec)

/-- 'gromalaw03.PointWinds', WHERE WHAT IT READS IS OF BULK AT MOST 1048576: true; the input reads as it did. -/
def pointWindsUptoRow : OpenClaim := { program := "ytecohcgcffhlnaa", sum := "708a9bab394e8fbf5980e115b824f3d375759aef260d7df16d98297b1e2d72ca", func := "groma/gromalaw03.PointWinds", spec := "pointWinds", inPlace := ["math/bits.Sub64", "math/bits.Add64"], apart := false, narrowed := true }
def PointWindsUptoSaid : Prop := pointWindsUptoRow.holds Try.pinned (OpenSpec.upto pointWindsSpec)

/-- 'gromalaw03.PointHulls', WHERE WHAT IT READS IS OF BULK AT MOST 1048576: true; the input reads as it did. -/
def pointHullsUptoRow : OpenClaim := { program := "ytecohcgcffhlnaa", sum := "708a9bab394e8fbf5980e115b824f3d375759aef260d7df16d98297b1e2d72ca", func := "groma/gromalaw03.PointHulls", spec := "pointHulls", inPlace := ["math/bits.Sub64", "math/bits.Add64"], unfollowed := true, recurses := true, apart := false, narrowed := true }
def PointHullsUptoSaid : Prop := pointHullsUptoRow.holds Try.pinned (OpenSpec.upto pointHullsSpec)

end Rows
end Go.Proofs.Ytecohcgcffhlnaa
