/-
  No cell of these rows narrows 'for every input' (looked for: loops, veiled, ifaces, maps, wideKeys, modest, calm, conditions, laid).
  DERIVED. THE GIVEN ROWS OF THIS SEAT. 7 by the template 'for every input the law returns true; each argument reads behind the call as it read before'; 0 by the template 'total and deterministic' (their statements: YtohhlhoijanjfaaTotals.lean).
  GIVEN WITH THE SEED: the statements are not yours to turn. If you find one false, say at which input.
  Laid BY PROGRAM, IN A SANDBOX (cutbox-rows.mjs): the forced cells as the released guide's own fill.sh prints them over the translation 1b9051721441d165… (all of the seat's roots in one cut). By AI agents, Wed Nov 11 2026. No macro, syntax, notation, axiom, sorry.
-/
import Derived.Test.YtohhlhoijanjfaaChecked
import GoSem.Claim
import GoSem.ClaimJoined
import GoSem.ClaimMapViews
import Derived.JoinedTies
import Derived.KernelRfl
namespace Go.Proofs.Ytohhlhoijanjfaa
/- THE CELL 'sum', in the pinned program and in every row, IS THE sha256 OF THE DUMP (.gsa) THAT YtohhlhoijanjfaaProg.lean LOADS. Nothing in Lean hashes anything: it is a label: what it is worth is what the hold of that sum in a sandbox is worth. -/
noncomputable def Try.pinned : Pinned := { name := "ytohhlhoijanjfaa", sum := "1b9051721441d1658caddc73b639cfd23270c5d3f07bc0cb92661cc171bbf791", checked := Try.checked }
namespace Rows
def none {H : Type} : Left H := { results := [], args := [] }

/-- 'gromalaw03.PointWinds': WHATEVER THE INPUT: true; the input reads as it did. -/
def pointWindsSpec : ChangeSpec := { name := "pointWinds", fn := fun _ => fun
  | [d1, d2] => { results := [.lit (.bool true)], args := [d1, d2] }
  | _ => none }
def pointWindsRow : OpenClaim := { program := "ytohhlhoijanjfaa", sum := "1b9051721441d1658caddc73b639cfd23270c5d3f07bc0cb92661cc171bbf791", func := "groma/gromalaw03.PointWinds", spec := "pointWinds", inPlace := ["math/bits.Sub64", "math/bits.Add64"], apart := false }
def PointWindsSaid : Prop := pointWindsRow.holds Try.pinned (OpenSpec.ofChange pointWindsSpec)

/-- ITS FALSE NEIGHBOUR: 'it returns false'. Refute it at one input. -/
def pointWindsWrong : ChangeSpec := { name := "pointWinds", fn := fun _ => fun
  | [d1, d2] => { results := [.lit (.bool false)], args := [d1, d2] }
  | _ => none }
def PointWindsWrongFalsely : Prop := pointWindsRow.holds Try.pinned (OpenSpec.ofChange pointWindsWrong)

/-- 'gromalaw03.PointHulls': WHATEVER THE INPUT: true; the input reads as it did. -/
def pointHullsSpec : ChangeSpec := { name := "pointHulls", fn := fun _ => fun
  | [d] => { results := [.lit (.bool true)], args := [d] }
  | _ => none }
def pointHullsRow : OpenClaim := { program := "ytohhlhoijanjfaa", sum := "1b9051721441d1658caddc73b639cfd23270c5d3f07bc0cb92661cc171bbf791", func := "groma/gromalaw03.PointHulls", spec := "pointHulls", inPlace := ["math/bits.Sub64", "math/bits.Add64"], unfollowed := true, recurses := true, apart := false }
def PointHullsSaid : Prop := pointHullsRow.holds Try.pinned (OpenSpec.ofChange pointHullsSpec)

/-- ITS FALSE NEIGHBOUR: 'it returns false'. Refute it at one input. -/
def pointHullsWrong : ChangeSpec := { name := "pointHulls", fn := fun _ => fun
  | [d] => { results := [.lit (.bool false)], args := [d] }
  | _ => none }
def PointHullsWrongFalsely : Prop := pointHullsRow.holds Try.pinned (OpenSpec.ofChange pointHullsWrong)

/-- 'gromalaw04.CrossMeets': WHATEVER THE INPUT: true; the input reads as it did. -/
def crossMeetsSpec : ChangeSpec := { name := "crossMeets", fn := fun _ => fun
  | [d1, d2] => { results := [.lit (.bool true)], args := [d1, d2] }
  | _ => none }
def crossMeetsRow : OpenClaim := { program := "ytohhlhoijanjfaa", sum := "1b9051721441d1658caddc73b639cfd23270c5d3f07bc0cb92661cc171bbf791", func := "groma/gromalaw04.CrossMeets", spec := "crossMeets", inPlace := ["math/bits.Sub64", "math/bits.Add64"], apart := false }
def CrossMeetsSaid : Prop := crossMeetsRow.holds Try.pinned (OpenSpec.ofChange crossMeetsSpec)

/-- ITS FALSE NEIGHBOUR: 'it returns false'. Refute it at one input. -/
def crossMeetsWrong : ChangeSpec := { name := "crossMeets", fn := fun _ => fun
  | [d1, d2] => { results := [.lit (.bool false)], args := [d1, d2] }
  | _ => none }
def CrossMeetsWrongFalsely : Prop := crossMeetsRow.holds Try.pinned (OpenSpec.ofChange crossMeetsWrong)

/-- 'gromalaw04.CrossSides': WHATEVER THE INPUT: true; the input reads as it did. -/
def crossSidesSpec : ChangeSpec := { name := "crossSides", fn := fun _ => fun
  | [d1, d2] => { results := [.lit (.bool true)], args := [d1, d2] }
  | _ => none }
def crossSidesRow : OpenClaim := { program := "ytohhlhoijanjfaa", sum := "1b9051721441d1658caddc73b639cfd23270c5d3f07bc0cb92661cc171bbf791", func := "groma/gromalaw04.CrossSides", spec := "crossSides", inPlace := ["math/bits.Sub64", "math/bits.Add64"], apart := false }
def CrossSidesSaid : Prop := crossSidesRow.holds Try.pinned (OpenSpec.ofChange crossSidesSpec)

/-- ITS FALSE NEIGHBOUR: 'it returns false'. Refute it at one input. -/
def crossSidesWrong : ChangeSpec := { name := "crossSides", fn := fun _ => fun
  | [d1, d2] => { results := [.lit (.bool false)], args := [d1, d2] }
  | _ => none }
def CrossSidesWrongFalsely : Prop := crossSidesRow.holds Try.pinned (OpenSpec.ofChange crossSidesWrong)

/-- 'gromalaw04.CrossSpots': WHATEVER THE INPUT: true; the input reads as it did. -/
def crossSpotsSpec : ChangeSpec := { name := "crossSpots", fn := fun _ => fun
  | [d1, d2, d3] => { results := [.lit (.bool true)], args := [d1, d2, d3] }
  | _ => none }
def crossSpotsRow : OpenClaim := { program := "ytohhlhoijanjfaa", sum := "1b9051721441d1658caddc73b639cfd23270c5d3f07bc0cb92661cc171bbf791", func := "groma/gromalaw04.CrossSpots", spec := "crossSpots", inPlace := ["math/bits.Sub64", "math/bits.Add64"], apart := false }
def CrossSpotsSaid : Prop := crossSpotsRow.holds Try.pinned (OpenSpec.ofChange crossSpotsSpec)

/-- ITS FALSE NEIGHBOUR: 'it returns false'. Refute it at one input. -/
def crossSpotsWrong : ChangeSpec := { name := "crossSpots", fn := fun _ => fun
  | [d1, d2, d3] => { results := [.lit (.bool false)], args := [d1, d2, d3] }
  | _ => none }
def CrossSpotsWrongFalsely : Prop := crossSpotsRow.holds Try.pinned (OpenSpec.ofChange crossSpotsWrong)

/-- 'gromalaw04.CrossSlopes': WHATEVER THE INPUT: true; the input reads as it did. -/
def crossSlopesSpec : ChangeSpec := { name := "crossSlopes", fn := fun _ => fun
  | [d1, d2] => { results := [.lit (.bool true)], args := [d1, d2] }
  | _ => none }
def crossSlopesRow : OpenClaim := { program := "ytohhlhoijanjfaa", sum := "1b9051721441d1658caddc73b639cfd23270c5d3f07bc0cb92661cc171bbf791", func := "groma/gromalaw04.CrossSlopes", spec := "crossSlopes", inPlace := ["math/bits.Sub64", "math/bits.Add64"], apart := false }
def CrossSlopesSaid : Prop := crossSlopesRow.holds Try.pinned (OpenSpec.ofChange crossSlopesSpec)

/-- ITS FALSE NEIGHBOUR: 'it returns false'. Refute it at one input. -/
def crossSlopesWrong : ChangeSpec := { name := "crossSlopes", fn := fun _ => fun
  | [d1, d2] => { results := [.lit (.bool false)], args := [d1, d2] }
  | _ => none }
def CrossSlopesWrongFalsely : Prop := crossSlopesRow.holds Try.pinned (OpenSpec.ofChange crossSlopesWrong)

/-- 'gromalaw04.CrossAlong': WHATEVER THE INPUT: true; the input reads as it did. -/
def crossAlongSpec : ChangeSpec := { name := "crossAlong", fn := fun _ => fun
  | [d1, d2] => { results := [.lit (.bool true)], args := [d1, d2] }
  | _ => none }
def crossAlongRow : OpenClaim := { program := "ytohhlhoijanjfaa", sum := "1b9051721441d1658caddc73b639cfd23270c5d3f07bc0cb92661cc171bbf791", func := "groma/gromalaw04.CrossAlong", spec := "crossAlong", inPlace := ["math/bits.Sub64", "math/bits.Add64"], apart := false }
def CrossAlongSaid : Prop := crossAlongRow.holds Try.pinned (OpenSpec.ofChange crossAlongSpec)

/-- ITS FALSE NEIGHBOUR: 'it returns false'. Refute it at one input. -/
def crossAlongWrong : ChangeSpec := { name := "crossAlong", fn := fun _ => fun
  | [d1, d2] => { results := [.lit (.bool false)], args := [d1, d2] }
  | _ => none }
def CrossAlongWrongFalsely : Prop := crossAlongRow.holds Try.pinned (OpenSpec.ofChange crossAlongWrong)

/- THE SECOND FORM. 'bulk': how many values and letters a reading holds, each counted each time it is reached (what is shared counts as often as it is met; a slice's spare places count too). A statement '..UptoSaid' is the law's where the arguments, and the package variables that the reading takes, are together of bulk at most 1048576: NARROWER than '..Said'. Prove '..Said' where nothing that the law and all that it calls make is longer than what came in: it says more and counts as full. Else prove '..UptoSaid'. A law counts once. -/
mutual
def uptoBulk {H : Type} : DataW H → Nat
  | .lit (.string bytes) => bytes.length + 1
  | .lit _ => 1
  | .nil => 1
  | .ptr d => uptoBulk d + 1
  | .slice elems spare => uptoBulkAll elems + uptoBulkAll spare + 1
  | .agg parts => uptoBulkAll parts + 1
  | .iface _ d => uptoBulk d + 1
  | .map entries => uptoBulkEntries entries + 1
  | .held _ => 1
def uptoBulkAll {H : Type} : List (DataW H) → Nat
  | [] => 0
  | d :: r => uptoBulk d + uptoBulkAll r
def uptoBulkEntries {H : Type} : List (Lit × DataW H) → Nat
  | [] => 0
  | x :: r => uptoBulkEntry x + uptoBulkEntries r
def uptoBulkEntry {H : Type} : Lit × DataW H → Nat
  | (.string bytes, d) => bytes.length + uptoBulk d + 1
  | (_, d) => uptoBulk d + 1
 end
def uptoSmall : (H : Type) → List (DataW H) → Bool := fun _ ds => decide (uptoBulkAll ds ≤ 1048576)
def OpenSpec.upto (s : _root_.Go.ChangeSpec) : _root_.Go.OpenSpec := { _root_.Go.OpenSpec.ofChange s with cond := some uptoSmall }

/-- 'gromalaw03.PointWinds', WHERE WHAT IT READS IS OF BULK AT MOST 1048576: true; the input reads as it did. -/
def pointWindsUptoRow : OpenClaim := { program := "ytohhlhoijanjfaa", sum := "1b9051721441d1658caddc73b639cfd23270c5d3f07bc0cb92661cc171bbf791", func := "groma/gromalaw03.PointWinds", spec := "pointWinds", inPlace := ["math/bits.Sub64", "math/bits.Add64"], apart := false, narrowed := true }
def PointWindsUptoSaid : Prop := pointWindsUptoRow.holds Try.pinned (OpenSpec.upto pointWindsSpec)

/-- 'gromalaw03.PointHulls', WHERE WHAT IT READS IS OF BULK AT MOST 1048576: true; the input reads as it did. -/
def pointHullsUptoRow : OpenClaim := { program := "ytohhlhoijanjfaa", sum := "1b9051721441d1658caddc73b639cfd23270c5d3f07bc0cb92661cc171bbf791", func := "groma/gromalaw03.PointHulls", spec := "pointHulls", inPlace := ["math/bits.Sub64", "math/bits.Add64"], unfollowed := true, recurses := true, apart := false, narrowed := true }
def PointHullsUptoSaid : Prop := pointHullsUptoRow.holds Try.pinned (OpenSpec.upto pointHullsSpec)

/-- 'gromalaw04.CrossMeets', WHERE WHAT IT READS IS OF BULK AT MOST 1048576: true; the input reads as it did. -/
def crossMeetsUptoRow : OpenClaim := { program := "ytohhlhoijanjfaa", sum := "1b9051721441d1658caddc73b639cfd23270c5d3f07bc0cb92661cc171bbf791", func := "groma/gromalaw04.CrossMeets", spec := "crossMeets", inPlace := ["math/bits.Sub64", "math/bits.Add64"], apart := false, narrowed := true }
def CrossMeetsUptoSaid : Prop := crossMeetsUptoRow.holds Try.pinned (OpenSpec.upto crossMeetsSpec)

/-- 'gromalaw04.CrossSides', WHERE WHAT IT READS IS OF BULK AT MOST 1048576: true; the input reads as it did. -/
def crossSidesUptoRow : OpenClaim := { program := "ytohhlhoijanjfaa", sum := "1b9051721441d1658caddc73b639cfd23270c5d3f07bc0cb92661cc171bbf791", func := "groma/gromalaw04.CrossSides", spec := "crossSides", inPlace := ["math/bits.Sub64", "math/bits.Add64"], apart := false, narrowed := true }
def CrossSidesUptoSaid : Prop := crossSidesUptoRow.holds Try.pinned (OpenSpec.upto crossSidesSpec)

/-- 'gromalaw04.CrossSpots', WHERE WHAT IT READS IS OF BULK AT MOST 1048576: true; the input reads as it did. -/
def crossSpotsUptoRow : OpenClaim := { program := "ytohhlhoijanjfaa", sum := "1b9051721441d1658caddc73b639cfd23270c5d3f07bc0cb92661cc171bbf791", func := "groma/gromalaw04.CrossSpots", spec := "crossSpots", inPlace := ["math/bits.Sub64", "math/bits.Add64"], apart := false, narrowed := true }
def CrossSpotsUptoSaid : Prop := crossSpotsUptoRow.holds Try.pinned (OpenSpec.upto crossSpotsSpec)

/-- 'gromalaw04.CrossSlopes', WHERE WHAT IT READS IS OF BULK AT MOST 1048576: true; the input reads as it did. -/
def crossSlopesUptoRow : OpenClaim := { program := "ytohhlhoijanjfaa", sum := "1b9051721441d1658caddc73b639cfd23270c5d3f07bc0cb92661cc171bbf791", func := "groma/gromalaw04.CrossSlopes", spec := "crossSlopes", inPlace := ["math/bits.Sub64", "math/bits.Add64"], apart := false, narrowed := true }
def CrossSlopesUptoSaid : Prop := crossSlopesUptoRow.holds Try.pinned (OpenSpec.upto crossSlopesSpec)

/-- 'gromalaw04.CrossAlong', WHERE WHAT IT READS IS OF BULK AT MOST 1048576: true; the input reads as it did. -/
def crossAlongUptoRow : OpenClaim := { program := "ytohhlhoijanjfaa", sum := "1b9051721441d1658caddc73b639cfd23270c5d3f07bc0cb92661cc171bbf791", func := "groma/gromalaw04.CrossAlong", spec := "crossAlong", inPlace := ["math/bits.Sub64", "math/bits.Add64"], apart := false, narrowed := true }
def CrossAlongUptoSaid : Prop := crossAlongUptoRow.holds Try.pinned (OpenSpec.upto crossAlongSpec)

end Rows
end Go.Proofs.Ytohhlhoijanjfaa
