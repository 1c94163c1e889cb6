/- A range over a function: fences without a depth; the things told so far. -/
import Derived.Test.YtpgcfnpnpmpkeaaS1
import Derived.RangeFuncNested
import Derived.RangeFuncBound
import Derived.RangeFuncCalls
import Derived.RangeFuncLeaves
import Derived.RangeFuncFrom
import Derived.OwnWalkIn
import Derived.TacticsInMore
namespace Go.Proofs.Ytpgcfnpnpmpkeaa
open Go.RowKit Go.Shelf
theorem room_none {F : Fence} (hd : F.depth = none) (k : Nat) : F.room k := fun d h => by rw [hd] at h; cases h
theorem round_any {F : Fence} (hd : F.depth = none) {m m' : Nat} {P : Program} {l : Nat} {f : FuncId} {tmps : Array Value} {assign body : Code} {w : World} {R : Ending → World → Prop}
    (h : RoundIn F m P l f tmps assign body w R) : RoundIn F m' P l f tmps assign body w R := ⟨h.1, fun c cs _ => h.2 c cs (room_none hd _)⟩
theorem yield_any {F : Fence} (hd : F.depth = none) {m : Nat} (m' : Nat) {P : Program} {l : Nat} {args : Array Value} {W : World} {R : Ending → World → Prop} (h : YieldAt F m P l args W R) : YieldAt F m' P l args W R := by
  obtain ⟨fn, tmps, assign, body, hy, hR⟩ := h
  exact ⟨fn, tmps, assign, body, hy, round_any hd hR⟩
abbrev I64x := { x : Int // I64 x }
def lastv (pre : List I64x) : Int := (pre.getLast?.map (·.1)).getD 0
def RiseL (k : Int → Int) (l : List Int) : Prop := l.Pairwise fun a b => k a < k b
end Go.Proofs.Ytpgcfnpnpmpkeaa
