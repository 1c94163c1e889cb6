/- The fixed answer that each statement of layer 1 asks besides. -/
import Derived.Test.YtecohcgcffhlnaaW10
import Derived.Test.YtecohcgcffhlnaaW11
import Derived.Test.YtecohcgcffhlnaaW12
namespace Go.Proofs.Ytecohcgcffhlnaa
open Go.RowKit Go.Shelf
attribute [local go_sem] Gr.size Gr.cell? Gr.frozen? Gr.setCell Gr.drew Gr.drewN Gr.of_drew Gr.of_drewN Gr.gr Gr.lt_of1 Gr.le_of1 Gr.lt_of2 Gr.le_of2 Gr.lt_of3 Gr.le_of3 Gr.lt_of4 Gr.le_of4 Gr.lt_of5 Gr.le_of5 Gr.lt_of6 Gr.le_of6 Gr.lt_of7 Gr.le_of7 Gr.lt_of8 Gr.le_of8

theorem told_of {z s0 s1 s2 s3 : Int} {ok : Bool} (h : Told z s0 s1 s2 s3 ok) (hr : -57896044618658097711785492504343953926634992332820282019728792003956564819968 ≤ z ∧ z < 57896044618658097711785492504343953926634992332820282019728792003956564819968) : ok = true ∧ IsI s0 s1 s2 s3 z := by
  rcases h with h | ⟨_, h, _⟩
  · exact h
  · exact absurd hr h
theorem div_of {x y s0 s1 s2 s3 r0 r1 r2 r3 : Int} {ok : Bool} (h : DivTold x y s0 s1 s2 s3 r0 r1 r2 r3 ok) (hx : x ≠ -57896044618658097711785492504343953926634992332820282019728792003956564819968) : ok = true ∧ IsI s0 s1 s2 s3 (x.fdiv y) ∧ IsI r0 r1 r2 r3 (x.fmod y) := by
  rcases h with h | ⟨_, h, _⟩
  · exact h
  · exact absurd h hx
theorem txt_awake : strOfNums (txt (-36893488147419103232)) = { data := #[45, 51, 54, 56, 57, 51, 52, 56, 56, 49, 52, 55, 52, 49, 57, 49, 48, 51, 50, 51, 50] } := by decide +kernel

end Go.Proofs.Ytecohcgcffhlnaa
