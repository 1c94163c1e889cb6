/- gromalaw01.WideRoots: for every Int and every int the law returns true (the square of the root isn't above the number, that of the next one is; the size has just so many bits; powers are products), and its arguments read as they did. No condition. -/
import Derived.Test.YtpdpofgmedoelaaL10
import Derived.Test.YtpdpofgmedoelaaL11
import Derived.Test.YtpdpofgmedoelaaL12
import Derived.Test.YtpdpofgmedoelaaP0b
namespace Go.Proofs.Ytpdpofgmedoelaa
theorem law_roots (x0 x1 x2 x3 x n : Int) (hx : IsI x0 x1 x2 x3 x) (_n0 : -9223372036854775808 ≤ n) (_n1 : n < 9223372036854775808) (w : World) :
    Calls Try.prog 3 #[.agg #[.int .u64 x0, .int .u64 x1, .int .u64 x2, .int .u64 x3], .int .i64 n] w fun e w' => e = .returned (.bool true) ∧ IsGr w w' := by
  rcases Int.lt_trichotomy x 0 with h | h | h
  · exact roots_neg x0 x1 x2 x3 x n hx h w
  · exact roots_zero x0 x1 x2 x3 x n hx h w
  · exact roots_pos x0 x1 x2 x3 x n hx h w
end Go.Proofs.Ytpdpofgmedoelaa
namespace Go.Proofs.Ytpdpofgmedoelaa
open Go.ChangeShapes Go.WideShapes Go.ChangeAt Go.RowKit

set_option maxRecDepth 100000 in
theorem wideRoots_lifted (os : Os) (started : os.Started) (H : Type) (enc : TypeId × Value → H) :
    ReturnsInHanded {} Try.checked os 3 .any (Rows.wideRootsSpec.pre6 enc Try.prog Try.f3 Rows.wideRootsRow.domain false) (Rows.wideRootsSpec.post enc Try.prog Try.f3 false true false false) := by
  refine returnsInHanded_of_change (C := Try.checked) own_knob started (by kernel_rfl) Try.func3
    (ChangeSpec.witness6 (enc := enc) (C := Try.checked) false ⟨#[], #[.agg #[.int .u64 0, .int .u64 0, .int .u64 0, .int .u64 0], .int .i64 0], []⟩ 8 (by kernel_rfl) (by kernel_rfl) (by kernel_rfl) (by kernel_rfl)) ?_
  intro W base args ds gs before hval0 hW hcnd _
  have hval : ∀ (j : Nat) t v, Try.f3.params[j]? = some t → args[j]? = some v → Value.okWide Try.prog W .any base t v := hval0
  have hW' := hW
  obtain ⟨p, q, hA0, hV, rfl, hfz, hnd⟩ := hW
  have hA : DataW.TrodAll enc Try.prog W 0 (fun _ => true) true Try.f3.params.toList args.toList ds p := hA0
  rw [Try.params3] at hA hval
  obtain ⟨v0, v1, d0, d1, p0, p1, rfl, rfl, rfl, h0, h1⟩ := trodAll_two hA
  obtain ⟨rfl, rfl⟩ := trodVars_none hV
  obtain ⟨x0, x1, x2, x3, rfl, rfl, rfl, wx⟩ := open_int4 (hval 0 24 v0 rfl rfl) h0
  obtain ⟨x, hx⟩ := isI_of wx
  obtain ⟨y, rfl, rfl, rfl, wy⟩ := open_int Try.underlying3 (hval 1 3 v1 rfl rfl) h1
  have hy := wf_i64 wy
  clear hA0 hval0
  simp only [List.append_nil] at hW'
  refine (law_roots x0 x1 x2 x3 x y hx hy.1 hy.2 W).mono fun e W' ⟨he, hg⟩ => ?_
  subst he
  refine ⟨_, rfl, _, _, _, [], [], [], hW', ?_, ?_, ?_, hg.below.frame _, fun h => by cases h⟩
  · exact trodAll_mk1 (shut_bool Try.underlying4 _)
  · exact trodAll_mk2 (shut_int4 wx _ _ _) (shut_int Try.underlying3 wy)
  · rfl

theorem wideRoots_holds : Rows.WideRootsSaid :=
  OpenClaim.holds_of_wide 3 Try.f3 rfl rfl rfl rfl rfl rfl rfl ⟨rfl, rfl, rfl, rfl, rfl⟩ rfl rfl rfl rfl rfl (by kernel_rfl) Try.func3 (by kernel_rfl)
    (of_decide_eq_true (by kernel_rfl)) (by unfold Func.isWrapper; first | (rw [if_pos (by decide +kernel)]; kernel_rfl) | (rw [if_neg (by decide +kernel)]; exact ⟨rfl, rfl⟩))
    (fun os started H enc _ => wideRoots_lifted os started H enc)
#print axioms wideRoots_holds
end Go.Proofs.Ytpdpofgmedoelaa
