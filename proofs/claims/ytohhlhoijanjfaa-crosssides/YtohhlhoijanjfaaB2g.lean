/- gromalaw04.CrossSides: for every segment and every spot the law returns true (to which side of the segment the spot lies, and whether it lies on it, is told as the reference tells it), and its arguments read as they did. No condition. -/
import Derived.Test.YtohhlhoijanjfaaZ2g
import Derived.Test.YtohhlhoijanjfaaGP
namespace Go.Proofs.Ytohhlhoijanjfaa
open Go.ChangeShapes Go.WideShapes Go.ChangeAt Go.RowKit

set_option maxRecDepth 100000 in
theorem crossSides_lifted (os : Os) (started : os.Started) (H : Type) (enc : TypeId × Value → H) :
    ReturnsInHanded {} Try.checked os 6 .any (Rows.crossSidesSpec.pre6 enc Try.prog Try.f6 Rows.crossSidesRow.domain false) (Rows.crossSidesSpec.post enc Try.prog Try.f6 false true false false) := by
  refine returnsInHanded_of_change (C := Try.checked) own_knob started (by kernel_rfl) Try.func6
    (ChangeSpec.witness6 (enc := enc) (C := Try.checked) false ⟨#[], #[.agg #[.int .i64 0, .int .i64 0, .int .i64 0, .int .i64 0], .agg #[.int .u64 0, .int .u64 0, .int .u64 0, .int .u64 0, .int .u64 0, .int .u64 0, .int .u64 0, .int .u64 0, .int .u64 0, .int .u64 0, .int .u64 0, .int .u64 0]], []⟩ 8 (by kernel_rfl) (by kernel_rfl) (by kernel_rfl) (by kernel_rfl)) ?_
  intro W base args ds gs before hval0 hW hcnd _
  have hval : ∀ (j : Nat) t v, Try.f6.params[j]? = some t → args[j]? = some v → Value.okWide Try.prog W .any base t v := hval0
  have hW' := hW
  obtain ⟨p, q, hA0, hV, rfl, hfz, hnd⟩ := hW
  have hA : DataW.TrodAll enc Try.prog W 0 (fun _ => true) true Try.f6.params.toList args.toList ds p := hA0
  rw [Try.params6] at hA hval
  obtain ⟨v0, v1, d0, d1, p0, p1, rfl, rfl, rfl, h0, h1⟩ := trodAll_two hA
  obtain ⟨rfl, rfl⟩ := trodVars_none hV
  obtain ⟨x1, x2, x3, x4, rfl, rfl, rfl, wx⟩ := open_seg (hval 0 41 v0 rfl rfl) h0
  obtain ⟨ya0, ya1, ya2, ya3, yb0, yb1, yb2, yb3, yc0, yc1, yc2, yc3, rfl, rfl, rfl, wya, wyb, wyc⟩ := open_spot (hval 1 46 v1 rfl rfl) h1
  obtain ⟨ya, hya⟩ := isI_of wya
  obtain ⟨rfl, rfl, rfl, rfl⟩ := wd_eq hya
  obtain ⟨yb, hyb⟩ := isI_of wyb
  obtain ⟨rfl, rfl, rfl, rfl⟩ := wd_eq hyb
  obtain ⟨yc, hyc⟩ := isI_of wyc
  obtain ⟨rfl, rfl, rfl, rfl⟩ := wd_eq hyc
  clear hA0 hval0
  simp only [List.append_nil] at hW'
  refine (law_sides x1 x2 x3 x4 ya yb yc (wd_fit hya) (wd_fit hyb) (wd_fit hyc) W).mono fun e W' ⟨he, hg⟩ => ?_
  subst he
  refine ⟨_, rfl, _, _, _, [], [], [], hW', ?_, ?_, ?_, hg.below.frame _, fun h => by cases h⟩
  · exact trodAll_mk1 (shut_bool Try.underlying4 _)
  · exact trodAll_mk2 (shut_seg wx _ _ _) (shut_spot wya wyb wyc _ _ _)
  · rfl

theorem crossSides_holds : Rows.CrossSidesSaid :=
  OpenClaim.holds_of_wide 6 Try.f6 rfl rfl rfl rfl rfl rfl rfl ⟨rfl, rfl, rfl, rfl, rfl⟩ rfl rfl rfl rfl rfl (by kernel_rfl) Try.func6 (by kernel_rfl)
    (of_decide_eq_true (by kernel_rfl)) (by unfold Func.isWrapper; first | (rw [if_pos (by decide +kernel)]; kernel_rfl) | (rw [if_neg (by decide +kernel)]; exact ⟨rfl, rfl⟩))
    (fun os started H enc _ => crossSides_lifted os started H enc)
#print axioms crossSides_holds
end Go.Proofs.Ytohhlhoijanjfaa
