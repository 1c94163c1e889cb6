/- gromalaw02.RatioReduces: for every fraction and every Int the law returns true (a fraction that is reduced is the same number, and nothing but 1 and -1 divides both of its numbers any more), and its arguments read as they did. No condition. -/
import Derived.Test.YtjgkmhgaacallaaL14
import Derived.Test.YtjgkmhgaacallaaP0r
namespace Go.Proofs.Ytjgkmhgaacallaa
open Go.ChangeShapes Go.WideShapes Go.ChangeAt Go.RowKit

set_option maxRecDepth 100000 in
theorem ratioReduces_lifted (os : Os) (started : os.Started) (H : Type) (enc : TypeId × Value → H) :
    ReturnsInHanded {} Try.checked os 13 .any (Rows.ratioReducesSpec.pre6 enc Try.prog Try.f13 Rows.ratioReducesRow.domain false) (Rows.ratioReducesSpec.post enc Try.prog Try.f13 false true false false) := by
  refine returnsInHanded_of_change (C := Try.checked) own_knob started (by kernel_rfl) Try.func13
    (ChangeSpec.witness6 (enc := enc) (C := Try.checked) false ⟨#[], #[.agg #[.int .u64 0, .int .u64 0, .int .u64 0, .int .u64 0, .int .u64 0, .int .u64 0, .int .u64 0, .int .u64 0], .agg #[.int .u64 0, .int .u64 0, .int .u64 0, .int .u64 0]], []⟩ 8 (by kernel_rfl) (by kernel_rfl) (by kernel_rfl) (by kernel_rfl)) ?_
  intro W base args ds gs before hval0 hW hcnd _
  have hval : ∀ (j : Nat) t v, Try.f13.params[j]? = some t → args[j]? = some v → Value.okWide Try.prog W .any base t v := hval0
  have hW' := hW
  obtain ⟨p, q, hA0, hV, rfl, hfz, hnd⟩ := hW
  have hA : DataW.TrodAll enc Try.prog W 0 (fun _ => true) true Try.f13.params.toList args.toList ds p := hA0
  rw [Try.params13] at hA hval
  obtain ⟨v0, v1, d0, d1, p0, p1, rfl, rfl, rfl, h0, h1⟩ := trodAll_two hA
  obtain ⟨rfl, rfl⟩ := trodVars_none hV
  obtain ⟨xn0, xn1, xn2, xn3, xd0, xd1, xd2, xd3, rfl, rfl, rfl, wxn, wxd⟩ := open_rat8 (hval 0 60 v0 rfl rfl) h0
  obtain ⟨xn, hxn⟩ := isI_of wxn
  obtain ⟨xd, hxd⟩ := isI_of wxd
  obtain ⟨y0, y1, y2, y3, rfl, rfl, rfl, wy⟩ := open_int4 (hval 1 24 v1 rfl rfl) h1
  obtain ⟨y, hy⟩ := isI_of wy
  clear hA0 hval0
  simp only [List.append_nil] at hW'
  refine (law_reduces xn0 xn1 xn2 xn3 xn xd0 xd1 xd2 xd3 xd y0 y1 y2 y3 y hxn hxd hy W).mono fun e W' ⟨he, hg⟩ => ?_
  subst he
  refine ⟨_, rfl, _, _, _, [], [], [], hW', ?_, ?_, ?_, hg.below.frame _, fun h => by cases h⟩
  · exact trodAll_mk1 (shut_bool Try.underlying4 _)
  · exact trodAll_mk2 (shut_rat8 wxn wxd _ _ _) (shut_int4 wy _ _ _)
  · rfl

theorem ratioReduces_holds : Rows.RatioReducesSaid :=
  OpenClaim.holds_of_wide 13 Try.f13 rfl rfl rfl rfl rfl rfl rfl ⟨rfl, rfl, rfl, rfl, rfl⟩ rfl rfl rfl rfl rfl (by kernel_rfl) Try.func13 (by kernel_rfl)
    (of_decide_eq_true (by kernel_rfl)) (by unfold Func.isWrapper; first | (rw [if_pos (by decide +kernel)]; kernel_rfl) | (rw [if_neg (by decide +kernel)]; exact ⟨rfl, rfl⟩))
    (fun os started H enc _ => ratioReduces_lifted os started H enc)
#print axioms ratioReduces_holds
end Go.Proofs.Ytjgkmhgaacallaa
