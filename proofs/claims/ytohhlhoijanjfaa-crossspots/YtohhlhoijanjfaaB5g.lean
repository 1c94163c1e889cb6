/- gromalaw04.CrossSpots: for every two spots and every point the law returns true (they are held against one another, and told as points, as the reference tells it), and its arguments read as they did. No condition. -/
import Derived.Test.YtohhlhoijanjfaaZ9g
import Derived.Test.YtohhlhoijanjfaaGP
namespace Go.Proofs.Ytohhlhoijanjfaa
open Go.ChangeShapes Go.WideShapes Go.ChangeAt Go.RowKit

set_option maxRecDepth 100000 in
theorem crossSpots_lifted (os : Os) (started : os.Started) (H : Type) (enc : TypeId × Value → H) :
    ReturnsInHanded {} Try.checked os 7 .any (Rows.crossSpotsSpec.pre6 enc Try.prog Try.f7 Rows.crossSpotsRow.domain false) (Rows.crossSpotsSpec.post enc Try.prog Try.f7 false true false false) := by
  refine returnsInHanded_of_change (C := Try.checked) own_knob started (by kernel_rfl) Try.func7
    (ChangeSpec.witness6 (enc := enc) (C := Try.checked) false ⟨#[], #[.agg #[.int .u64 0, .int .u64 0, .int .u64 0, .int .u64 0, .int .u64 0, .int .u64 0, .int .u64 0, .int .u64 0, .int .u64 0, .int .u64 0, .int .u64 0, .int .u64 0], .agg #[.int .u64 0, .int .u64 0, .int .u64 0, .int .u64 0, .int .u64 0, .int .u64 0, .int .u64 0, .int .u64 0, .int .u64 0, .int .u64 0, .int .u64 0, .int .u64 0], .agg #[.int .i64 0, .int .i64 0]], []⟩ 8 (by kernel_rfl) (by kernel_rfl) (by kernel_rfl) (by kernel_rfl)) ?_
  intro W base args ds gs before hval0 hW hcnd _
  have hval : ∀ (j : Nat) t v, Try.f7.params[j]? = some t → args[j]? = some v → Value.okWide Try.prog W .any base t v := hval0
  have hW' := hW
  obtain ⟨p, q, hA0, hV, rfl, hfz, hnd⟩ := hW
  have hA : DataW.TrodAll enc Try.prog W 0 (fun _ => true) true Try.f7.params.toList args.toList ds p := hA0
  rw [Try.params7] at hA hval
  obtain ⟨v0, v1, v2, d0, d1, d2, p0, p1, p2, rfl, rfl, rfl, h0, h1, h2⟩ := trodAll_three hA
  obtain ⟨rfl, rfl⟩ := trodVars_none hV
  obtain ⟨xa0, xa1, xa2, xa3, xb0, xb1, xb2, xb3, xc0, xc1, xc2, xc3, rfl, rfl, rfl, wxa, wxb, wxc⟩ := open_spot (hval 0 46 v0 rfl rfl) h0
  obtain ⟨xa, hxa⟩ := isI_of wxa
  obtain ⟨rfl, rfl, rfl, rfl⟩ := wd_eq hxa
  obtain ⟨xb, hxb⟩ := isI_of wxb
  obtain ⟨rfl, rfl, rfl, rfl⟩ := wd_eq hxb
  obtain ⟨xc, hxc⟩ := isI_of wxc
  obtain ⟨rfl, rfl, rfl, rfl⟩ := wd_eq hxc
  obtain ⟨ya0, ya1, ya2, ya3, yb0, yb1, yb2, yb3, yc0, yc1, yc2, yc3, rfl, rfl, rfl, wya, wyb, wyc⟩ := open_spot (hval 1 46 v1 rfl rfl) h1
  obtain ⟨ya, hya⟩ := isI_of wya
  obtain ⟨rfl, rfl, rfl, rfl⟩ := wd_eq hya
  obtain ⟨yb, hyb⟩ := isI_of wyb
  obtain ⟨rfl, rfl, rfl, rfl⟩ := wd_eq hyb
  obtain ⟨yc, hyc⟩ := isI_of wyc
  obtain ⟨rfl, rfl, rfl, rfl⟩ := wd_eq hyc
  obtain ⟨z1, z2, rfl, rfl, rfl, wz⟩ := open_pt (hval 2 24 v2 rfl rfl) h2
  clear hA0 hval0
  simp only [List.append_nil] at hW'
  refine (law_spots xa xb xc ya yb yc z1 z2 (wd_fit hxa) (wd_fit hxb) (wd_fit hxc) (wd_fit hya) (wd_fit hyb) (wd_fit hyc) W).mono fun e W' ⟨he, hg⟩ => ?_
  subst he
  refine ⟨_, rfl, _, _, _, [], [], [], hW', ?_, ?_, ?_, hg.below.frame _, fun h => by cases h⟩
  · exact trodAll_mk1 (shut_bool Try.underlying4 _)
  · exact trodAll_mk3 (shut_spot wxa wxb wxc _ _ _) (shut_spot wya wyb wyc _ _ _) (shut_pt wz _ _ _)
  · rfl

theorem crossSpots_holds : Rows.CrossSpotsSaid :=
  OpenClaim.holds_of_wide 7 Try.f7 rfl rfl rfl rfl rfl rfl rfl ⟨rfl, rfl, rfl, rfl, rfl⟩ rfl rfl rfl rfl rfl (by kernel_rfl) Try.func7 (by kernel_rfl)
    (of_decide_eq_true (by kernel_rfl)) (by unfold Func.isWrapper; first | (rw [if_pos (by decide +kernel)]; kernel_rfl) | (rw [if_neg (by decide +kernel)]; exact ⟨rfl, rfl⟩))
    (fun os started H enc _ => crossSpots_lifted os started H enc)
#print axioms crossSpots_holds
end Go.Proofs.Ytohhlhoijanjfaa
