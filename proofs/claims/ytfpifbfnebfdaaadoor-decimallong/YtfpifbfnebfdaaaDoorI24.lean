/- gromalaw10.DecimalLong: for all ints the law returns true (noughts that play no part change nothing), and its argument reads as it did. Condition: five tables of the library of Go (powers of ten, first bytes and ranges of runes, two of bit counts) read, when the call begins, as their own text lays them; the card ties them to the text of the program. -/
import Derived.Test.YtfpifbfnebfdaaaDoorS16
import Derived.Test.YtfpifbfnebfdaaaDoorI19
import Derived.Test.YtfpifbfnebfdaaaDoorI20
import Derived.Test.YtfpifbfnebfdaaaDoorS17
import Derived.Test.YtfpifbfnebfdaaaDoorCards
import Derived.Test.YtfpifbfnebfdaaaDoorTie
import Derived.SevenTiedAt
namespace Go.Proofs.YtfpifbfnebfdaaaDoor
open Go.RowKit Go.Shelf
theorem long_row (n fine a b : Int) (w : World) (ht : TabW w) : Calls Tryd.prog 6 #[.agg #[.int .i64 n, .int .i64 fine, .int .i64 a, .int .i64 b]] w fun e w' => e = .returned (.bool true) ∧ IsGr w w' := law_long decC n fine a b w ht
end Go.Proofs.YtfpifbfnebfdaaaDoor
namespace Go.Proofs.YtfpifbfnebfdaaaDoor
open Go.ChangeShapes Go.WideShapes Go.ChangeAt Go.RowKit
open Go.ChangeMaps (open_string shut_string)

set_option maxRecDepth 100000 in
theorem decimalLong_lifted (os : Os) (started : os.Started) (H : Type) (enc : TypeId × Value → H) :
    ReturnsInHanded {} Tryd.checked os 6 .any (fun w args => (Rows.decimalLongSpec.pre enc Tryd.prog Tryd.f6 [] false w args ∧ laidMetH Tryd.prog laid5 w) ∧ sizedMet enc Tryd.prog Tryd.f6 (OpenSpec.ofChange Rows.decimalLongSpec) false w args) (Rows.decimalLongSpec.post enc Tryd.prog Tryd.f6 false true false false) := by
  refine returnsInHanded_of_change_and (C := Tryd.checked) (X := fun w _ => laidMetH Tryd.prog laid5 w) (fun _ _ _ hh h => h.of_heap hh) own_knob started (by kernel_rfl) Tryd.func6
    (ChangeSpec.witness_shaped (enc := enc) (C := Tryd.checked) (os := os) (X := fun w _ => laidMetH Tryd.prog laid5 w) false (World.laidAll Tryd.prog os laid5) #[.agg #[.int .i64 0, .int .i64 0, .int .i64 0, .int .i64 0]] 8 (World.laidAll_os _ _ _) (lay_shaped os) (by kernel_rfl) (by kernel_rfl) (by kernel_rfl) (lay_met os _)) ?_
  intro W base args ds gs before hval0 hW _ _ hL _
  have hval : ∀ (j : Nat) t v, Tryd.f6.params[j]? = some t → args[j]? = some v → Value.okWide Tryd.prog W .any base t v := hval0
  have hW' := hW
  obtain ⟨p, q, hA0, hV, rfl, hfz, hnd⟩ := hW
  have hA : DataW.TrodAll enc Tryd.prog W 0 (fun _ => true) true Tryd.f6.params.toList args.toList ds p := hA0
  rw [Tryd.params6] at hA hval
  obtain ⟨v0, d0, rfl, rfl, h0⟩ := trodAll_one hA
  obtain ⟨rfl, rfl⟩ := trodVars_none hV
  obtain ⟨x1, x2, x3, x4, rfl, rfl, rfl, wx⟩ := open_qua Tryd.underlying46 (by kernel_rfl) rfl rfl rfl rfl rfl rfl rfl rfl (hval 0 46 v0 rfl rfl) h0
  clear hA0 hval0
  refine (long_row x1 x2 x3 x4  W (tab_of_laid hL)).mono fun e W' ⟨he, hg⟩ => ?_
  subst he
  refine ⟨_, rfl, _, _, _, [], [], [], hW', ?_, ?_, ?_, hg.below.frame _, fun h => by cases h⟩
  · exact trodAll_mk1 (shut_bool Tryd.underlying4 _)
  · exact trodAll_mk1 (shut_qua Tryd.underlying46 (by kernel_rfl) rfl rfl rfl rfl rfl rfl rfl rfl wx _ _ _)
  · rfl

theorem decimalLong_holds : Rows.DecimalLongSaid :=
  OpenClaim.holds_of_wide 6 Tryd.f6 rfl rfl rfl rfl rfl rfl rfl ⟨rfl, rfl, rfl, rfl, rfl⟩ rfl rfl rfl rfl rfl (by kernel_rfl) Tryd.func6 (by kernel_rfl)
    (of_decide_eq_true (by kernel_rfl)) (by unfold Func.isWrapper; first | (rw [if_pos (by decide +kernel)]; kernel_rfl) | (rw [if_neg (by decide +kernel)]; exact ⟨rfl, rfl⟩))
    (fun os started H enc _ => decimalLong_lifted os started H enc)
theorem decimalLong_card : Rows.DecimalLongCardSaid :=
  Claim7.holds_tied_plain_at .later [] [.data, .data, .data, .data, .pinned] true (true, "a191b045243df0677801c5162610bc5e405e058b62470dc6ed0c46b106820796") false
    decimalLong_holds (fun _ h => by cases h) (by kernel_rfl) (fun _ h => by cases h) decimalLong_row_tie rfl ⟨rfl, rfl⟩ (by kernel_rfl) rfl
    (fun f fn hf hfn => by
      obtain rfl : f = 6 := Option.some.inj ((show Tryd.prog.funcNamed "groma/gromalaw10.DecimalLong" = some 6 by kernel_rfl).symm.trans hf) |>.symm
      obtain rfl : fn = Tryd.f6 := (Option.some.inj (Tryd.func6.symm.trans hfn)).symm
      exact ⟨by kernel_rfl, fun j t ht => by
        rw [Tryd.params6] at ht
        have hm : t ∈ [46] := by simpa using Array.mem_of_getElem? ht
        have hall : ([46].all fun u => !Tryd.prog.wantsStandIn u) = true := by kernel_rfl
        exact (show Tryd.prog.wantsStandIn t = false by simpa using List.all_eq_true.1 hall t hm)⟩)
    (by kernel_rfl)
#print axioms decimalLong_card
end Go.Proofs.YtfpifbfnebfdaaaDoor
