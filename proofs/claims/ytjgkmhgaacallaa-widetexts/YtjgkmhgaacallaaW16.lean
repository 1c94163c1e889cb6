/- Contracts of package wide over the loaded program: Parse at every text. -/
import Derived.Test.YtjgkmhgaacallaaW15
namespace Go.Proofs.Ytjgkmhgaacallaa
open Go.RowKit Go.Shelf
attribute [local go_sem] Gr.size Gr.cell? Gr.frozen? Gr.setCell Gr.drew Gr.drewN Gr.of_drew Gr.of_drewN Gr.gr Gr.lt_of1 Gr.le_of1 Gr.lt_of2 Gr.le_of2 Gr.lt_of3 Gr.le_of3 Gr.lt_of4 Gr.le_of4 Gr.lt_of5 Gr.le_of5 Gr.lt_of6 Gr.le_of6 Gr.lt_of7 Gr.le_of7 Gr.lt_of8 Gr.le_of8

set_option maxHeartbeats 4000000 in
theorem Parse_e (s t : ByteArray) (b : Bool) (w : World) (ht : (⟨(Lib.trimPrefix s.data.toList [45]).toArray⟩ : ByteArray) = t) (hb : Lib.hasPrefix s.data.toList [45] = b) (h0 : t.toList = []) :
    Calls Try.prog 32 #[.string s] w fun e w' => PsP false none w e w' := by
  have HT : Hid ((⟨(Lib.trimPrefix s.data.toList [45]).toArray⟩ : ByteArray) = t ∧ Lib.hasPrefix s.data.toList [45] = b) := ⟨ht, hb⟩
  have hne : t.toList.isEmpty = true := by rw [h0]; rfl
  clear ht hb
  go_enter Try.func32, Try.ntmps32
  go_wp2_with fail
  refine (Try.strings_CutPrefix s _ _).mono ?_
  rintro e w1 ⟨rfl, hw⟩
  rw [hw]
  clear hw
  rw [HT.out.1, HT.out.2]
  go_wp2
  exact bodyPost_ret (v := .tuple #[.agg #[.int .u64 0, .int .u64 0, .int .u64 0, .int .u64 0], .bool false]) (by simp [results, Try.results32, go_sem]) rfl (PsP.no (fun z e => by cases e) (by with_reducible repeat (first | exact IsGr.refl _ | refine IsGr.gr ?_ _ _ | refine IsGr.alloc ?_ _ | refine IsGr.drew ?_ | refine IsGr.drewN ?_ _)))

set_option maxHeartbeats 4000000 in
theorem Parse_n (s t : ByteArray) (b : Bool) (w : World) (ht : (⟨(Lib.trimPrefix s.data.toList [45]).toArray⟩ : ByteArray) = t) (hb : Lib.hasPrefix s.data.toList [45] = b) (h0 : 0 < t.size) (hne : t.toList.isEmpty = false)
    (h48 : (((t[0]'h0).toNat : Int) == 48) = true) (hs0 : (!s.toList == [48]) = true) :
    Calls Try.prog 32 #[.string s] w fun e w' => PsP false none w e w' := by
  have HT : Hid ((⟨(Lib.trimPrefix s.data.toList [45]).toArray⟩ : ByteArray) = t ∧ Lib.hasPrefix s.data.toList [45] = b) := ⟨ht, hb⟩
  have hne2 : ¬ t.toList = [] := by intro e; rw [e] at hne; cases hne
  clear ht hb
  go_enter Try.func32, Try.ntmps32
  go_wp2_with fail
  refine (Try.strings_CutPrefix s _ _).mono ?_
  rintro e w1 ⟨rfl, hw⟩
  rw [hw]
  clear hw
  rw [HT.out.1, HT.out.2]
  go_wp2
  exact bodyPost_ret (v := .tuple #[.agg #[.int .u64 0, .int .u64 0, .int .u64 0, .int .u64 0], .bool false]) (by simp [results, Try.results32, go_sem]) rfl (PsP.no (fun z e => by cases e) (by with_reducible repeat (first | exact IsGr.refl _ | refine IsGr.gr ?_ _ _ | refine IsGr.alloc ?_ _ | refine IsGr.drew ?_ | refine IsGr.drewN ?_ _)))

theorem list48 (s : ByteArray) : (s.toList == [48]) = true ↔ nums s = [48] := by
  rw [ByteArray.toList_eq]
  unfold nums
  match s.data.toList with
  | [] => simp
  | [c] =>
    simp
    constructor
    · rintro rfl; rfl
    · intro h; apply UInt8.toNat_inj.1; show c.toNat = 48; omega
  | c :: d :: r => simp

/-- Any text is told as its number, or as none. -/
theorem Parse_any (s : ByteArray) (w : World) (hs : s.size ≤ 1000) :
    Calls Try.prog 32 #[.string s] w fun e w' => PsP false (dspec (nums s)) w e w' := by
  obtain ⟨t, b, ht, hb, HC⟩ := cut_facts s
  have hC := HC.out
  have hlen : t.size ≤ s.size := by
    rcases hC with ⟨_, h⟩ | ⟨_, rfl, _⟩
    · have := congrArg List.length h
      rw [List.length_cons, nums_len, nums_len] at this; omega
    · exact Nat.le_refl _
  by_cases h0 : 0 < t.size
  · have hat := nums_at t 0 h0
    rw [List.drop_zero] at hat
    have hne : t.toList.isEmpty = false := by
      rw [ByteArray.toList_eq, List.isEmpty_eq_false_iff]
      intro e
      have : t.size = 0 := by show t.data.size = 0; rw [← Array.length_toList, e]; rfl
      omega
    by_cases h48 : ((t[0]'h0).toNat : Int) = 48
    · rw [h48] at hat
      have h48b : (((t[0]'h0).toNat : Int) == 48) = true := by simp [h48]
      by_cases hz : (s.toList == [48]) = true
      · have hz2 : (!s.toList == [48]) = false := by rw [hz]; rfl
        refine (Parse_z s t b w ht hb h0 (by omega) _ rfl h48b hz2).mono fun e w' hpp => hpp.map ?_
        have hl := (list48 s).1 hz
        rcases hC with ⟨_, h⟩ | ⟨rfl, rfl, _⟩
        · rw [hl] at h; injection h with h _; omega
        · rw [hl]; rfl
      · have hz2 : (!s.toList == [48]) = true := by simp only [Bool.not_eq_true] at hz; rw [hz]; rfl
        have hl : nums s ≠ [48] := fun e => hz ((list48 s).2 e)
        have e : dspec (nums s) = none := by
          rcases hC with ⟨_, h⟩ | ⟨_, rfl, _⟩
          · rw [h]; exact dspec_minus_none (Or.inr (by rw [hat]; rfl))
          · rw [hat] at hl ⊢
            exact dspec_nought (fun e => hl (by rw [e]))
        rw [e]
        exact Parse_n s t b w ht hb h0 hne h48b hz2
    · have h48b : (((t[0]'h0).toNat : Int) == 48) = false := by simp only [beq_eq_false_iff_ne]; exact h48
      refine (Parse_d s t b w ht hb h0 (by omega) _ rfl h48b).mono fun e w' hpp => hpp.map ?_
      rcases hC with ⟨rfl, h⟩ | ⟨rfl, rfl, h⟩
      · rw [h, dspec_minus (by rw [hat]; simp) (by rw [hat]; simp; omega)]
        rfl
      · rw [hat] at h ⊢
        rw [dspec_plain (by simpa using h) (Or.inl h48)]
        have : (sgn false) = id := by funext z; rfl
        rw [this, Option.map_id]; rfl
  · have hnil : t.toList = [] := by
      rw [ByteArray.toList_eq]
      apply List.length_eq_zero_iff.1
      have : t.data.toList.length = t.size := rfl
      omega
    have hn : nums t = [] := by
      apply List.length_eq_zero_iff.1; rw [nums_len]; omega
    have e : dspec (nums s) = none := by
      rcases hC with ⟨_, h⟩ | ⟨_, rfl, _⟩
      · rw [h, hn]; rfl
      · rw [hn]; rfl
    rw [e]
    exact Parse_e s t b w ht hb hnil
end Go.Proofs.Ytjgkmhgaacallaa
