/- Numbers of decimal digits of package gromaref01, at every text. -/
import Derived.Test.YtfpifbfnebfdaaaDoorR12
import Derived.Test.YtfpifbfnebfdaaaDoorR13
import Derived.Test.YtfpifbfnebfdaaaDoorR14
namespace Go.Proofs.YtfpifbfnebfdaaaDoor
open Go.RowKit
attribute [local go_sem] Gr.size Gr.cell? Gr.frozen? Gr.setCell Gr.drew Gr.drewN Gr.of_drew Gr.of_drewN Gr.gr Gr.lt_of1 Gr.le_of1 Gr.lt_of2 Gr.le_of2 Gr.lt_of3 Gr.le_of3 Gr.lt_of4 Gr.le_of4 Gr.lt_of5 Gr.le_of5 Gr.lt_of6 Gr.le_of6 Gr.lt_of7 Gr.le_of7 Gr.lt_of8 Gr.le_of8

theorem DgP.map {neg : Bool} {q q' : Option Int} {w w' : World} {e : Ending} (h : DgP neg q w e w') (hq : q' = q.map (sgn neg)) : DgP false q' w e w' := by
  obtain ⟨v, ok, he, hT, hg⟩ := h
  refine ⟨v, ok, he, ?_, hg⟩
  subst hq
  rcases hT with ⟨rfl, z, hz, h⟩ | ⟨rfl, h1, h2⟩
  · exact Or.inl ⟨rfl, sgn neg z, by rw [hz]; rfl, h⟩
  · exact Or.inr ⟨rfl, by rw [h1]; rfl, h2⟩


set_option maxHeartbeats 4000000 in
theorem Digits_e (s : ByteArray) (w : World) (h : s = ByteArray.empty) :
    Calls Tryd.prog 21 #[.string s] w fun e w' => DgP false none w e w' := by
  subst h
  go_enter Tryd.func21, Tryd.ntmps21
  go_wp2
  exact bodyPost_ret (v := .tuple #[.agg #[.bool false, .slice none 0 0], .bool false]) (by simp [results, Tryd.results21, go_sem]) rfl (DgP.no rfl (by with_reducible repeat (first | exact IsGr.refl _ | refine IsGr.gr ?_ _ _ | refine IsGr.alloc ?_ _ | refine IsGr.drew ?_ | refine IsGr.drewN ?_ _)))

set_option maxHeartbeats 4000000 in
theorem Digits_m (s : ByteArray) (w : World) (h0 : 0 < s.size) (h45 : (((s[0]'h0).toNat : Int) == 45) = true) (h1 : s.size = 1) :
    Calls Tryd.prog 21 #[.string s] w fun e w' => DgP false none w e w' := by
  have hsz1 : ((s.size : Int) == 1) = true := by rw [beq_iff_eq]; omega
  go_enter Tryd.func21, Tryd.ntmps21
  go_wp2
  exact bodyPost_ret (v := .tuple #[.agg #[.bool false, .slice none 0 0], .bool false]) (by simp [results, Tryd.results21, go_sem]) rfl (DgP.no rfl (by with_reducible repeat (first | exact IsGr.refl _ | refine IsGr.gr ?_ _ _ | refine IsGr.alloc ?_ _ | refine IsGr.drew ?_ | refine IsGr.drewN ?_ _)))

set_option maxHeartbeats 4000000 in
theorem Digits_mn (s : ByteArray) (w : World) (h0 : 0 < s.size) (h45 : (((s[0]'h0).toNat : Int) == 45) = true) (h1 : 1 < s.size) (h48 : (((s[1]'h1).toNat : Int) == 48) = true) :
    Calls Tryd.prog 21 #[.string s] w fun e w' => DgP false none w e w' := by
  have hsz1 : ((s.size : Int) == 1) = false := by rw [beq_eq_false_iff_ne]; omega
  have hsz2 : decide (1 < (s.size : Int)) = true := by simp; omega
  go_enter Tryd.func21, Tryd.ntmps21
  go_wp2
  exact bodyPost_ret (v := .tuple #[.agg #[.bool false, .slice none 0 0], .bool false]) (by simp [results, Tryd.results21, go_sem]) rfl (DgP.no rfl (by with_reducible repeat (first | exact IsGr.refl _ | refine IsGr.gr ?_ _ _ | refine IsGr.alloc ?_ _ | refine IsGr.drew ?_ | refine IsGr.drewN ?_ _)))

set_option maxHeartbeats 4000000 in
theorem Digits_n (s : ByteArray) (w : World) (h0 : 0 < s.size) (h45 : (((s[0]'h0).toNat : Int) == 45) = false) (h48 : (((s[0]'h0).toNat : Int) == 48) = true) (h1 : 1 < s.size) :
    Calls Tryd.prog 21 #[.string s] w fun e w' => DgP false none w e w' := by
  have hsz1 : ((s.size : Int) == 0) = false := by rw [beq_eq_false_iff_ne]; omega
  have hsz2 : decide (1 < (s.size : Int)) = true := by simp; omega
  go_enter Tryd.func21, Tryd.ntmps21
  go_wp2
  exact bodyPost_ret (v := .tuple #[.agg #[.bool false, .slice none 0 0], .bool false]) (by simp [results, Tryd.results21, go_sem]) rfl (DgP.no rfl (by with_reducible repeat (first | exact IsGr.refl _ | refine IsGr.gr ?_ _ _ | refine IsGr.alloc ?_ _ | refine IsGr.drew ?_ | refine IsGr.drewN ?_ _)))

/-- Any text is told as its number, or as none. -/
theorem Digits_any (s : ByteArray) (w : World) (hs : s.size ≤ 120) :
    Calls Tryd.prog 21 #[.string s] w fun e w' => DgP false (dspec (nums s)) w e w' := by
  by_cases h0 : 0 < s.size
  · have hat := nums_at s 0 h0
    rw [List.drop_zero] at hat
    by_cases h45 : ((s[0]'h0).toNat : Int) = 45
    · have h45b : (((s[0]'h0).toNat : Int) == 45) = true := by simp [h45]
      rw [h45] at hat
      by_cases h1 : 1 < s.size
      · have hat1 := nums_at s 1 h1
        by_cases h48 : ((s[1]'h1).toNat : Int) = 48
        · have h48b : (((s[1]'h1).toNat : Int) == 48) = true := by simp [h48]
          rw [hat, dspec_minus_none (Or.inr (by rw [hat1, h48]; rfl))]
          exact Digits_mn s w h0 h45b h1 h48b
        · have h48b : (((s[1]'h1).toNat : Int) == 48) = false := by simp only [beq_eq_false_iff_ne]; exact h48
          refine (Digits_1 s w hs h0 _ rfl h45b h1 h48b).mono fun e w' h => h.map ?_
          rw [hat, dspec_minus (by rw [hat1]; simp) (by rw [hat1]; simp; omega)]
          rfl
      · have hn : (nums s).drop 1 = [] := by
          apply List.length_eq_zero_iff.1; rw [List.length_drop, nums_len]; omega
        rw [hat, dspec_minus_none (Or.inl hn)]
        exact Digits_m s w h0 h45b (by omega)
    · have h45b : (((s[0]'h0).toNat : Int) == 45) = false := by simp only [beq_eq_false_iff_ne]; exact h45
      have idm : ∀ q : Option Int, q = q.map (sgn false) := by
        intro q
        have : (sgn false) = id := by funext z; rfl
        rw [this, Option.map_id]; rfl
      by_cases h48 : ((s[0]'h0).toNat : Int) = 48
      · have h48b : (((s[0]'h0).toNat : Int) == 48) = true := by simp [h48]
        by_cases h1 : 1 < s.size
        · rw [hat, h48, dspec_nought (by intro e; have := congrArg List.length e; rw [List.length_drop, nums_len] at this; simp at this; omega)]
          exact Digits_n s w h0 h45b h48b h1
        · refine (Digits_z s w hs h0 _ rfl h45b h48b (by omega)).mono fun e w' h => h.map ?_
          rw [← idm, List.drop_zero, hat, dspec_plain h45 (Or.inr (by apply List.length_eq_zero_iff.1; rw [List.length_drop, nums_len]; omega))]
      · have h48b : (((s[0]'h0).toNat : Int) == 48) = false := by simp only [beq_eq_false_iff_ne]; exact h48
        refine (Digits_0 s w hs h0 _ rfl h45b h48b).mono fun e w' h => h.map ?_
        rw [← idm, List.drop_zero, hat, dspec_plain h45 (Or.inl h48)]
  · have hn : nums s = [] := by
      apply List.length_eq_zero_iff.1; rw [nums_len]; omega
    have he : s = ByteArray.empty := by
      obtain ⟨a⟩ := s
      congr 1
      apply Array.eq_empty_of_size_eq_zero
      have : a.size = (⟨a⟩ : ByteArray).size := rfl
      omega
    rw [hn, dspec_nil]
    exact Digits_e s w he
end Go.Proofs.YtfpifbfnebfdaaaDoor
