/- slices.Clone at points; slices.SortFunc and slices.Compact where there are none. -/
import Derived.Test.YtohhlhoijanjfaaU25g
import Derived.Shelf.SlSortCmp.NoneTotal
namespace Go.Proofs.Ytohhlhoijanjfaa
open Go Go.RowKit Go.Shelf
attribute [local go_sem] Gr.size Gr.cell? Gr.frozen? Gr.setCell Gr.drew Gr.drewN Gr.of_drew Gr.of_drewN Gr.gr Gr.lt_of1 Gr.le_of1 Gr.lt_of2 Gr.le_of2 Gr.lt_of3 Gr.le_of3 Gr.lt_of4 Gr.le_of4 Gr.lt_of5 Gr.le_of5 Gr.lt_of6 Gr.le_of6 Gr.lt_of7 Gr.le_of7 Gr.lt_of8 Gr.le_of8 Gr.lt_of9 Gr.le_of9 Gr.lt_of10 Gr.le_of10 Gr.lt_of11 Gr.le_of11 Gr.lt_of12 Gr.le_of12 Gr.lt_of13 Gr.le_of13 Gr.lt_of14 Gr.le_of14 Gr.lt_of15 Gr.le_of15 Gr.lt_of16 Gr.le_of16 Gr.lt_of17 Gr.le_of17 Gr.lt_of18 Gr.le_of18 Gr.lt_of19 Gr.le_of19 Gr.lt_of20 Gr.le_of20 Gr.lt_of21 Gr.le_of21 Gr.lt_of22 Gr.le_of22 Gr.lt_of23 Gr.le_of23 Gr.lt_of24 Gr.le_of24

set_option maxRecDepth 20000 in set_option maxHeartbeats 2000000 in
theorem Clone_any (a : Option Addr) (n c : Nat) (l : List (Int × Int)) (w : World) (h : Pts w (.slice a n c) l) (hn : n ≤ 4096) :
    Calls Try.prog 53 #[.slice a n c] w fun e w' => ∃ v, e = .returned v ∧ w'.ownsRow w.heap.size 24 2 v n (ptCs l) ∧ RowKit.Below w.heap.size w w' := by
  obtain ⟨i0, hi, hz0, hz1, hz2⟩ := info_parts info_p5
  have q22 : ∀ (w : World) (a : Option Addr) (n c n' c' : Nat), (binOp .eql 22 (.slice a n c) (.slice none n' c')).run Try.prog w = .ok (.bool a.isNone) w := fun w a n c n' c' => Lib.run_eql_slice_nil w _ _ a n c n' c' Try.underlying22
  have HP : Hid (Pts w (.slice a n c) l) := h
  have HL : Hid (n = l.length) := h.len
  clear h
  cases a with
  | none =>
    have hl : n = 0 ∧ l = [] := by
      obtain ⟨a', c', e, _, _, h4⟩ := HP.out
      rcases h4 with h4 | ⟨g, o, e2, _⟩
      · exact ⟨by rw [HL.out, h4]; rfl, h4⟩
      · injection e with e
        rw [← e] at e2
        cases e2
    obtain ⟨rfl, rfl⟩ := hl
    go_enter Try.func53, Try.ntmps53
    go_wp2
    go_ret
    exact ⟨_, rfl, World.ownsRow_nil _ _ _ _, (show IsGr w _ from (by with_reducible repeat (first | exact IsGr.refl _ | refine IsGr.gr ?_ _ _ | refine IsGr.alloc ?_ _ | refine IsGr.drew ?_ | refine IsGr.drewN ?_ _))).below⟩
  | some ad =>
    have hnews : Hid (∀ j u, (ptCs l)[j]? = some u → w.cell? (ad.add j) = some u) := by
      obtain ⟨a', c', e, _, _, h4⟩ := id HP.out
      rcases h4 with h4 | ⟨g, o, e2, _⟩
      · rw [h4]
        intro j u hu
        simp [ptCs] at hu
      · injection e with e e3 e4
        rw [← e] at e2
        injection e2 with e2
        subst e2
        exact HP.out.news
    go_enter Try.func53, Try.ntmps53
    go_wp2_with (at_builtin; refine wpList_append_own _ rfl _ _ 22 rfl w.heap.size 24 i0 (.agg #[.int .i64 0, .int .i64 0]) 2 16 Try.underlying22 hi hz0 hz1 hz2 rfl (by decide) _ _ _ rfl (World.ownsRow_made w #[] 0 (Nat.le_refl _) (Nat.zero_le _) (by simp)) ad n c (ptCs l) rfl ?qc1 ?qc2 ?qc3 ?qc4 ?qc5 ?qc6 ?_)
    case qc1 => rw [ptCs_length, HL.out]
    case qc2 =>
      intro j u hj
      exact Lib.cell?_alloc_some _ (hnews.out j u hj)
    case qc3 => exact ptCs_one l
    case qc4 => unfold maxLen; omega
    case qc5 => omega
    case qc6 => simp
    intro v' w1 hown hgrow hnil
    have hbe : RowKit.Below w.heap.size w w1 := (Below.alloc (Below.refl _ _) (Nat.le_refl _) _).trans (below_grown hgrow (by simp) (fun k9 e9 => by simp [Value.ownBlock] at e9; omega))
    have HO : Hid (w1.ownsRow w.heap.size 24 2 v' n (ptCs l)) := by unfold Hid; simpa using hown
    clear hown hgrow hnil
    go_wp2
    go_ret
    exact ⟨v', rfl, HO.out, hbe⟩
theorem Sort_none (a : Option Addr) (c : Nat) (fv : Value) (w : World) : Calls Try.prog 54 #[.slice a 0 c, fv] w fun e w' => e = .returned (.tuple #[]) ∧ w' = w :=
  AnyF.slices_SortFunc_none Try.laysSort a c fv w
set_option maxRecDepth 20000 in set_option maxHeartbeats 2000000 in
theorem Compact_none (a : Option Addr) (c : Nat) (w : World) : Calls Try.prog 55 #[.slice a 0 c] w fun e w' => e = .returned (.slice a 0 c) ∧ IsGr w w' := by
  go_enter Try.func55, Try.ntmps55
  go_wp2
  go_ret
  exact ⟨rfl, (by with_reducible repeat (first | exact IsGr.refl _ | refine IsGr.gr ?_ _ _ | refine IsGr.alloc ?_ _ | refine IsGr.drew ?_ | refine IsGr.drewN ?_ _))⟩
/-- The same points, told otherwise. -/
theorem HullT.of {h e l : List (Int × Int)} (H : HullT h e) (hm : ∀ x, x ∈ e ↔ x ∈ l) : HullT h l := by
  obtain ⟨t1, t2, t3, t4, t5, t6, t7⟩ := H
  exact ⟨t1, fun x hx => (hm x).1 (t2 x hx), fun p hp => t3 p ((hm p).2 hp), fun i hi p hp => t4 i hi p ((hm p).2 hp), t5, fun h2 p hp => t6 h2 p ((hm p).2 hp), t7⟩
end Go.Proofs.Ytohhlhoijanjfaa
