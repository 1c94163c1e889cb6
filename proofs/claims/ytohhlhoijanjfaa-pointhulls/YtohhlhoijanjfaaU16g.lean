/- Contracts of package point over the loaded program: allowed, follower, Area. -/
import Derived.Test.YtohhlhoijanjfaaU7g
namespace Go.Proofs.Ytohhlhoijanjfaa
open Go.RowKit Go.Shelf
attribute [local go_sem] Gr.size Gr.cell? Gr.frozen? Gr.setCell Gr.drew Gr.drewN Gr.of_drew Gr.of_drewN Gr.gr Gr.lt_of1 Gr.le_of1 Gr.lt_of2 Gr.le_of2 Gr.lt_of3 Gr.le_of3 Gr.lt_of4 Gr.le_of4 Gr.lt_of5 Gr.le_of5 Gr.lt_of6 Gr.le_of6 Gr.lt_of7 Gr.le_of7 Gr.lt_of8 Gr.le_of8 Gr.lt_of9 Gr.le_of9 Gr.lt_of10 Gr.le_of10 Gr.lt_of11 Gr.le_of11 Gr.lt_of12 Gr.le_of12 Gr.lt_of13 Gr.le_of13 Gr.lt_of14 Gr.le_of14 Gr.lt_of15 Gr.le_of15 Gr.lt_of16 Gr.le_of16 Gr.lt_of17 Gr.le_of17 Gr.lt_of18 Gr.le_of18 Gr.lt_of19 Gr.le_of19 Gr.lt_of20 Gr.le_of20 Gr.lt_of21 Gr.le_of21 Gr.lt_of22 Gr.le_of22 Gr.lt_of23 Gr.le_of23 Gr.lt_of24 Gr.le_of24

set_option maxRecDepth 20000 in set_option maxHeartbeats 2000000 in
theorem allowed_any (a : Option Addr) (n c : Nat) (l : List (Int × Int)) (w : World) (h : Pts w (.slice a n c) l) (hn : n ≤ 4096) :
    Calls Try.prog 48 #[.slice a n c] w fun e w' => e = .returned (.bool (allR l)) ∧ IsGr w w' := by
  have CA := fun w1 (hg : IsGr w w1) => allRight_any a n c l w1 (h.gr hg) (by omega)
  have hle : (n : Int) ≤ 4096 := by omega
  generalize allR l = B at CA
  clear h
  go_enter Try.func48, Try.ntmps48
  go_wp2_with fail
  refine (CA _ ?_).mono ?_
  · exact (by with_reducible repeat (first | exact IsGr.refl _ | refine IsGr.gr ?_ _ _ | refine IsGr.alloc ?_ _ | refine IsGr.drew ?_ | refine IsGr.drewN ?_ _))
  rintro e w1 ⟨rfl, os1, m1, rfl⟩
  go_wp2
  go_ret
  exact ⟨rfl, (by with_reducible repeat (first | exact IsGr.refl _ | refine IsGr.gr ?_ _ _ | refine IsGr.alloc ?_ _ | refine IsGr.drew ?_ | refine IsGr.drewN ?_ _))⟩

theorem allR_get {l : List (Int × Int)} (h : allR l = true) (i : Nat) : rightP (l.getD i (0, 0)).1 (l.getD i (0, 0)).2 = true := by
  simp only [allR, List.all_eq_true] at h
  by_cases hi : i < l.length
  · have := h l[i] (List.getElem_mem hi)
    simpa [List.getD, hi] using this
  · have : l.getD i (0, 0) = (0, 0) := by simp [List.getD, Nat.le_of_not_lt hi]
    rw [this]; rfl
end Go.Proofs.Ytohhlhoijanjfaa
