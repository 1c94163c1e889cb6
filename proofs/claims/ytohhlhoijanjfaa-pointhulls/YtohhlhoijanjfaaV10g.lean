/- gromalaw03.PointHulls: for every points the law answers true. -/
import Derived.Test.YtohhlhoijanjfaaU27g
namespace Go.Proofs.Ytohhlhoijanjfaa
open Go.RowKit Go.Shelf
attribute [local go_sem] Gr.size Gr.cell? Gr.frozen? Gr.setCell Gr.drew Gr.drewN Gr.of_drew Gr.of_drewN Gr.gr Gr.lt_of1 Gr.le_of1 Gr.lt_of2 Gr.le_of2 Gr.lt_of3 Gr.le_of3 Gr.lt_of4 Gr.le_of4 Gr.lt_of5 Gr.le_of5 Gr.lt_of6 Gr.le_of6 Gr.lt_of7 Gr.le_of7 Gr.lt_of8 Gr.le_of8 Gr.lt_of9 Gr.le_of9 Gr.lt_of10 Gr.le_of10 Gr.lt_of11 Gr.le_of11 Gr.lt_of12 Gr.le_of12 Gr.lt_of13 Gr.le_of13 Gr.lt_of14 Gr.le_of14 Gr.lt_of15 Gr.le_of15 Gr.lt_of16 Gr.le_of16 Gr.lt_of17 Gr.le_of17 Gr.lt_of18 Gr.le_of18 Gr.lt_of19 Gr.le_of19 Gr.lt_of20 Gr.le_of20 Gr.lt_of21 Gr.le_of21 Gr.lt_of22 Gr.le_of22 Gr.lt_of23 Gr.le_of23 Gr.lt_of24 Gr.le_of24

set_option maxRecDepth 20000 in set_option maxHeartbeats 2000000 in
theorem law_hulls (a : Option Addr) (n c : Nat) (l : List (Int × Int)) (w : World) (h : Pts w (.slice a n c) l) :
    Calls Try.prog 4 #[.slice a n c] w fun e w' => e = .returned (.bool true) ∧ IsGr w w' := by
  by_cases hn : n ≤ 60
  · refine law_hulls_few a n c l w h hn (fun hr w1 hg => Hull_no a n c l w1 (h.gr hg) hr (by omega)) (fun hr w1 hg => ?_)
    refine (Hull_yes a n c l w1 (h.gr hg) hr hn).mono ?_
    rintro e w' ⟨v, he, hs, h1, h2, h3, h4⟩
    exact ⟨v, hs, he, h1, h2, h3, h4⟩
  · have hn' : ¬ (n : Int) ≤ 60 := by omega
    have CA := fun w => awake3_any w
    clear h hn
    go_enter Try.func4, Try.ntmps4
    go_wp2_with fail
    refine (CA _).mono ?_
    rintro e w1 ⟨rfl, os1, m1, rfl⟩
    go_wp2
    go_ret
    exact ⟨rfl, (by with_reducible repeat (first | exact IsGr.refl _ | refine IsGr.gr ?_ _ _ | refine IsGr.alloc ?_ _ | refine IsGr.drew ?_ | refine IsGr.drewN ?_ _))⟩
end Go.Proofs.Ytohhlhoijanjfaa
