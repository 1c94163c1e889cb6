/- gromalaw01.WideParses: for every text the law answers true. -/
import Derived.Test.YtjgkmhgaacallaaL6
namespace Go.Proofs.Ytjgkmhgaacallaa
open Go.RowKit Go.Shelf
attribute [local go_sem] Gr.size Gr.cell? Gr.frozen? Gr.setCell Gr.drew Gr.drewN Gr.of_drew Gr.of_drewN Gr.gr Gr.lt_of1 Gr.le_of1 Gr.lt_of2 Gr.le_of2 Gr.lt_of3 Gr.le_of3 Gr.lt_of4 Gr.le_of4 Gr.lt_of5 Gr.le_of5 Gr.lt_of6 Gr.le_of6 Gr.lt_of7 Gr.le_of7 Gr.lt_of8 Gr.le_of8

theorem dig_sm (s : ByteArray) (z : Int) (hs : s.size ≤ 120) (h : dspec (nums s) = some z) : Sm z := by
  have key : ∀ (l : List Int) (acc y : Int) (k : Nat), 0 ≤ acc → acc < 10 ^ k → dval l acc = some y → 0 ≤ y ∧ y < 10 ^ (k + l.length) := by
    intro l
    induction l with
    | nil => intro acc y k h0 h1 h; simp [dval] at h; subst h; exact ⟨h0, by simpa using h1⟩
    | cons c r ih =>
      intro acc y k h0 h1 h
      by_cases hc : c < 48 ∨ 57 < c
      · rw [dval_bad hc] at h; cases h
      · rw [dval_good (by omega) (by omega)] at h
        have := ih _ y (k + 1) (by omega) (by rw [Int.pow_succ]; omega) h
        rw [List.length_cons, show k + (r.length + 1) = k + 1 + r.length by omega]
        exact this
  have bound : ∀ (l : List Int) (y : Int), l.length ≤ 120 → dval l 0 = some y → 0 ≤ y ∧ y ≤ 4149515568880992958512407863691161151012446232242436899995657329690652811412908146399707048947103794288197886611300789182395151075411775307886874834113963687061181803401509523685376 := by
    intro l y hl h
    have h1 := key l 0 y 0 (by omega) (by simp) h
    have h2 := pow_le_pow' (by decide : (1 : Int) ≤ 10) (show 0 + l.length ≤ 120 by omega)
    have h3 : (10 : Int) ^ 120 ≤ 4149515568880992958512407863691161151012446232242436899995657329690652811412908146399707048947103794288197886611300789182395151075411775307886874834113963687061181803401509523685376 := by decide +kernel
    omega
  have hl := nums_len s
  generalize nums s = l at h hl
  match l with
  | [] => cases h
  | c :: r =>
    rw [List.length_cons] at hl
    by_cases h45 : c = 45
    · subst h45
      by_cases hr : r = [] ∨ r.head? = some 48
      · rw [dspec_minus_none hr] at h; cases h
      · rw [dspec_minus (fun e => hr (Or.inl e)) (fun e => hr (Or.inr e))] at h
        match hd : dval r 0, h with
        | some y, h =>
          have := bound r y (by omega) hd
          simp at h; unfold Sm; omega
    · by_cases h48 : c ≠ 48 ∨ r = []
      · rw [dspec_plain h45 h48] at h
        have := bound (c :: r) z (by simp; omega) h
        unfold Sm; omega
      · have e : c = 48 ∧ r ≠ [] := by
          constructor
          · exact Classical.byContradiction fun e => h48 (Or.inl e)
          · exact fun e => h48 (Or.inr e)
        rw [e.1, dspec_nought e.2] at h; cases h

theorem not_m0 (s : ByteArray) (z : Int) (h : dspec (nums s) = some z) : (s.toList == [45, 48]) = false := by
  rw [Bool.eq_false_iff]
  intro e
  rw [ByteArray.toList_eq] at e
  have e2 : s.data.toList = [45, 48] := by simpa using e
  have e3 : nums s = [45, 48] := by unfold nums; rw [e2]; rfl
  rw [e3] at h
  cases h

set_option maxHeartbeats 4000000 in
theorem law_parses (s : ByteArray) (w : World) :
    Calls Try.prog 7 #[.string s] w fun e w' => e = .returned (.bool true) ∧ IsGr w w' := by
  have CA := fun w => awake_any w
  by_cases hlong : 120 < s.size
  · go_enter Try.func7, Try.ntmps7
    go_wp2_with fail
    refine (CA _).mono ?_
    rintro e w1 ⟨rfl, os1, d1, rfl⟩
    go_wp2
    go_ret
    exact ⟨rfl, (by with_reducible repeat (first | exact IsGr.refl _ | refine IsGr.gr ?_ _ _ | refine IsGr.alloc ?_ _ | refine IsGr.drew ?_ | refine IsGr.drewN ?_ _))⟩
  · have hs : s.size ≤ 120 := by omega
    have heI := fun w => eqI_t Is.zero Is.zero rfl w
    cases hq : dspec (nums s) with
    | none =>
      have CD := fun w => Digits_none s w hs hq
      have CP := fun w => Parse_none s w (by omega) (fun z e => by rw [hq] at e; cases e)
      clear hq
      go_enter Try.func7, Try.ntmps7
      go_wp2_with fail
      refine (CP _).mono ?_
      rintro e w1 ⟨rfl, os1, d1, rfl⟩
      go_wp2_with fail
      refine (CD _).mono ?_
      rintro e w1 ⟨rfl, os2, d2, rfl⟩
      go_wp2_with fail
      refine (CA _).mono ?_
      rintro e w1 ⟨rfl, os3, d3, rfl⟩
      go_wp2
      go_ret
      exact ⟨rfl, (by with_reducible repeat (first | exact IsGr.refl _ | refine IsGr.gr ?_ _ _ | refine IsGr.alloc ?_ _ | refine IsGr.drew ?_ | refine IsGr.drewN ?_ _))⟩
    | some z =>
      have sz := dig_sm s z hs hq
      have hm0 := not_m0 s z hq
      have CD := fun w => Digits_some s z w hs hq
      by_cases hf : -57896044618658097711785492504343953926634992332820282019728792003956564819968 ≤ z ∧ z < 57896044618658097711785492504343953926634992332820282019728792003956564819968
      · have CP := fun w => Parse_some s z w (by omega) hq hf
        clear hq
        go_enter Try.func7, Try.ntmps7
        go_wp2_with fail
        refine (CP _).mono ?_
        rintro e w1 ⟨p0, p1, p2, p3, rfl, hp, os1, d1, rfl⟩
        go_wp2_with fail
        refine (CD _).mono ?_
        rintro e w1 ⟨t, a, n, c, rfl, hb, os2, d2, rfl⟩
        have CI := fun w1 v (hg : IsBig w1 v z) => is_any hp v z w1 hg sz
        rw [show same z z = true by rw [same_eq]; simp] at CI
        have CF := fun w1 v (hg : IsBig w1 v z) => Fits_any v z w1 hg sz
        rw [fits_t hf] at CF
        go_wp2_with fail
        refine (CF _ _ (hb.gr ?_)).mono ?_
        exact (by repeat (first | with_reducible exact IsGr.refl _ | (refine ⟨#[], d2, ?_⟩; (try simp only [Gr.of_drew]); (try simp only [Gr.gr]); (try simp only [Array.append_assoc]); (try simp only [Array.append_empty]); (try with_reducible rfl); done) | with_reducible refine IsGr.alloc ?_ _ | with_reducible refine IsGr.gr ?_ _ _ | with_reducible refine IsGr.drew ?_ | with_reducible refine IsGr.drewN ?_ _))
        rintro e w1 ⟨rfl, os5, d5, rfl⟩
        go_wp2_with fail
        refine (CI _ _ (hb.gr ?_)).mono ?_
        exact (by repeat (first | with_reducible exact IsGr.refl _ | (refine ⟨#[], d2, ?_⟩; (try simp only [Gr.of_drew]); (try simp only [Gr.gr]); (try simp only [Array.append_assoc]); (try simp only [Array.append_empty]); (try with_reducible rfl); done) | with_reducible refine IsGr.alloc ?_ _ | with_reducible refine IsGr.gr ?_ _ _ | with_reducible refine IsGr.drew ?_ | with_reducible refine IsGr.drewN ?_ _))
        rintro e w1 ⟨rfl, os6, d6, rfl⟩
        go_wp2_with fail
        refine (CA _).mono ?_
        rintro e w1 ⟨rfl, os3, d3, rfl⟩
        go_wp2
        go_ret
        exact ⟨rfl, (by with_reducible repeat (first | exact IsGr.refl _ | refine IsGr.gr ?_ _ _ | refine IsGr.alloc ?_ _ | refine IsGr.drew ?_ | refine IsGr.drewN ?_ _))⟩
      · have CP := fun w => Parse_none s w (by omega) (fun y e => by rw [hq] at e; injection e with e; subst e; exact hf)
        clear hq
        go_enter Try.func7, Try.ntmps7
        go_wp2_with fail
        refine (CP _).mono ?_
        rintro e w1 ⟨rfl, os1, d1, rfl⟩
        go_wp2_with fail
        refine (CD _).mono ?_
        rintro e w1 ⟨t, a, n, c, rfl, hb, os2, d2, rfl⟩
        have CF := fun w1 v (hg : IsBig w1 v z) => Fits_any v z w1 hg sz
        rw [fits_f hf] at CF
        go_wp2_with fail
        refine (CF _ _ (hb.gr ?_)).mono ?_
        exact (by repeat (first | with_reducible exact IsGr.refl _ | (refine ⟨#[], d2, ?_⟩; (try simp only [Gr.of_drew]); (try simp only [Gr.gr]); (try simp only [Array.append_assoc]); (try simp only [Array.append_empty]); (try with_reducible rfl); done) | with_reducible refine IsGr.alloc ?_ _ | with_reducible refine IsGr.gr ?_ _ _ | with_reducible refine IsGr.drew ?_ | with_reducible refine IsGr.drewN ?_ _))
        rintro e w1 ⟨rfl, os5, d5, rfl⟩
        go_wp2_with fail
        refine (CA _).mono ?_
        rintro e w1 ⟨rfl, os3, d3, rfl⟩
        go_wp2
        go_ret
        exact ⟨rfl, (by with_reducible repeat (first | exact IsGr.refl _ | refine IsGr.gr ?_ _ _ | refine IsGr.alloc ?_ _ | refine IsGr.drew ?_ | refine IsGr.drewN ?_ _))⟩
end Go.Proofs.Ytjgkmhgaacallaa
