/- gromalaw01.WideSmall: for every int and every Int the law answers true. -/
import Derived.Test.YtjgkmhgaacallaaA1
import Derived.Test.YtjgkmhgaacallaaK1
import Derived.Test.YtjgkmhgaacallaaR10
namespace Go.Proofs.Ytjgkmhgaacallaa
open Go.RowKit Go.Shelf
attribute [local go_sem] Gr.size Gr.cell? Gr.frozen? Gr.setCell Gr.drew Gr.drewN Gr.of_drew Gr.of_drewN Gr.gr Gr.lt_of1 Gr.le_of1 Gr.lt_of2 Gr.le_of2 Gr.lt_of3 Gr.le_of3 Gr.lt_of4 Gr.le_of4 Gr.lt_of5 Gr.le_of5 Gr.lt_of6 Gr.le_of6 Gr.lt_of7 Gr.le_of7 Gr.lt_of8 Gr.le_of8

theorem small_of {x m : Int} {ok : Bool} (h : SmallTold x m ok) (hr : -9223372036854775808 ≤ x ∧ x < 9223372036854775808) : ok = true ∧ m = x := by
  rcases h with ⟨a, b, _⟩ | ⟨_, _, c⟩
  · exact ⟨a, b⟩
  · exact absurd hr c
theorem small_not {x m : Int} {ok : Bool} (h : SmallTold x m ok) (hr : ¬ (-9223372036854775808 ≤ x ∧ x < 9223372036854775808)) : ok = false ∧ m = 0 := by
  rcases h with ⟨_, _, c⟩ | ⟨a, b, _⟩
  · exact absurd c hr
  · exact ⟨a, b⟩

set_option maxHeartbeats 8000000 in
theorem law_small (n x0 x1 x2 x3 x : Int) (n0 : -9223372036854775808 ≤ n) (n1 : n < 9223372036854775808) (hx : IsI x0 x1 x2 x3 x) (w : World) :
    Calls Try.prog 5 #[.int .i64 n, .agg #[.int .u64 x0, .int .u64 x1, .int .u64 x2, .int .u64 x3]] w fun e w' => e = .returned (.bool true) ∧ IsGr w w' := by
  have RX := fun w => Read_any hx.1 hx.2.1 hx.2.2 w
  have CO := fun w => Of_any n n0 n1 w
  have CB := fun w => BigOf_any n n0 n1 w
  have CS := fun w => Small_any x0 x1 x2 x3 x hx w
  have CP := fun w1 => Power_any 63 w1 (by omega) (by omega)
  rw [show (2 : Int) ^ (63 : Int).toNat = 9223372036854775808 by decide] at CP
  have sx : Sm x := by have := hx.2; unfold Sm; omega
  have sn : Sm n := by unfold Sm; omega
  have sp : Sm 9223372036854775808 := by unfold Sm; omega
  have sm : Sm (0 - 9223372036854775808) := by unfold Sm; omega
  have CA := fun w => awake_any w
  have hnn : (n != n) = false := by simp
  go_enter Try.func5, Try.ntmps5
  go_wp2_with fail
  refine (CO _).mono ?_
  rintro e w1 ⟨a0, a1, a2, a3, rfl, ha, os1, d1, rfl⟩
  go_wp2_with fail
  refine (CB _).mono ?_
  rintro e w1 ⟨b, rfl, hb, os2, d2, rfl⟩
  obtain ⟨bs, ba, bn, bc, rfl⟩ := hb.shape
  have CI := fun w1 (hg : IsBig w1 (.agg #[.bool bs, .slice ba bn bc]) n) => is_any ha _ n w1 hg sn
  rw [show same n n = true by rw [same_eq]; simp] at CI
  go_wp2_with fail
  refine (CI _ (hb.gr ⟨#[], d2, by simp [Gr.gr]⟩)).mono ?_
  rintro e w1 ⟨rfl, os3, d3, rfl⟩
  go_wp2_with fail
  refine (CO _).mono ?_
  rintro e w1 ⟨c0, c1, c2, c3, rfl, hc, os4, d4, rfl⟩
  go_wp2_with fail
  refine (Small_any c0 c1 c2 c3 n hc _).mono ?_
  rintro e w1 ⟨m, ok, rfl, hm, os5, d5, rfl⟩
  obtain ⟨rfl, rfl⟩ := small_of hm ⟨n0, n1⟩
  clear hm ha hb hc CI CO CB
  go_wp2_with fail
  refine (CS _).mono ?_
  rintro e w1 ⟨k, sml, rfl, hk, os6, d6, rfl⟩
  go_wp2_with fail
  refine (RX _).mono ?_
  rintro e w1 ⟨u, rfl, hu, os7, d7, rfl⟩
  obtain ⟨us, ua, un, uc, rfl⟩ := hu.shape
  go_wp2_with fail
  refine (CP _).mono ?_
  rintro e w1 ⟨p, rfl, hp, os8, d8, rfl⟩
  obtain ⟨ps, pa, pn, pc, rfl⟩ := hp.shape
  have tok1 : True := trivial
  obtain ⟨B, hB⟩ : ∃ B, B = (decide (x < 0 - 9223372036854775808) || decide (9223372036854775808 ≤ x)) := ⟨_, rfl⟩
  have HB : Hid (B = (decide (x < 0 - 9223372036854775808) || decide (9223372036854775808 ≤ x))) := hB
  clear hB
  go_upto_region 8 with fail
  go_cut [48] (fun t48 wr => t48 = .bool B ∧ w.heap.size < wr.heap.size ∧ (wr.cell? ⟨w.heap.size, 0, none⟩ = some (.int .u64 x0) ∧ wr.cell? ⟨w.heap.size, 1, none⟩ = some (.int .u64 x1) ∧ wr.cell? ⟨w.heap.size, 2, none⟩ = some (.int .u64 x2) ∧ wr.cell? ⟨w.heap.size, 3, none⟩ = some (.int .u64 x3)) ∧ IsGr w wr)
  case first =>
    by_cases hlo : x < 0 - 9223372036854775808
    · have e1 := cmpI_lt hlo
      have hB : B = true := by rw [HB.out]; simp; omega
      subst hB
      go_region_with (first | (go_at_call 23; refine (Minus_any _ 9223372036854775808 _ (hp.gr ?_) sp).mono ?_; exact (by repeat (first | with_reducible exact IsGr.refl _ | (refine ⟨#[], d8, ?_⟩; (try simp only [Gr.of_drew]); (try simp only [Gr.gr]); (try simp only [Array.append_assoc]); (try simp only [Array.append_empty]); (try with_reducible rfl); done) | with_reducible refine IsGr.alloc ?_ _ | with_reducible refine IsGr.gr ?_ _ _ | with_reducible refine IsGr.drew ?_ | with_reducible refine IsGr.drewN ?_ _)); rintro e w1 ⟨t, rfl, ht, os9, d9, rfl⟩; obtain ⟨ts, ta, tn, tc, rfl⟩ := ht.shape) | (go_at_call 22; refine (BigCmp_any _ _ x (0 - 9223372036854775808) _ (hu.gr ?_) (ht.gr ?_) sx sm).mono ?_; exact (by repeat (first | with_reducible exact IsGr.refl _ | (refine ⟨os8, d8, ?_⟩; (try simp only [Gr.of_drew]); (try simp only [Gr.gr]); (try simp only [Array.append_assoc]); (try simp only [Array.append_empty]); (try with_reducible rfl); done) | with_reducible refine IsGr.alloc ?_ _ | with_reducible refine IsGr.gr ?_ _ _ | with_reducible refine IsGr.drew ?_ | with_reducible refine IsGr.drewN ?_ _)); exact (by repeat (first | with_reducible exact IsGr.refl _ | (refine ⟨#[], d9, ?_⟩; (try simp only [Gr.of_drew]); (try simp only [Gr.gr]); (try simp only [Array.append_assoc]); (try simp only [Array.append_empty]); (try with_reducible rfl); done) | with_reducible refine IsGr.alloc ?_ _ | with_reducible refine IsGr.gr ?_ _ _ | with_reducible refine IsGr.drew ?_ | with_reducible refine IsGr.drewN ?_ _)); rw [e1]; rintro e w1 ⟨rfl, os10, d10, rfl⟩))
      all_goals
        go_wp2
        go_meet
        case rel => exact ⟨rfl, by simp [Gr.size]; try omega, by simp [go_sem], (by with_reducible repeat (first | exact IsGr.refl _ | refine IsGr.gr ?_ _ _ | refine IsGr.alloc ?_ _ | refine IsGr.drew ?_ | refine IsGr.drewN ?_ _))⟩
    · have e1 : 0 ≤ cmpI x (0 - 9223372036854775808) := by unfold cmpI; rw [if_neg hlo]; split <;> decide
      generalize hA : cmpI x (0 - 9223372036854775808) = A at e1
      have hA' : Hid (cmpI x (0 - 9223372036854775808) = A) := hA
      have e1b : decide (A < 0) = false := by simp; omega
      obtain ⟨C, hC, hC2⟩ : ∃ C, cmpI x 9223372036854775808 = C ∧ decide (0 ≤ C) = B := by
        refine ⟨_, rfl, ?_⟩
        rw [HB.out]; unfold cmpI; repeat' split
        all_goals simp
        all_goals omega
      have hC' : Hid (cmpI x 9223372036854775808 = C) := hC
      clear hA hC
      go_region_held3 (fun w' => w'.cell? ⟨w.heap.size + 1 + (os1.size + (os2.size + (os3.size + (os4.size + (os5.size + (os6.size + (os7.size + os8.size))))))), 0, none⟩ = some (.bool us) ∧ w'.cell? ⟨w.heap.size + 1 + (os1.size + (os2.size + (os3.size + (os4.size + (os5.size + (os6.size + (os7.size + os8.size))))))), 1, none⟩ = some (.slice ua un uc) ∧ w'.cell? ⟨w.heap.size + 1 + (os1.size + (os2.size + (os3.size + (os4.size + (os5.size + (os6.size + (os7.size + os8.size))))))) + 1, 0, none⟩ = some (.bool ps) ∧ w'.cell? ⟨w.heap.size + 1 + (os1.size + (os2.size + (os3.size + (os4.size + (os5.size + (os6.size + (os7.size + os8.size))))))) + 1, 1, none⟩ = some (.slice pa pn pc)) (simp [go_sem])
        ((first | (go_at_call 23; refine (Minus_any _ 9223372036854775808 _ (hp.gr ?_) sp).mono ?_; exact (by repeat (first | with_reducible exact IsGr.refl _ | (refine ⟨#[], d8, ?_⟩; (try simp only [Gr.of_drew]); (try simp only [Gr.gr]); (try simp only [Array.append_assoc]); (try simp only [Array.append_empty]); (try with_reducible rfl); done) | with_reducible refine IsGr.alloc ?_ _ | with_reducible refine IsGr.gr ?_ _ _ | with_reducible refine IsGr.drew ?_ | with_reducible refine IsGr.drewN ?_ _)); rintro e w1 ⟨t, rfl, ht, os9, d9, rfl⟩; obtain ⟨ts, ta, tn, tc, rfl⟩ := ht.shape) | (go_at_call 22; have _t := tok1; refine (BigCmp_any _ _ x (0 - 9223372036854775808) _ (hu.gr ?_) (ht.gr ?_) sx sm).mono ?_; exact (by repeat (first | with_reducible exact IsGr.refl _ | (refine ⟨os8, d8, ?_⟩; (try simp only [Gr.of_drew]); (try simp only [Gr.gr]); (try simp only [Array.append_assoc]); (try simp only [Array.append_empty]); (try with_reducible rfl); done) | with_reducible refine IsGr.alloc ?_ _ | with_reducible refine IsGr.gr ?_ _ _ | with_reducible refine IsGr.drew ?_ | with_reducible refine IsGr.drewN ?_ _)); exact (by repeat (first | with_reducible exact IsGr.refl _ | (refine ⟨#[], d9, ?_⟩; (try simp only [Gr.of_drew]); (try simp only [Gr.gr]); (try simp only [Array.append_assoc]); (try simp only [Array.append_empty]); (try with_reducible rfl); done) | with_reducible refine IsGr.alloc ?_ _ | with_reducible refine IsGr.gr ?_ _ _ | with_reducible refine IsGr.drew ?_ | with_reducible refine IsGr.drewN ?_ _)); rw [hA'.out]; rintro e w1 ⟨rfl, os10, d10, rfl⟩; clear tok1) | (go_at_call 22; refine (BigCmp_any _ _ x 9223372036854775808 _ (hu.gr ?_) (hp.gr ?_) sx sp).mono ?_; exact (by repeat (first | with_reducible exact IsGr.refl _ | (refine ⟨os8, d8, ?_⟩; (try simp only [Gr.of_drew]); (try simp only [Gr.gr]); (try simp only [Array.append_assoc]); (try simp only [Array.append_empty]); (try with_reducible rfl); done) | with_reducible refine IsGr.alloc ?_ _ | with_reducible refine IsGr.gr ?_ _ _ | with_reducible refine IsGr.drew ?_ | with_reducible refine IsGr.drewN ?_ _)); exact (by repeat (first | with_reducible exact IsGr.refl _ | (refine ⟨#[], d8, ?_⟩; (try simp only [Gr.of_drew]); (try simp only [Gr.gr]); (try simp only [Array.append_assoc]); (try simp only [Array.append_empty]); (try with_reducible rfl); done) | with_reducible refine IsGr.alloc ?_ _ | with_reducible refine IsGr.gr ?_ _ _ | with_reducible refine IsGr.drew ?_ | with_reducible refine IsGr.drewN ?_ _)); rw [hC'.out]; rintro e w1 ⟨rfl, os11, d11, rfl⟩)))
      all_goals
        go_wp2
        go_meet
        case rel => exact ⟨rfl, by simp [Gr.size]; try omega, by simp [go_sem], (by with_reducible repeat (first | exact IsGr.refl _ | refine IsGr.gr ?_ _ _ | refine IsGr.alloc ?_ _ | refine IsGr.drew ?_ | refine IsGr.drewN ?_ _))⟩
  case rest =>
    obtain ⟨rfl, hsz, ⟨i1, i2, i3, i4⟩, hgr⟩ := hcut
    have HG : Hid (IsGr w wc) := hgr
    clear hgr hu hp RX CP
    by_cases hin : -9223372036854775808 ≤ x ∧ x < 9223372036854775808
    · obtain ⟨rfl, rfl⟩ := small_of hk hin
      have hB : B = false := by rw [HB.out]; simp; omega
      subst hB
      have CK := fun w => BigOf_any k hin.1 hin.2 w
      have CI := fun w1 v (hg : IsBig w1 v k) => is_any hx v k w1 hg sx
      rw [show same k k = true by rw [same_eq]; simp] at CI
      clear hk hin
      go_wp2
      go_region_held3 (fun w' => (w'.cell? ⟨w.heap.size, 0, none⟩ = some (.int .u64 x0) ∧ w'.cell? ⟨w.heap.size, 1, none⟩ = some (.int .u64 x1) ∧ w'.cell? ⟨w.heap.size, 2, none⟩ = some (.int .u64 x2) ∧ w'.cell? ⟨w.heap.size, 3, none⟩ = some (.int .u64 x3))) (simp [go_sem, i1, i2, i3, i4, hsz])
        ((first | (go_at_call 25; refine (CK _).mono ?_; rintro e w1 ⟨t, rfl, ht, os9, d9, rfl⟩; obtain ⟨ts, ta, tn, tc, rfl⟩ := ht.shape) | (go_at_call 27; refine (CI _ _ (ht.gr ?_)).mono ?_; exact (by repeat (first | with_reducible exact IsGr.refl _ | (refine ⟨#[], d9, ?_⟩; (try simp only [Gr.of_drew]); (try simp only [Gr.gr]); (try simp only [Array.append_assoc]); (try simp only [Array.append_empty]); (try with_reducible rfl); done) | with_reducible refine IsGr.alloc ?_ _ | with_reducible refine IsGr.gr ?_ _ _ | with_reducible refine IsGr.drew ?_ | with_reducible refine IsGr.drewN ?_ _)); rintro e w1 ⟨rfl, os10, d10, rfl⟩) | (go_at_call 19; refine (CA _).mono ?_; rintro e w1 ⟨rfl, os11, d11, rfl⟩)))
      all_goals
        go_wp2
        go_ret
        exact ⟨rfl, HG.out.trans (by with_reducible repeat (first | exact IsGr.refl _ | refine IsGr.gr ?_ _ _ | refine IsGr.alloc ?_ _ | refine IsGr.drew ?_ | refine IsGr.drewN ?_ _))⟩
    · obtain ⟨rfl, rfl⟩ := small_not hk hin
      have hB : B = true := by rw [HB.out]; simp; omega
      subst hB
      clear hk hin
      go_wp2_with fail
      refine (CA _).mono ?_
      rintro e w1 ⟨rfl, os11, d11, rfl⟩
      go_wp2
      go_ret
      exact ⟨rfl, HG.out.trans (by with_reducible repeat (first | exact IsGr.refl _ | refine IsGr.gr ?_ _ _ | refine IsGr.alloc ?_ _ | refine IsGr.drew ?_ | refine IsGr.drewN ?_ _))⟩
end Go.Proofs.Ytjgkmhgaacallaa
