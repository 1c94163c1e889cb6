/- Contracts over the loaded program: gromaref03.Winds; the quarters that a closed way goes through are four times as many as the ray is passed. -/
import Derived.Test.YtohhlhoijanjfaaU20
import Derived.Test.YtohhlhoijanjfaaM9
import Derived.Test.YtohhlhoijanjfaaH2
import Derived.Test.YtohhlhoijanjfaaU17
namespace Go.Proofs.Ytohhlhoijanjfaa
open Go.RowKit Go.Shelf
attribute [local go_sem] Gr.size Gr.cell? Gr.frozen? Gr.setCell Gr.drew Gr.drewN Gr.of_drew Gr.of_drewN Gr.gr Gr.lt_of1 Gr.le_of1 Gr.lt_of2 Gr.le_of2 Gr.lt_of3 Gr.le_of3 Gr.lt_of4 Gr.le_of4 Gr.lt_of5 Gr.le_of5 Gr.lt_of6 Gr.le_of6 Gr.lt_of7 Gr.le_of7 Gr.lt_of8 Gr.le_of8 Gr.lt_of9 Gr.le_of9 Gr.lt_of10 Gr.le_of10 Gr.lt_of11 Gr.le_of11 Gr.lt_of12 Gr.le_of12 Gr.lt_of13 Gr.le_of13 Gr.lt_of14 Gr.le_of14 Gr.lt_of15 Gr.le_of15 Gr.lt_of16 Gr.le_of16 Gr.lt_of17 Gr.le_of17 Gr.lt_of18 Gr.le_of18 Gr.lt_of19 Gr.le_of19 Gr.lt_of20 Gr.le_of20 Gr.lt_of21 Gr.le_of21 Gr.lt_of22 Gr.le_of22 Gr.lt_of23 Gr.le_of23 Gr.lt_of24 Gr.le_of24

/-- How many quarters the segment from a to b goes around p. -/
def stepP (a1 a2 b1 b2 p1 p2 : Int) : Int := st (qtr b1 b2 p1 p2 - qtr a1 a2 p1 p2) (wayP a1 a2 b1 b2 p1 p2)
/-- How many quarters the first k segments go around. -/
def stK (l : List (Int × Int)) (p1 p2 : Int) : Nat → Int
  | 0 => 0
  | k + 1 => stK l p1 p2 k + stepP (l.getD k (0, 0)).1 (l.getD k (0, 0)).2 (nextP l k).1 (nextP l k).2 p1 p2
theorem qtr_range (a1 a2 p1 p2 : Int) : 0 ≤ qtr a1 a2 p1 p2 ∧ qtr a1 a2 p1 p2 ≤ 3 := by
  unfold qtr
  repeat' split
  all_goals omega
theorem stepP_range (a1 a2 b1 b2 p1 p2 : Int) : -3 ≤ stepP a1 a2 b1 b2 p1 p2 ∧ stepP a1 a2 b1 b2 p1 p2 ≤ 3 := by
  have h1 := qtr_range a1 a2 p1 p2
  have h2 := qtr_range b1 b2 p1 p2
  have h3 := wayP_range a1 a2 b1 b2 p1 p2
  unfold stepP st
  repeat' split
  all_goals omega
theorem stK_bound (l : List (Int × Int)) (p1 p2 : Int) : ∀ k : Nat, -(3 * (k : Int)) ≤ stK l p1 p2 k ∧ stK l p1 p2 k ≤ 3 * (k : Int)
  | 0 => by simp [stK]
  | k + 1 => by
    have h1 := stK_bound l p1 p2 k
    have h2 := stepP_range (l.getD k (0, 0)).1 (l.getD k (0, 0)).2 (nextP l k).1 (nextP l k).2 p1 p2
    unfold stK
    omega
theorem qtr_q0 (a1 a2 p1 p2 : Int) : qtr a1 a2 p1 p2 = q0 (a1 - p1) (a2 - p2) := by
  unfold qtr q0
  repeat' split
  all_goals omega
theorem passP_ps (a1 a2 b1 b2 p1 p2 : Int) : passP a1 a2 b1 b2 p1 p2 = ps (a2 - p2) (b2 - p2) (wayP a1 a2 b1 b2 p1 p2) := by
  unfold passP ps
  repeat' split
  all_goals omega
theorem turnI_diff (a1 a2 b1 b2 p1 p2 : Int) : turnI a1 a2 b1 b2 p1 p2 = (a1 - p1) * (b2 - p2) - (a2 - p2) * (b1 - p1) := by
  unfold turnI; grind
theorem stepP_pass {a1 a2 b1 b2 p1 p2 : Int} (hr : right3 a1 a2 b1 b2 p1 p2 = true) (ho : onP a1 a2 b1 b2 p1 p2 = false) :
    stepP a1 a2 b1 b2 p1 p2 = 4 * passP a1 a2 b1 b2 p1 p2 + (q1 (b1 - p1) (b2 - p2) - q1 (a1 - p1) (a2 - p2)) := by
  unfold stepP
  rw [qtr_q0, qtr_q0, passP_ps]
  apply step_pass
  · unfold wayP
    rw [if_pos hr, turnI_diff]
    unfold cmpI
    repeat' split
    all_goals omega
  · intro h0
    unfold onP at ho
    rw [hr, h0] at ho
    simp only [decide_true, Bool.true_and, betw, decide_eq_false_iff_not] at ho
    unfold lexlt lexgt
    rcases cmpP_cases a1 a2 p1 p2 with ⟨e1, h1⟩ | ⟨e1, h1⟩ | ⟨e1, h1⟩ <;> rcases cmpP_cases p1 p2 b1 b2 with ⟨e2, h2⟩ | ⟨e2, h2⟩ | ⟨e2, h2⟩ <;> rw [e1, e2] at ho <;> first | (exfalso; revert ho; decide) | omega
/-- A closed way that p does not lie on: four times as many quarters as the ray is passed. -/
theorem stK_windK {l : List (Int × Int)} {p1 p2 : Int} (hp : rightP p1 p2 = true) (hl : allR l = true) (ho : ∀ i, i < l.length → onAt l p1 p2 i = false) :
    stK l p1 p2 l.length = 4 * windK l p1 p2 l.length := by
  have hs : ∀ k, k < l.length → stepP (l.getD k (0, 0)).1 (l.getD k (0, 0)).2 (nextP l k).1 (nextP l k).2 p1 p2 = 4 * passP (l.getD k (0, 0)).1 (l.getD k (0, 0)).2 (nextP l k).1 (nextP l k).2 p1 p2 + (q1 ((nextP l k).1 - p1) ((nextP l k).2 - p2) - q1 ((l.getD k (0, 0)).1 - p1) ((l.getD k (0, 0)).2 - p2)) := fun k hk => by
    refine stepP_pass ?_ (ho k hk)
    simp only [right3, Bool.and_eq_true]
    exact ⟨⟨allR_get hl k, allR_get hl _⟩, hp⟩
  have h : ∀ k, k < l.length → stK l p1 p2 k = 4 * windK l p1 p2 k + (q1 ((l.getD k (0, 0)).1 - p1) ((l.getD k (0, 0)).2 - p2) - q1 ((l.getD 0 (0, 0)).1 - p1) ((l.getD 0 (0, 0)).2 - p2)) := by
    intro k
    induction k with
    | zero => intro _; simp only [stK, windK]; omega
    | succ k ih =>
      intro hk
      simp only [stK, windK]
      rw [ih (by omega), hs k (by omega), nextP_lt hk]
      omega
  cases hn : l.length with
  | zero => rfl
  | succ k =>
    simp only [stK, windK]
    rw [h k (by omega), hs k (by omega), nextP_last hn.symm]
    omega


set_option maxRecDepth 20000 in set_option maxHeartbeats 2000000 in
theorem refWinds_any (a : Option Addr) (n c : Nat) (l : List (Int × Int)) (p1 p2 : Int) (w : World) (h : Pts w (.slice a n c) l) (hn : n ≤ 4096) :
    Calls Try.prog 15 #[.slice a n c, .agg #[.int .i64 p1, .int .i64 p2]] w fun e w' => e = .returned (.int .i64 ((stK l p1 p2 n).tdiv 4)) ∧ IsGr w w' := by
  have HL : Hid (n = l.length) := h.len
  have HP : Hid (Pts w (.slice a n c) l) := h
  have Hn : Hid (n ≤ 4096) := hn
  clear h hn
  go_enter Try.func15, Try.ntmps15
  go_wp2
  go_loopw [5, 6] (fun t5 t6 wr => ∃ k : Nat, k ≤ n ∧ t6 = .int .i64 k ∧ t5 = .int .i64 (stK l p1 p2 k) ∧ (wr.cell? ⟨w.heap.size, 0, none⟩ = some (.int .i64 p1) ∧ wr.cell? ⟨w.heap.size, 1, none⟩ = some (.int .i64 p2)) ∧ Hid (w.heap.size < wr.heap.size ∧ IsGr w wr)) (fun _ t6 _ => (n - intOf t6).toNat)
  case atStart => exact ⟨0, by omega, rfl, rfl, by simp [go_sem], ⟨by simp, (by with_reducible repeat (first | exact IsGr.refl _ | refine IsGr.gr ?_ _ _ | refine IsGr.alloc ?_ _ | refine IsGr.drew ?_ | refine IsGr.drewN ?_ _))⟩⟩
  case round =>
    obtain ⟨k, hk, rfl, rfl, ⟨q1', q2'⟩, HW⟩ := hrel
    obtain ⟨W2, hW2⟩ : ∃ W2, W2 = wr := ⟨_, rfl⟩
    subst hW2
    have ka : w.heap.size < W2.heap.size := HW.out.1
    by_cases hkn : k < n
    · have hP := HP.out.gr HW.out.2
      obtain ⟨g, o, rfl, hgs, hc⟩ := hP.at hkn
      obtain ⟨c1, c2⟩ := hc k hkn
      have hj : (k + 1) % n < n := Nat.mod_lt _ (by omega)
      obtain ⟨e1, e2⟩ := hc _ hj
      have e0 : l.getD ((k + 1) % n) (0, 0) = nextP l k := by rw [HL.out]; rfl
      rw [e0] at e1 e2
      have hn9 := Hn.out
      have hkn' : (k : Int) < n := by omega
      have v1 : IntKind.i64.wrap ((k : Int) + 1) = (k : Int) + 1 := by rw [IntKind.wrap_i64]; omega
      have v2 : ((k : Int) + 1).tmod (n : Int) = (((k + 1) % n : Nat) : Int) := by
        rw [Int.tmod_eq_emod_of_nonneg (by omega)]; simp
      have n0 : ¬ n = 0 := by omega
      have hjn : (((k + 1) % n : Nat) : Int) < n := by omega
      have HS : Hid (stK l p1 p2 (k + 1) = stK l p1 p2 k + st (qtr (nextP l k).1 (nextP l k).2 p1 p2 - qtr (l.getD k (0, 0)).1 (l.getD k (0, 0)).2 p1 p2) (wayP (l.getD k (0, 0)).1 (l.getD k (0, 0)).2 (nextP l k).1 (nextP l k).2 p1 p2)) := rfl
      have bS : -20000 ≤ stK l p1 p2 k ∧ stK l p1 p2 k ≤ 20000 := by have := stK_bound l p1 p2 k; omega
      have HG : Hid (IsGr w W2) := HW.out.2
      clear hc hP e0 HW hn9
      generalize (l.getD k (0, 0)).1 = x at *
      generalize (l.getD k (0, 0)).2 = y at *
      generalize (nextP l k).1 = u at *
      generalize (nextP l k).2 = v at *
      have CA := fun w => quarter_any x y p1 p2 w
      have CB := fun w => quarter_any u v p1 p2 w
      have CW := fun w => Way_any x y u v p1 p2 w
      have rA := qtr_range x y p1 p2
      have rB := qtr_range u v p1 p2
      have rT := wayP_range x y u v p1 p2
      generalize wayP x y u v p1 p2 = T at *
      generalize qtr x y p1 p2 = qa at *
      generalize qtr u v p1 p2 = qb at *
      generalize stK l p1 p2 k = S0 at *
      obtain ⟨d, HD⟩ : ∃ d, d = qb - qa := ⟨_, rfl⟩
      have vd : IntKind.i64.wrap (qb - qa) = d := by rw [IntKind.wrap_i64]; omega
      have hd : d = -3 ∨ d = -2 ∨ d = -1 ∨ d = 0 ∨ d = 1 ∨ d = 2 ∨ d = 3 := by omega
      rw [← HD] at HS
      clear HD rA rB
      generalize hj9 : (k + 1) % n = j at *
      clear hj9
      go_upto_region 7 with fail
      obtain ⟨C, hin, hcl, hcells, hgr⟩ : ∃ C : World → Prop, (∀ w', W2.heap.size + 2 ≤ w'.heap.size ∧ IsGr W2 w' ∧ (w'.cell? ⟨w.heap.size, 0, none⟩ = some (.int .i64 p1) ∧ w'.cell? ⟨w.heap.size, 1, none⟩ = some (.int .i64 p2)) ∧ (w'.cell? ⟨W2.heap.size, 0, none⟩ = some (.int .i64 x) ∧ w'.cell? ⟨W2.heap.size, 1, none⟩ = some (.int .i64 y)) ∧ (w'.cell? ⟨W2.heap.size + 1, 0, none⟩ = some (.int .i64 u) ∧ w'.cell? ⟨W2.heap.size + 1, 1, none⟩ = some (.int .i64 v)) → C w') ∧ (∀ u u', C u → IsGr u u' → C u') ∧ (∀ w', C w' → (w'.cell? ⟨w.heap.size, 0, none⟩ = some (.int .i64 p1) ∧ w'.cell? ⟨w.heap.size, 1, none⟩ = some (.int .i64 p2)) ∧ (w'.cell? ⟨W2.heap.size, 0, none⟩ = some (.int .i64 x) ∧ w'.cell? ⟨W2.heap.size, 1, none⟩ = some (.int .i64 y)) ∧ (w'.cell? ⟨W2.heap.size + 1, 0, none⟩ = some (.int .i64 u) ∧ w'.cell? ⟨W2.heap.size + 1, 1, none⟩ = some (.int .i64 v))) ∧ (∀ w', C w' → IsGr W2 w' ∧ W2.heap.size + 2 ≤ w'.heap.size) := by
        refine ⟨fun w' => W2.heap.size + 2 ≤ w'.heap.size ∧ IsGr W2 w' ∧ (w'.cell? ⟨w.heap.size, 0, none⟩ = some (.int .i64 p1) ∧ w'.cell? ⟨w.heap.size, 1, none⟩ = some (.int .i64 p2)) ∧ (w'.cell? ⟨W2.heap.size, 0, none⟩ = some (.int .i64 x) ∧ w'.cell? ⟨W2.heap.size, 1, none⟩ = some (.int .i64 y)) ∧ (w'.cell? ⟨W2.heap.size + 1, 0, none⟩ = some (.int .i64 u) ∧ w'.cell? ⟨W2.heap.size + 1, 1, none⟩ = some (.int .i64 v)), fun w' h => h, ?_, fun w' h => h.2.2, fun w' h => ⟨h.2.1, h.1⟩⟩
        rintro u u' ⟨h0, h1, h2⟩ hg
        refine ⟨Nat.le_trans h0 hg.size, h1.trans hg, ?_⟩
        exact ⟨⟨hg.cell_at (by omega) h2.1.1, hg.cell_at (by omega) h2.1.2⟩, ⟨hg.cell_at (by omega) h2.2.1.1, hg.cell_at (by omega) h2.2.1.2⟩, ⟨hg.cell_at (by omega) h2.2.2.1, hg.cell_at (by omega) h2.2.2.2⟩⟩
      refine wp_region_quietV C (by kernel_rfl) (by kernel_rfl) (hin _ ⟨by first | omega | (simp; done) | (simp; omega) | (simp [Gr.size]; done) | (simp [Gr.size]; omega), (by with_reducible repeat (first | exact IsGr.refl _ | refine IsGr.gr ?_ _ _ | refine IsGr.alloc ?_ _ | refine IsGr.drew ?_ | refine IsGr.drewN ?_ _)), by simp [go_sem, q1', q2', ka]⟩) (fun K HK => ?_)
      refine QK.take HK ?_ (by rfl) ?_ ?_
      rotate_left
      · (intro w hw; (try have hcs := hcells w hw); (try go_split_ands); go_simp <;> with_reducible rfl)
      (try simp only [Act.put, List.setIfInBounds_toArray, List.set_cons_zero, List.set_cons_succ])
      refine QK.take HK ?_ (by rfl) ?_ ?_
      rotate_left
      · (intro w hw; (try have hcs := hcells w hw); (try go_split_ands); go_simp <;> with_reducible rfl)
      (try simp only [Act.put, List.setIfInBounds_toArray, List.set_cons_zero, List.set_cons_succ])
      refine QK.call HK 52 #[.agg #[.int .i64 u, .int .i64 v], .agg #[.int .i64 p1, .int .i64 p2]] (.int .i64 qb) hcl (by rfl) (fun w => by go_simp) CB ?_
      (try simp only [Act.put, List.setIfInBounds_toArray, List.set_cons_zero, List.set_cons_succ])
      refine QK.take HK ?_ (by rfl) ?_ ?_
      rotate_left
      · (intro w hw; (try have hcs := hcells w hw); (try go_split_ands); go_simp <;> with_reducible rfl)
      (try simp only [Act.put, List.setIfInBounds_toArray, List.set_cons_zero, List.set_cons_succ])
      refine QK.take HK ?_ (by rfl) ?_ ?_
      rotate_left
      · (intro w hw; (try have hcs := hcells w hw); (try go_split_ands); go_simp <;> with_reducible rfl)
      (try simp only [Act.put, List.setIfInBounds_toArray, List.set_cons_zero, List.set_cons_succ])
      refine QK.call HK 52 #[.agg #[.int .i64 x, .int .i64 y], .agg #[.int .i64 p1, .int .i64 p2]] (.int .i64 qa) hcl (by rfl) (fun w => by go_simp) CA ?_
      (try simp only [Act.put, List.setIfInBounds_toArray, List.set_cons_zero, List.set_cons_succ])
      refine QK.take HK ?_ (by rfl) ?_ ?_
      rotate_left
      · (intro w hw; (try have hcs := hcells w hw); (try go_split_ands); go_simp <;> with_reducible rfl)
      (try simp only [Act.put, List.setIfInBounds_toArray, List.set_cons_zero, List.set_cons_succ])
      refine QK.take HK ?_ (by rfl) ?_ ?_
      rotate_left
      · (intro w hw; (try have hcs := hcells w hw); (try go_split_ands); go_simp <;> with_reducible rfl)
      (try simp only [Act.put, List.setIfInBounds_toArray, List.set_cons_zero, List.set_cons_succ])
      refine QK.nil HK ?_
      clear HK K
      intro wq hq
      obtain ⟨hg, hs⟩ := hgr wq hq
      have hcs := hcells wq hq
      clear hcells hin hcl hgr hq
      obtain ⟨⟨d1, d2⟩, ⟨d3, d4⟩, ⟨d5, d6⟩⟩ := hcs
      have kb : w.heap.size < wq.heap.size := by omega
      have kc : W2.heap.size < wq.heap.size := by omega
      have kd : W2.heap.size + 1 < wq.heap.size := by omega
      replace HG : Hid (IsGr w wq) := HG.out.trans hg
      clear hg hs ka hgs q1' q2'
      rcases hd with rfl | rfl | rfl | rfl | rfl | rfl | rfl
      · have v4 : IntKind.i64.wrap (S0 + 1) = S0 + 1 := by rw [IntKind.wrap_i64]; omega
        have HE : Hid (stK l p1 p2 (k + 1) = S0 + 1) := by unfold Hid; rw [HS.out]; unfold st; simp
        clear HS rT bS
        go_wp2
        go_roundw
        case rel =>
          refine ⟨k + 1, by omega, by go_num, ?_, ?_, ⟨?_, HG.out.trans (by with_reducible repeat (first | exact IsGr.refl _ | refine IsGr.gr ?_ _ _ | refine IsGr.alloc ?_ _ | refine IsGr.drew ?_ | refine IsGr.drewN ?_ _))⟩⟩
          · rw [HE.out]; try rfl
          · first | simp [go_sem, d1, d2] | simp [go_sem, d1, d2, kb]
          · first | omega | (simp [Gr.size]; omega)
        case measure => simp [intOf]; omega
      · have v3 : IntKind.i64.wrap (2 * T) = 2 * T := by rw [IntKind.wrap_i64]; omega
        have v4 : IntKind.i64.wrap (S0 + 2 * T) = S0 + 2 * T := by rw [IntKind.wrap_i64]; omega
        have HE : Hid (stK l p1 p2 (k + 1) = S0 + 2 * T) := by unfold Hid; rw [HS.out]; unfold st; simp
        clear HS rT bS
        go_wp2_with fail
        refine (CW _).mono ?_
        rintro e w1 ⟨rfl, os5, m5, rfl⟩
        go_wp2
        go_roundw
        case rel =>
          refine ⟨k + 1, by omega, by go_num, ?_, ?_, ⟨?_, HG.out.trans (by with_reducible repeat (first | exact IsGr.refl _ | refine IsGr.gr ?_ _ _ | refine IsGr.alloc ?_ _ | refine IsGr.drew ?_ | refine IsGr.drewN ?_ _))⟩⟩
          · rw [HE.out]; try rfl
          · first | simp [go_sem, d1, d2] | simp [go_sem, d1, d2, kb]
          · first | omega | (simp [Gr.size]; omega)
        case measure => simp [intOf]; omega
      · have v4 : IntKind.i64.wrap (S0 + (-1)) = S0 + (-1) := by rw [IntKind.wrap_i64]; omega
        have HE : Hid (stK l p1 p2 (k + 1) = S0 + (-1)) := by unfold Hid; rw [HS.out]; unfold st; simp
        clear HS rT bS
        go_wp2
        go_roundw
        case rel =>
          refine ⟨k + 1, by omega, by go_num, ?_, ?_, ⟨?_, HG.out.trans (by with_reducible repeat (first | exact IsGr.refl _ | refine IsGr.gr ?_ _ _ | refine IsGr.alloc ?_ _ | refine IsGr.drew ?_ | refine IsGr.drewN ?_ _))⟩⟩
          · rw [HE.out]; try rfl
          · first | simp [go_sem, d1, d2] | simp [go_sem, d1, d2, kb]
          · first | omega | (simp [Gr.size]; omega)
        case measure => simp [intOf]; omega
      · have v4 : IntKind.i64.wrap S0 = S0 := by rw [IntKind.wrap_i64]; omega
        have HE : Hid (stK l p1 p2 (k + 1) = S0) := by unfold Hid; rw [HS.out]; unfold st; simp
        clear HS rT bS
        go_wp2
        go_roundw
        case rel =>
          refine ⟨k + 1, by omega, by go_num, ?_, ?_, ⟨?_, HG.out.trans (by with_reducible repeat (first | exact IsGr.refl _ | refine IsGr.gr ?_ _ _ | refine IsGr.alloc ?_ _ | refine IsGr.drew ?_ | refine IsGr.drewN ?_ _))⟩⟩
          · rw [HE.out]; try rfl
          · first | simp [go_sem, d1, d2] | simp [go_sem, d1, d2, kb]
          · first | omega | (simp [Gr.size]; omega)
        case measure => simp [intOf]; omega
      · have v4 : IntKind.i64.wrap (S0 + 1) = S0 + 1 := by rw [IntKind.wrap_i64]; omega
        have HE : Hid (stK l p1 p2 (k + 1) = S0 + 1) := by unfold Hid; rw [HS.out]; unfold st; simp
        clear HS rT bS
        go_wp2
        go_roundw
        case rel =>
          refine ⟨k + 1, by omega, by go_num, ?_, ?_, ⟨?_, HG.out.trans (by with_reducible repeat (first | exact IsGr.refl _ | refine IsGr.gr ?_ _ _ | refine IsGr.alloc ?_ _ | refine IsGr.drew ?_ | refine IsGr.drewN ?_ _))⟩⟩
          · rw [HE.out]; try rfl
          · first | simp [go_sem, d1, d2] | simp [go_sem, d1, d2, kb]
          · first | omega | (simp [Gr.size]; omega)
        case measure => simp [intOf]; omega
      · have v3 : IntKind.i64.wrap (2 * T) = 2 * T := by rw [IntKind.wrap_i64]; omega
        have v4 : IntKind.i64.wrap (S0 + 2 * T) = S0 + 2 * T := by rw [IntKind.wrap_i64]; omega
        have HE : Hid (stK l p1 p2 (k + 1) = S0 + 2 * T) := by unfold Hid; rw [HS.out]; unfold st; simp
        clear HS rT bS
        go_wp2_with fail
        refine (CW _).mono ?_
        rintro e w1 ⟨rfl, os5, m5, rfl⟩
        go_wp2
        go_roundw
        case rel =>
          refine ⟨k + 1, by omega, by go_num, ?_, ?_, ⟨?_, HG.out.trans (by with_reducible repeat (first | exact IsGr.refl _ | refine IsGr.gr ?_ _ _ | refine IsGr.alloc ?_ _ | refine IsGr.drew ?_ | refine IsGr.drewN ?_ _))⟩⟩
          · rw [HE.out]; try rfl
          · first | simp [go_sem, d1, d2] | simp [go_sem, d1, d2, kb]
          · first | omega | (simp [Gr.size]; omega)
        case measure => simp [intOf]; omega
      · have v4 : IntKind.i64.wrap (S0 + (-1)) = S0 + (-1) := by rw [IntKind.wrap_i64]; omega
        have HE : Hid (stK l p1 p2 (k + 1) = S0 + (-1)) := by unfold Hid; rw [HS.out]; unfold st; simp
        clear HS rT bS
        go_wp2
        go_roundw
        case rel =>
          refine ⟨k + 1, by omega, by go_num, ?_, ?_, ⟨?_, HG.out.trans (by with_reducible repeat (first | exact IsGr.refl _ | refine IsGr.gr ?_ _ _ | refine IsGr.alloc ?_ _ | refine IsGr.drew ?_ | refine IsGr.drewN ?_ _))⟩⟩
          · rw [HE.out]; try rfl
          · first | simp [go_sem, d1, d2] | simp [go_sem, d1, d2, kb]
          · first | omega | (simp [Gr.size]; omega)
        case measure => simp [intOf]; omega
    · obtain rfl : k = n := by omega
      have HG : Hid (IsGr w W2) := HW.out.2
      have hb := stK_bound l p1 p2 k
      have hn9 := Hn.out
      have v5 : IntKind.i64.wrap ((stK l p1 p2 k).tdiv 4) = (stK l p1 p2 k).tdiv 4 := by
        have h4 : -20000 ≤ (stK l p1 p2 k).tdiv 4 ∧ (stK l p1 p2 k).tdiv 4 ≤ 20000 := by
          have h1 : Int.sign 4 = 1 := rfl
          rw [Int.tdiv_eq_ediv, h1]; split <;> omega
        rw [IntKind.wrap_i64]; omega
      clear HW hb hn9
      go_wp2
      go_ret
      exact ⟨rfl, HG.out⟩
end Go.Proofs.Ytohhlhoijanjfaa
