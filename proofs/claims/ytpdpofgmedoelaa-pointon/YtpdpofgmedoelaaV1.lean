/- gromalaw03.PointTurns: for every three points the law answers true. -/
import Derived.Test.YtpdpofgmedoelaaU10
import Derived.Test.YtpdpofgmedoelaaH2
namespace Go.Proofs.Ytpdpofgmedoelaa
open Go.RowKit Go.Shelf
attribute [local go_sem] Gr.size Gr.cell? Gr.frozen? Gr.setCell Gr.drew Gr.drewN Gr.of_drew Gr.of_drewN Gr.gr Gr.lt_of1 Gr.le_of1 Gr.lt_of2 Gr.le_of2 Gr.lt_of3 Gr.le_of3 Gr.lt_of4 Gr.le_of4 Gr.lt_of5 Gr.le_of5 Gr.lt_of6 Gr.le_of6 Gr.lt_of7 Gr.le_of7 Gr.lt_of8 Gr.le_of8 Gr.lt_of9 Gr.le_of9 Gr.lt_of10 Gr.le_of10 Gr.lt_of11 Gr.le_of11 Gr.lt_of12 Gr.le_of12 Gr.lt_of13 Gr.le_of13 Gr.lt_of14 Gr.le_of14 Gr.lt_of15 Gr.le_of15 Gr.lt_of16 Gr.le_of16 Gr.lt_of17 Gr.le_of17 Gr.lt_of18 Gr.le_of18 Gr.lt_of19 Gr.le_of19 Gr.lt_of20 Gr.le_of20 Gr.lt_of21 Gr.le_of21 Gr.lt_of22 Gr.le_of22 Gr.lt_of23 Gr.le_of23 Gr.lt_of24 Gr.le_of24

theorem cmpI_neg {x y : Int} (h : x = -y) : cmpI x 0 = -cmpI y 0 := by
  subst h; unfold cmpI; repeat' split
  all_goals omega
theorem wayP_swap (a1 a2 b1 b2 c1 c2 : Int) : wayP b1 b2 a1 a2 c1 c2 = -wayP a1 a2 b1 b2 c1 c2 := by
  unfold wayP
  have e : right3 b1 b2 a1 a2 c1 c2 = right3 a1 a2 b1 b2 c1 c2 := by unfold right3; rw [Bool.and_comm (rightP b1 b2)]
  rw [e]
  split
  · refine cmpI_neg ?_
    unfold turnI
    simp only [Int.mul_sub, Int.mul_comm]
    omega
  · rfl
theorem wayP_turn (a1 a2 b1 b2 c1 c2 : Int) : wayP b1 b2 c1 c2 a1 a2 = wayP a1 a2 b1 b2 c1 c2 := by
  unfold wayP
  have e : right3 b1 b2 c1 c2 a1 a2 = right3 a1 a2 b1 b2 c1 c2 := by unfold right3; rw [Bool.and_comm, Bool.and_assoc]
  rw [e]
  split
  · congr 1
    unfold turnI
    simp only [Int.mul_sub, Int.mul_comm]
    omega
  · rfl


set_option maxRecDepth 20000 in set_option maxHeartbeats 8000000 in
theorem law_turns (a1 a2 b1 b2 c1 c2 : Int) (w : World) :
    Calls Try.prog 7 #[.agg #[.int .i64 a1, .int .i64 a2], .agg #[.int .i64 b1, .int .i64 b2], .agg #[.int .i64 c1, .int .i64 c2]] w fun e w' => e = .returned (.bool true) ∧ IsGr w w' := by
  have T1 := fun w => Turn_any a1 a2 b1 b2 c1 c2 w
  have T2 := fun w => Turn_any b1 b2 a1 a2 c1 c2 w
  have T3 := fun w => Turn_any b1 b2 c1 c2 a1 a2 w
  have CW := fun w => Way_any a1 a2 b1 b2 c1 c2 w
  have Ra := fun w => pref_any a1 a2 w
  have Rb := fun w => pref_any b1 b2 w
  have Rc := fun w => pref_any c1 c2 w
  have CA := fun w => awake3_any w
  rw [wayP_swap] at T2
  rw [wayP_turn] at T3
  have hr := wayP_range a1 a2 b1 b2 c1 c2
  generalize wayP a1 a2 b1 b2 c1 c2 = T at *
  have v1 : IntKind.i64.wrap (-T) = -T := by rw [IntKind.wrap_i64]; rcases hr with rfl | rfl | rfl <;> rfl
  clear hr
  go_enter Try.func7, Try.ntmps7
  go_wp2_with fail
  refine (T1 _).mono ?_
  rintro e w1 ⟨rfl, os1, m1, rfl⟩
  go_upto_region 2 with fail
  obtain ⟨C, hin, hcl, hcells, hgr⟩ : ∃ C : World → Prop, (∀ w', w.heap.size + 3 ≤ w'.heap.size ∧ IsGr w w' ∧ (w'.cell? ⟨w.heap.size, 0, none⟩ = some (.int .i64 a1) ∧ w'.cell? ⟨w.heap.size, 1, none⟩ = some (.int .i64 a2)) ∧ (w'.cell? ⟨w.heap.size + 1, 0, none⟩ = some (.int .i64 b1) ∧ w'.cell? ⟨w.heap.size + 1, 1, none⟩ = some (.int .i64 b2)) ∧ (w'.cell? ⟨w.heap.size + 1 + 1, 0, none⟩ = some (.int .i64 c1) ∧ w'.cell? ⟨w.heap.size + 1 + 1, 1, none⟩ = some (.int .i64 c2)) → C w') ∧ (∀ u u', C u → IsGr u u' → C u') ∧ (∀ w', C w' → (w'.cell? ⟨w.heap.size, 0, none⟩ = some (.int .i64 a1) ∧ w'.cell? ⟨w.heap.size, 1, none⟩ = some (.int .i64 a2)) ∧ (w'.cell? ⟨w.heap.size + 1, 0, none⟩ = some (.int .i64 b1) ∧ w'.cell? ⟨w.heap.size + 1, 1, none⟩ = some (.int .i64 b2)) ∧ (w'.cell? ⟨w.heap.size + 1 + 1, 0, none⟩ = some (.int .i64 c1) ∧ w'.cell? ⟨w.heap.size + 1 + 1, 1, none⟩ = some (.int .i64 c2))) ∧ (∀ w', C w' → IsGr w w') := by
    refine ⟨fun w' => w.heap.size + 3 ≤ w'.heap.size ∧ IsGr w w' ∧ (w'.cell? ⟨w.heap.size, 0, none⟩ = some (.int .i64 a1) ∧ w'.cell? ⟨w.heap.size, 1, none⟩ = some (.int .i64 a2)) ∧ (w'.cell? ⟨w.heap.size + 1, 0, none⟩ = some (.int .i64 b1) ∧ w'.cell? ⟨w.heap.size + 1, 1, none⟩ = some (.int .i64 b2)) ∧ (w'.cell? ⟨w.heap.size + 1 + 1, 0, none⟩ = some (.int .i64 c1) ∧ w'.cell? ⟨w.heap.size + 1 + 1, 1, none⟩ = some (.int .i64 c2)), fun w' h => h, ?_, fun w' h => h.2.2, fun w' h => h.2.1⟩
    rintro u u' ⟨h0, h1, h2⟩ hg
    refine ⟨Nat.le_trans h0 hg.size, h1.trans hg, ?_⟩
    exact ⟨⟨hg.cell_at (by omega) h2.1.1, hg.cell_at (by omega) h2.1.2⟩, ⟨hg.cell_at (by omega) h2.2.1.1, hg.cell_at (by omega) h2.2.1.2⟩, ⟨hg.cell_at (by omega) h2.2.2.1, hg.cell_at (by omega) h2.2.2.2⟩⟩
  refine wp_region_quietC C (by kernel_rfl) (by kernel_rfl) (hin _ ⟨by first | omega | (simp; done) | (simp; omega) | (simp [Gr.size]; done) | (simp [Gr.size]; omega), (by with_reducible repeat (first | exact IsGr.refl _ | refine IsGr.gr ?_ _ _ | refine IsGr.alloc ?_ _ | refine IsGr.drew ?_ | refine IsGr.drewN ?_ _)), by simp [go_sem]⟩) ?_
  refine quiet_take ?_ (by rfl) ?_ ?_
  rotate_left
  · (intro w hw; (try have hcs := hcells w hw); (try go_split_ands); go_simp <;> with_reducible rfl)
  (try simp only [Act.put, List.setIfInBounds_toArray, List.set_cons_zero, List.set_cons_succ])
  refine quiet_take ?_ (by rfl) ?_ ?_
  rotate_left
  · (intro w hw; (try have hcs := hcells w hw); (try go_split_ands); go_simp <;> with_reducible rfl)
  (try simp only [Act.put, List.setIfInBounds_toArray, List.set_cons_zero, List.set_cons_succ])
  refine quiet_call 43 #[.agg #[.int .i64 a1, .int .i64 a2]] (.agg #[.int .i64 a1, .int .i64 a2]) hcl (by rfl) (fun w => by go_simp) Ra ?_
  (try simp only [Act.put, List.setIfInBounds_toArray, List.set_cons_zero, List.set_cons_succ])
  refine quiet_take ?_ (by rfl) ?_ ?_
  rotate_left
  · (intro w hw; (try have hcs := hcells w hw); (try go_split_ands); go_simp <;> with_reducible rfl)
  (try simp only [Act.put, List.setIfInBounds_toArray, List.set_cons_zero, List.set_cons_succ])
  refine quiet_call 43 #[.agg #[.int .i64 b1, .int .i64 b2]] (.agg #[.int .i64 b1, .int .i64 b2]) hcl (by rfl) (fun w => by go_simp) Rb ?_
  (try simp only [Act.put, List.setIfInBounds_toArray, List.set_cons_zero, List.set_cons_succ])
  refine quiet_take ?_ (by rfl) ?_ ?_
  rotate_left
  · (intro w hw; (try have hcs := hcells w hw); (try go_split_ands); go_simp <;> with_reducible rfl)
  (try simp only [Act.put, List.setIfInBounds_toArray, List.set_cons_zero, List.set_cons_succ])
  refine quiet_call 43 #[.agg #[.int .i64 c1, .int .i64 c2]] (.agg #[.int .i64 c1, .int .i64 c2]) hcl (by rfl) (fun w => by go_simp) Rc ?_
  (try simp only [Act.put, List.setIfInBounds_toArray, List.set_cons_zero, List.set_cons_succ])
  refine quiet_call 42 #[.agg #[.int .i64 a1, .int .i64 a2], .agg #[.int .i64 b1, .int .i64 b2], .agg #[.int .i64 c1, .int .i64 c2]] (.int .i64 T) hcl (by rfl) (fun w => by go_simp) CW ?_
  (try simp only [Act.put, List.setIfInBounds_toArray, List.set_cons_zero, List.set_cons_succ])
  refine quiet_take ?_ (by rfl) ?_ ?_
  rotate_left
  · (intro w hw; (try have hcs := hcells w hw); (try go_split_ands); go_simp <;> with_reducible rfl)
  (try simp only [Act.put, List.setIfInBounds_toArray, List.set_cons_zero, List.set_cons_succ])
  refine quiet_take ?_ (by rfl) ?_ ?_
  rotate_left
  · (intro w hw; (try have hcs := hcells w hw); (try go_split_ands); go_simp <;> with_reducible rfl)
  (try simp only [Act.put, List.setIfInBounds_toArray, List.set_cons_zero, List.set_cons_succ])
  refine quiet_take ?_ (by rfl) ?_ ?_
  rotate_left
  · (intro w hw; (try have hcs := hcells w hw); (try go_split_ands); go_simp <;> with_reducible rfl)
  (try simp only [Act.put, List.setIfInBounds_toArray, List.set_cons_zero, List.set_cons_succ])
  refine quiet_take ?_ (by rfl) ?_ ?_
  rotate_left
  · (intro w hw; (try have hcs := hcells w hw); (try go_split_ands); go_simp <;> with_reducible rfl)
  (try simp only [Act.put, List.setIfInBounds_toArray, List.set_cons_zero, List.set_cons_succ])
  refine quiet_take ?_ (by rfl) ?_ ?_
  rotate_left
  · (intro w hw; (try have hcs := hcells w hw); (try go_split_ands); go_simp <;> with_reducible rfl)
  (try simp only [Act.put, List.setIfInBounds_toArray, List.set_cons_zero, List.set_cons_succ])
  refine quiet_call 41 #[.agg #[.int .i64 b1, .int .i64 b2], .agg #[.int .i64 a1, .int .i64 a2], .agg #[.int .i64 c1, .int .i64 c2]] (.int .i64 (-T)) hcl (by rfl) (fun w => by go_simp) T2 ?_
  (try simp only [Act.put, List.setIfInBounds_toArray, List.set_cons_zero, List.set_cons_succ])
  refine quiet_take ?_ (by rfl) ?_ ?_
  rotate_left
  · (intro w hw; (try have hcs := hcells w hw); (try go_split_ands); go_simp <;> with_reducible rfl)
  (try simp only [Act.put, List.setIfInBounds_toArray, List.set_cons_zero, List.set_cons_succ])
  refine quiet_take ?_ (by rfl) ?_ ?_
  rotate_left
  · (intro w hw; (try have hcs := hcells w hw); (try go_split_ands); go_simp <;> with_reducible rfl)
  (try simp only [Act.put, List.setIfInBounds_toArray, List.set_cons_zero, List.set_cons_succ])
  refine quiet_take ?_ (by rfl) ?_ ?_
  rotate_left
  · (intro w hw; (try have hcs := hcells w hw); (try go_split_ands); go_simp <;> with_reducible rfl)
  (try simp only [Act.put, List.setIfInBounds_toArray, List.set_cons_zero, List.set_cons_succ])
  refine quiet_take ?_ (by rfl) ?_ ?_
  rotate_left
  · (intro w hw; (try have hcs := hcells w hw); (try go_split_ands); go_simp <;> with_reducible rfl)
  (try simp only [Act.put, List.setIfInBounds_toArray, List.set_cons_zero, List.set_cons_succ])
  refine quiet_take ?_ (by rfl) ?_ ?_
  rotate_left
  · (intro w hw; (try have hcs := hcells w hw); (try go_split_ands); go_simp <;> with_reducible rfl)
  (try simp only [Act.put, List.setIfInBounds_toArray, List.set_cons_zero, List.set_cons_succ])
  refine quiet_take ?_ (by rfl) ?_ ?_
  rotate_left
  · (intro w hw; (try have hcs := hcells w hw); (try go_split_ands); go_simp <;> with_reducible rfl)
  (try simp only [Act.put, List.setIfInBounds_toArray, List.set_cons_zero, List.set_cons_succ])
  refine quiet_take ?_ (by rfl) ?_ ?_
  rotate_left
  · (intro w hw; (try have hcs := hcells w hw); (try go_split_ands); go_simp <;> with_reducible rfl)
  (try simp only [Act.put, List.setIfInBounds_toArray, List.set_cons_zero, List.set_cons_succ])
  refine quiet_take ?_ (by rfl) ?_ ?_
  rotate_left
  · (intro w hw; (try have hcs := hcells w hw); (try go_split_ands); go_simp <;> with_reducible rfl)
  (try simp only [Act.put, List.setIfInBounds_toArray, List.set_cons_zero, List.set_cons_succ])
  refine quiet_call 41 #[.agg #[.int .i64 b1, .int .i64 b2], .agg #[.int .i64 c1, .int .i64 c2], .agg #[.int .i64 a1, .int .i64 a2]] (.int .i64 T) hcl (by rfl) (fun w => by go_simp) T3 ?_
  (try simp only [Act.put, List.setIfInBounds_toArray, List.set_cons_zero, List.set_cons_succ])
  refine quiet_take ?_ (by rfl) ?_ ?_
  rotate_left
  · (intro w hw; (try have hcs := hcells w hw); (try go_split_ands); go_simp <;> with_reducible rfl)
  (try simp only [Act.put, List.setIfInBounds_toArray, List.set_cons_zero, List.set_cons_succ])
  refine quiet_take ?_ (by rfl) ?_ ?_
  rotate_left
  · (intro w hw; (try have hcs := hcells w hw); (try go_split_ands); go_simp <;> with_reducible rfl)
  (try simp only [Act.put, List.setIfInBounds_toArray, List.set_cons_zero, List.set_cons_succ])
  refine quiet_take ?_ (by rfl) ?_ ?_
  rotate_left
  · (intro w hw; (try have hcs := hcells w hw); (try go_split_ands); go_simp <;> with_reducible rfl)
  (try simp only [Act.put, List.setIfInBounds_toArray, List.set_cons_zero, List.set_cons_succ])
  refine quiet_take ?_ (by rfl) ?_ ?_
  rotate_left
  · (intro w hw; (try have hcs := hcells w hw); (try go_split_ands); go_simp <;> with_reducible rfl)
  (try simp only [Act.put, List.setIfInBounds_toArray, List.set_cons_zero, List.set_cons_succ])
  refine quiet_call 44 #[] (.bool true) hcl (by rfl) (fun w => by go_simp) CA ?_
  (try simp only [Act.put, List.setIfInBounds_toArray, List.set_cons_zero, List.set_cons_succ])
  refine quiet_take ?_ (by rfl) ?_ ?_
  rotate_left
  · (intro w hw; (try have hcs := hcells w hw); (try go_split_ands); go_simp <;> with_reducible rfl)
  (try simp only [Act.put, List.setIfInBounds_toArray, List.set_cons_zero, List.set_cons_succ])
  refine quiet_take ?_ (by rfl) ?_ ?_
  rotate_left
  · (intro w hw; (try have hcs := hcells w hw); (try go_split_ands); go_simp <;> with_reducible rfl)
  (try simp only [Act.put, List.setIfInBounds_toArray, List.set_cons_zero, List.set_cons_succ])
  refine wpQuiet_nil ?_
  intro wq hq
  have hg := hgr wq hq
  clear hcells hin hcl hgr hq
  go_wp2
  go_ret
  exact ⟨rfl, hg⟩
end Go.Proofs.Ytpdpofgmedoelaa
