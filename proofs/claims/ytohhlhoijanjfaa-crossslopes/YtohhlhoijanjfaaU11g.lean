/- Contracts over the loaded program: point.In, point.Facing; gromaref03.In, gromaref03.Facing. -/
import Derived.Test.YtohhlhoijanjfaaU10g
import Derived.Test.YtohhlhoijanjfaaV1g
namespace Go.Proofs.Ytohhlhoijanjfaa
open Go.RowKit Go.Shelf
attribute [local go_sem] Gr.size Gr.cell? Gr.frozen? Gr.setCell Gr.drew Gr.drewN Gr.of_drew Gr.of_drewN Gr.gr Gr.lt_of1 Gr.le_of1 Gr.lt_of2 Gr.le_of2 Gr.lt_of3 Gr.le_of3 Gr.lt_of4 Gr.le_of4 Gr.lt_of5 Gr.le_of5 Gr.lt_of6 Gr.le_of6 Gr.lt_of7 Gr.le_of7 Gr.lt_of8 Gr.le_of8 Gr.lt_of9 Gr.le_of9 Gr.lt_of10 Gr.le_of10 Gr.lt_of11 Gr.le_of11 Gr.lt_of12 Gr.le_of12 Gr.lt_of13 Gr.le_of13 Gr.lt_of14 Gr.le_of14 Gr.lt_of15 Gr.le_of15 Gr.lt_of16 Gr.le_of16 Gr.lt_of17 Gr.le_of17 Gr.lt_of18 Gr.le_of18 Gr.lt_of19 Gr.le_of19 Gr.lt_of20 Gr.le_of20 Gr.lt_of21 Gr.le_of21 Gr.lt_of22 Gr.le_of22 Gr.lt_of23 Gr.le_of23 Gr.lt_of24 Gr.le_of24

/-- Where p lies to the triangle of a, b, c. -/
def inP (a1 a2 b1 b2 c1 c2 p1 p2 : Int) : Int :=
  if wayP a1 a2 b1 b2 c1 c2 = 0 ∨ rightP p1 p2 = false then -1
  else min 1 (min (wayP a1 a2 b1 b2 p1 p2 * wayP a1 a2 b1 b2 c1 c2) (min (wayP b1 b2 c1 c2 p1 p2 * wayP a1 a2 b1 b2 c1 c2) (wayP c1 c2 a1 a2 p1 p2 * wayP a1 a2 b1 b2 c1 c2)))
/-- Do c and d lie to different sides of the line through a and b? -/
def partP (a1 a2 b1 b2 c1 c2 d1 d2 : Int) : Bool := decide (wayP a1 a2 b1 b2 c1 c2 * wayP a1 a2 b1 b2 d1 d2 < 0)
/-- Do two segments cross within both? -/
def facingP (a1 a2 b1 b2 c1 c2 d1 d2 : Int) : Bool := partP a1 a2 b1 b2 c1 c2 d1 d2 && partP c1 c2 d1 d2 a1 a2 b1 b2
theorem facingP_turn (a1 a2 b1 b2 c1 c2 d1 d2 : Int) : facingP c1 c2 d1 d2 b1 b2 a1 a2 = facingP a1 a2 b1 b2 c1 c2 d1 d2 := by
  unfold facingP partP
  rw [wayP_swap a1 a2 b1 b2 c1 c2, wayP_swap a1 a2 b1 b2 d1 d2, Int.neg_mul_neg, Int.mul_comm (wayP c1 c2 d1 d2 b1 b2), Bool.and_comm]

theorem wrap_prod {x y : Int} (hx : x = -1 ∨ x = 0 ∨ x = 1) (hy : y = -1 ∨ y = 0 ∨ y = 1) : IntKind.i64.wrap (x * y) = x * y ∧ (x * y = -1 ∨ x * y = 0 ∨ x * y = 1) := by
  rw [IntKind.wrap_i64]
  rcases hx with rfl | rfl | rfl <;> rcases hy with rfl | rfl | rfl <;> simp

set_option maxRecDepth 20000 in set_option maxHeartbeats 2000000 in
theorem refFacing_any (a1 a2 b1 b2 c1 c2 d1 d2 : Int) (w : World) :
    Calls Try.prog 64 #[.agg #[.int .i64 a1, .int .i64 a2], .agg #[.int .i64 b1, .int .i64 b2], .agg #[.int .i64 c1, .int .i64 c2], .agg #[.int .i64 d1, .int .i64 d2]] w fun e w' => e = .returned (.bool (facingP a1 a2 b1 b2 c1 c2 d1 d2)) ∧ IsGr w w' := by
  have C1 := fun w => Way_any a1 a2 b1 b2 c1 c2 w
  have C2 := fun w => Way_any a1 a2 b1 b2 d1 d2 w
  have C3 := fun w => Way_any c1 c2 d1 d2 a1 a2 w
  have C4 := fun w => Way_any c1 c2 d1 d2 b1 b2 w
  have r1 := wayP_range a1 a2 b1 b2 c1 c2
  have r2 := wayP_range a1 a2 b1 b2 d1 d2
  have r3 := wayP_range c1 c2 d1 d2 a1 a2
  have r4 := wayP_range c1 c2 d1 d2 b1 b2
  have HR : Hid ((decide (wayP a1 a2 b1 b2 c1 c2 * wayP a1 a2 b1 b2 d1 d2 < 0) && decide (wayP c1 c2 d1 d2 a1 a2 * wayP c1 c2 d1 d2 b1 b2 < 0)) = facingP a1 a2 b1 b2 c1 c2 d1 d2) := rfl
  generalize wayP a1 a2 b1 b2 c1 c2 = X at C1 r1 HR
  generalize wayP a1 a2 b1 b2 d1 d2 = Y at C2 r2 HR
  generalize wayP c1 c2 d1 d2 a1 a2 = Z at C3 r3 HR
  generalize wayP c1 c2 d1 d2 b1 b2 = V at C4 r4 HR
  obtain ⟨v1, u1⟩ := wrap_prod r1 r2
  obtain ⟨v2, u2⟩ := wrap_prod r3 r4
  clear r1 r2 r3 r4 u2
  rcases u1 with u1 | u1 | u1
  · rw [u1] at HR
    replace v1 := v1.trans u1
    clear u1
    go_enter Try.func64, Try.ntmps64
    go_upto_region 1 with fail
    obtain ⟨C, hin, hcl, hcells, hgr⟩ : ∃ C : World → Prop, (∀ w', w.heap.size + 4 ≤ w'.heap.size ∧ IsGr w w' ∧ (w'.cell? ⟨w.heap.size, 0, none⟩ = some (.int .i64 a1) ∧ w'.cell? ⟨w.heap.size, 1, none⟩ = some (.int .i64 a2)) ∧ (w'.cell? ⟨w.heap.size + 1, 0, none⟩ = some (.int .i64 b1) ∧ w'.cell? ⟨w.heap.size + 1, 1, none⟩ = some (.int .i64 b2)) ∧ (w'.cell? ⟨w.heap.size + 1 + 1, 0, none⟩ = some (.int .i64 c1) ∧ w'.cell? ⟨w.heap.size + 1 + 1, 1, none⟩ = some (.int .i64 c2)) ∧ (w'.cell? ⟨w.heap.size + 1 + 1 + 1, 0, none⟩ = some (.int .i64 d1) ∧ w'.cell? ⟨w.heap.size + 1 + 1 + 1, 1, none⟩ = some (.int .i64 d2)) → C w') ∧ (∀ u u', C u → IsGr u u' → C u') ∧ (∀ w', C w' → (w'.cell? ⟨w.heap.size, 0, none⟩ = some (.int .i64 a1) ∧ w'.cell? ⟨w.heap.size, 1, none⟩ = some (.int .i64 a2)) ∧ (w'.cell? ⟨w.heap.size + 1, 0, none⟩ = some (.int .i64 b1) ∧ w'.cell? ⟨w.heap.size + 1, 1, none⟩ = some (.int .i64 b2)) ∧ (w'.cell? ⟨w.heap.size + 1 + 1, 0, none⟩ = some (.int .i64 c1) ∧ w'.cell? ⟨w.heap.size + 1 + 1, 1, none⟩ = some (.int .i64 c2)) ∧ (w'.cell? ⟨w.heap.size + 1 + 1 + 1, 0, none⟩ = some (.int .i64 d1) ∧ w'.cell? ⟨w.heap.size + 1 + 1 + 1, 1, none⟩ = some (.int .i64 d2))) ∧ (∀ w', C w' → IsGr w w') := by
      refine ⟨fun w' => w.heap.size + 4 ≤ w'.heap.size ∧ IsGr w w' ∧ (w'.cell? ⟨w.heap.size, 0, none⟩ = some (.int .i64 a1) ∧ w'.cell? ⟨w.heap.size, 1, none⟩ = some (.int .i64 a2)) ∧ (w'.cell? ⟨w.heap.size + 1, 0, none⟩ = some (.int .i64 b1) ∧ w'.cell? ⟨w.heap.size + 1, 1, none⟩ = some (.int .i64 b2)) ∧ (w'.cell? ⟨w.heap.size + 1 + 1, 0, none⟩ = some (.int .i64 c1) ∧ w'.cell? ⟨w.heap.size + 1 + 1, 1, none⟩ = some (.int .i64 c2)) ∧ (w'.cell? ⟨w.heap.size + 1 + 1 + 1, 0, none⟩ = some (.int .i64 d1) ∧ w'.cell? ⟨w.heap.size + 1 + 1 + 1, 1, none⟩ = some (.int .i64 d2)), fun w' h => h, ?_, fun w' h => h.2.2, fun w' h => h.2.1⟩
      rintro u u' ⟨h0, h1, h2⟩ hg
      refine ⟨Nat.le_trans h0 hg.size, h1.trans hg, ?_⟩
      exact ⟨⟨hg.cell_at (by omega) h2.1.1, hg.cell_at (by omega) h2.1.2⟩, ⟨hg.cell_at (by omega) h2.2.1.1, hg.cell_at (by omega) h2.2.1.2⟩, ⟨hg.cell_at (by omega) h2.2.2.1.1, hg.cell_at (by omega) h2.2.2.1.2⟩, ⟨hg.cell_at (by omega) h2.2.2.2.1, hg.cell_at (by omega) h2.2.2.2.2⟩⟩
    refine wp_region_quietV C (by kernel_rfl) (by kernel_rfl) (hin _ ⟨by first | omega | (simp; done) | (simp; omega) | (simp [Gr.size]; done) | (simp [Gr.size]; omega), (by with_reducible repeat (first | exact IsGr.refl _ | refine IsGr.gr ?_ _ _ | refine IsGr.alloc ?_ _ | refine IsGr.drew ?_ | refine IsGr.drewN ?_ _)), by simp [go_sem]⟩) (fun K HK => ?_)
    refine QK.take HK ?_ (by rfl) ?_ ?_
    rotate_left
    · (intro w hw; (try have hcs := hcells w hw); (try go_split_ands); go_simp <;> with_reducible rfl)
    (try simp only [Act.put, List.setIfInBounds_toArray, List.set_cons_zero, List.set_cons_succ])
    refine QK.take HK ?_ (by rfl) ?_ ?_
    rotate_left
    · (intro w hw; (try have hcs := hcells w hw); (try go_split_ands); go_simp <;> with_reducible rfl)
    (try simp only [Act.put, List.setIfInBounds_toArray, List.set_cons_zero, List.set_cons_succ])
    refine QK.take HK ?_ (by rfl) ?_ ?_
    rotate_left
    · (intro w hw; (try have hcs := hcells w hw); (try go_split_ands); go_simp <;> with_reducible rfl)
    (try simp only [Act.put, List.setIfInBounds_toArray, List.set_cons_zero, List.set_cons_succ])
    refine QK.call HK 17 #[.agg #[.int .i64 a1, .int .i64 a2], .agg #[.int .i64 b1, .int .i64 b2], .agg #[.int .i64 c1, .int .i64 c2]] (.int .i64 X) hcl (by rfl) (fun w => by go_simp) C1 ?_
    (try simp only [Act.put, List.setIfInBounds_toArray, List.set_cons_zero, List.set_cons_succ])
    refine QK.take HK ?_ (by rfl) ?_ ?_
    rotate_left
    · (intro w hw; (try have hcs := hcells w hw); (try go_split_ands); go_simp <;> with_reducible rfl)
    (try simp only [Act.put, List.setIfInBounds_toArray, List.set_cons_zero, List.set_cons_succ])
    refine QK.take HK ?_ (by rfl) ?_ ?_
    rotate_left
    · (intro w hw; (try have hcs := hcells w hw); (try go_split_ands); go_simp <;> with_reducible rfl)
    (try simp only [Act.put, List.setIfInBounds_toArray, List.set_cons_zero, List.set_cons_succ])
    refine QK.take HK ?_ (by rfl) ?_ ?_
    rotate_left
    · (intro w hw; (try have hcs := hcells w hw); (try go_split_ands); go_simp <;> with_reducible rfl)
    (try simp only [Act.put, List.setIfInBounds_toArray, List.set_cons_zero, List.set_cons_succ])
    refine QK.call HK 17 #[.agg #[.int .i64 a1, .int .i64 a2], .agg #[.int .i64 b1, .int .i64 b2], .agg #[.int .i64 d1, .int .i64 d2]] (.int .i64 Y) hcl (by rfl) (fun w => by go_simp) C2 ?_
    (try simp only [Act.put, List.setIfInBounds_toArray, List.set_cons_zero, List.set_cons_succ])
    refine QK.take HK ?_ (by rfl) ?_ ?_
    rotate_left
    · (intro w hw; (try have hcs := hcells w hw); (try go_split_ands); go_simp <;> with_reducible rfl)
    (try simp only [Act.put, List.setIfInBounds_toArray, List.set_cons_zero, List.set_cons_succ])
    refine QK.take HK ?_ (by rfl) ?_ ?_
    rotate_left
    · (intro w hw; (try have hcs := hcells w hw); (try go_split_ands); go_simp <;> with_reducible rfl)
    (try simp only [Act.put, List.setIfInBounds_toArray, List.set_cons_zero, List.set_cons_succ])
    refine QK.take HK ?_ (by rfl) ?_ ?_
    rotate_left
    · (intro w hw; (try have hcs := hcells w hw); (try go_split_ands); go_simp <;> with_reducible rfl)
    (try simp only [Act.put, List.setIfInBounds_toArray, List.set_cons_zero, List.set_cons_succ])
    refine QK.take HK ?_ (by rfl) ?_ ?_
    rotate_left
    · (intro w hw; (try have hcs := hcells w hw); (try go_split_ands); go_simp <;> with_reducible rfl)
    (try simp only [Act.put, List.setIfInBounds_toArray, List.set_cons_zero, List.set_cons_succ])
    refine QK.take HK ?_ (by rfl) ?_ ?_
    rotate_left
    · (intro w hw; (try have hcs := hcells w hw); (try go_split_ands); go_simp <;> with_reducible rfl)
    (try simp only [Act.put, List.setIfInBounds_toArray, List.set_cons_zero, List.set_cons_succ])
    refine QK.take HK ?_ (by rfl) ?_ ?_
    rotate_left
    · (intro w hw; (try have hcs := hcells w hw); (try go_split_ands); go_simp <;> with_reducible rfl)
    (try simp only [Act.put, List.setIfInBounds_toArray, List.set_cons_zero, List.set_cons_succ])
    refine QK.call HK 17 #[.agg #[.int .i64 c1, .int .i64 c2], .agg #[.int .i64 d1, .int .i64 d2], .agg #[.int .i64 a1, .int .i64 a2]] (.int .i64 Z) hcl (by rfl) (fun w => by go_simp) C3 ?_
    (try simp only [Act.put, List.setIfInBounds_toArray, List.set_cons_zero, List.set_cons_succ])
    refine QK.take HK ?_ (by rfl) ?_ ?_
    rotate_left
    · (intro w hw; (try have hcs := hcells w hw); (try go_split_ands); go_simp <;> with_reducible rfl)
    (try simp only [Act.put, List.setIfInBounds_toArray, List.set_cons_zero, List.set_cons_succ])
    refine QK.take HK ?_ (by rfl) ?_ ?_
    rotate_left
    · (intro w hw; (try have hcs := hcells w hw); (try go_split_ands); go_simp <;> with_reducible rfl)
    (try simp only [Act.put, List.setIfInBounds_toArray, List.set_cons_zero, List.set_cons_succ])
    refine QK.take HK ?_ (by rfl) ?_ ?_
    rotate_left
    · (intro w hw; (try have hcs := hcells w hw); (try go_split_ands); go_simp <;> with_reducible rfl)
    (try simp only [Act.put, List.setIfInBounds_toArray, List.set_cons_zero, List.set_cons_succ])
    refine QK.call HK 17 #[.agg #[.int .i64 c1, .int .i64 c2], .agg #[.int .i64 d1, .int .i64 d2], .agg #[.int .i64 b1, .int .i64 b2]] (.int .i64 V) hcl (by rfl) (fun w => by go_simp) C4 ?_
    (try simp only [Act.put, List.setIfInBounds_toArray, List.set_cons_zero, List.set_cons_succ])
    refine QK.take HK ?_ (by rfl) ?_ ?_
    rotate_left
    · (intro w hw; (try have hcs := hcells w hw); (try go_split_ands); go_simp <;> with_reducible rfl)
    (try simp only [Act.put, List.setIfInBounds_toArray, List.set_cons_zero, List.set_cons_succ])
    refine QK.take HK ?_ (by rfl) ?_ ?_
    rotate_left
    · (intro w hw; (try have hcs := hcells w hw); (try go_split_ands); go_simp <;> with_reducible rfl)
    (try simp only [Act.put, List.setIfInBounds_toArray, List.set_cons_zero, List.set_cons_succ])
    refine QK.take HK ?_ (by rfl) ?_ ?_
    rotate_left
    · (intro w hw; (try have hcs := hcells w hw); (try go_split_ands); go_simp <;> with_reducible rfl)
    (try simp only [Act.put, List.setIfInBounds_toArray, List.set_cons_zero, List.set_cons_succ])
    refine QK.take HK ?_ (by rfl) ?_ ?_
    rotate_left
    · (intro w hw; (try have hcs := hcells w hw); (try go_split_ands); go_simp <;> with_reducible rfl)
    (try simp only [Act.put, List.setIfInBounds_toArray, List.set_cons_zero, List.set_cons_succ])
    refine QK.nil HK ?_
    clear HK K
    intro wq hq
    have hg := hgr wq hq
    clear hcells hin hcl hgr hq
    go_wp2
    go_ret
    exact ⟨ret_bool HR.out, hg⟩
  · rw [u1] at HR
    replace v1 := v1.trans u1
    clear u1
    go_enter Try.func64, Try.ntmps64
    go_upto_region 1 with fail
    obtain ⟨C, hin, hcl, hcells, hgr⟩ : ∃ C : World → Prop, (∀ w', w.heap.size + 4 ≤ w'.heap.size ∧ IsGr w w' ∧ (w'.cell? ⟨w.heap.size, 0, none⟩ = some (.int .i64 a1) ∧ w'.cell? ⟨w.heap.size, 1, none⟩ = some (.int .i64 a2)) ∧ (w'.cell? ⟨w.heap.size + 1, 0, none⟩ = some (.int .i64 b1) ∧ w'.cell? ⟨w.heap.size + 1, 1, none⟩ = some (.int .i64 b2)) ∧ (w'.cell? ⟨w.heap.size + 1 + 1, 0, none⟩ = some (.int .i64 c1) ∧ w'.cell? ⟨w.heap.size + 1 + 1, 1, none⟩ = some (.int .i64 c2)) ∧ (w'.cell? ⟨w.heap.size + 1 + 1 + 1, 0, none⟩ = some (.int .i64 d1) ∧ w'.cell? ⟨w.heap.size + 1 + 1 + 1, 1, none⟩ = some (.int .i64 d2)) → C w') ∧ (∀ u u', C u → IsGr u u' → C u') ∧ (∀ w', C w' → (w'.cell? ⟨w.heap.size, 0, none⟩ = some (.int .i64 a1) ∧ w'.cell? ⟨w.heap.size, 1, none⟩ = some (.int .i64 a2)) ∧ (w'.cell? ⟨w.heap.size + 1, 0, none⟩ = some (.int .i64 b1) ∧ w'.cell? ⟨w.heap.size + 1, 1, none⟩ = some (.int .i64 b2)) ∧ (w'.cell? ⟨w.heap.size + 1 + 1, 0, none⟩ = some (.int .i64 c1) ∧ w'.cell? ⟨w.heap.size + 1 + 1, 1, none⟩ = some (.int .i64 c2)) ∧ (w'.cell? ⟨w.heap.size + 1 + 1 + 1, 0, none⟩ = some (.int .i64 d1) ∧ w'.cell? ⟨w.heap.size + 1 + 1 + 1, 1, none⟩ = some (.int .i64 d2))) ∧ (∀ w', C w' → IsGr w w') := by
      refine ⟨fun w' => w.heap.size + 4 ≤ w'.heap.size ∧ IsGr w w' ∧ (w'.cell? ⟨w.heap.size, 0, none⟩ = some (.int .i64 a1) ∧ w'.cell? ⟨w.heap.size, 1, none⟩ = some (.int .i64 a2)) ∧ (w'.cell? ⟨w.heap.size + 1, 0, none⟩ = some (.int .i64 b1) ∧ w'.cell? ⟨w.heap.size + 1, 1, none⟩ = some (.int .i64 b2)) ∧ (w'.cell? ⟨w.heap.size + 1 + 1, 0, none⟩ = some (.int .i64 c1) ∧ w'.cell? ⟨w.heap.size + 1 + 1, 1, none⟩ = some (.int .i64 c2)) ∧ (w'.cell? ⟨w.heap.size + 1 + 1 + 1, 0, none⟩ = some (.int .i64 d1) ∧ w'.cell? ⟨w.heap.size + 1 + 1 + 1, 1, none⟩ = some (.int .i64 d2)), fun w' h => h, ?_, fun w' h => h.2.2, fun w' h => h.2.1⟩
      rintro u u' ⟨h0, h1, h2⟩ hg
      refine ⟨Nat.le_trans h0 hg.size, h1.trans hg, ?_⟩
      exact ⟨⟨hg.cell_at (by omega) h2.1.1, hg.cell_at (by omega) h2.1.2⟩, ⟨hg.cell_at (by omega) h2.2.1.1, hg.cell_at (by omega) h2.2.1.2⟩, ⟨hg.cell_at (by omega) h2.2.2.1.1, hg.cell_at (by omega) h2.2.2.1.2⟩, ⟨hg.cell_at (by omega) h2.2.2.2.1, hg.cell_at (by omega) h2.2.2.2.2⟩⟩
    refine wp_region_quietV C (by kernel_rfl) (by kernel_rfl) (hin _ ⟨by first | omega | (simp; done) | (simp; omega) | (simp [Gr.size]; done) | (simp [Gr.size]; omega), (by with_reducible repeat (first | exact IsGr.refl _ | refine IsGr.gr ?_ _ _ | refine IsGr.alloc ?_ _ | refine IsGr.drew ?_ | refine IsGr.drewN ?_ _)), by simp [go_sem]⟩) (fun K HK => ?_)
    refine QK.take HK ?_ (by rfl) ?_ ?_
    rotate_left
    · (intro w hw; (try have hcs := hcells w hw); (try go_split_ands); go_simp <;> with_reducible rfl)
    (try simp only [Act.put, List.setIfInBounds_toArray, List.set_cons_zero, List.set_cons_succ])
    refine QK.take HK ?_ (by rfl) ?_ ?_
    rotate_left
    · (intro w hw; (try have hcs := hcells w hw); (try go_split_ands); go_simp <;> with_reducible rfl)
    (try simp only [Act.put, List.setIfInBounds_toArray, List.set_cons_zero, List.set_cons_succ])
    refine QK.take HK ?_ (by rfl) ?_ ?_
    rotate_left
    · (intro w hw; (try have hcs := hcells w hw); (try go_split_ands); go_simp <;> with_reducible rfl)
    (try simp only [Act.put, List.setIfInBounds_toArray, List.set_cons_zero, List.set_cons_succ])
    refine QK.call HK 17 #[.agg #[.int .i64 a1, .int .i64 a2], .agg #[.int .i64 b1, .int .i64 b2], .agg #[.int .i64 c1, .int .i64 c2]] (.int .i64 X) hcl (by rfl) (fun w => by go_simp) C1 ?_
    (try simp only [Act.put, List.setIfInBounds_toArray, List.set_cons_zero, List.set_cons_succ])
    refine QK.take HK ?_ (by rfl) ?_ ?_
    rotate_left
    · (intro w hw; (try have hcs := hcells w hw); (try go_split_ands); go_simp <;> with_reducible rfl)
    (try simp only [Act.put, List.setIfInBounds_toArray, List.set_cons_zero, List.set_cons_succ])
    refine QK.take HK ?_ (by rfl) ?_ ?_
    rotate_left
    · (intro w hw; (try have hcs := hcells w hw); (try go_split_ands); go_simp <;> with_reducible rfl)
    (try simp only [Act.put, List.setIfInBounds_toArray, List.set_cons_zero, List.set_cons_succ])
    refine QK.take HK ?_ (by rfl) ?_ ?_
    rotate_left
    · (intro w hw; (try have hcs := hcells w hw); (try go_split_ands); go_simp <;> with_reducible rfl)
    (try simp only [Act.put, List.setIfInBounds_toArray, List.set_cons_zero, List.set_cons_succ])
    refine QK.call HK 17 #[.agg #[.int .i64 a1, .int .i64 a2], .agg #[.int .i64 b1, .int .i64 b2], .agg #[.int .i64 d1, .int .i64 d2]] (.int .i64 Y) hcl (by rfl) (fun w => by go_simp) C2 ?_
    (try simp only [Act.put, List.setIfInBounds_toArray, List.set_cons_zero, List.set_cons_succ])
    refine QK.take HK ?_ (by rfl) ?_ ?_
    rotate_left
    · (intro w hw; (try have hcs := hcells w hw); (try go_split_ands); go_simp <;> with_reducible rfl)
    (try simp only [Act.put, List.setIfInBounds_toArray, List.set_cons_zero, List.set_cons_succ])
    refine QK.take HK ?_ (by rfl) ?_ ?_
    rotate_left
    · (intro w hw; (try have hcs := hcells w hw); (try go_split_ands); go_simp <;> with_reducible rfl)
    (try simp only [Act.put, List.setIfInBounds_toArray, List.set_cons_zero, List.set_cons_succ])
    refine QK.take HK ?_ (by rfl) ?_ ?_
    rotate_left
    · (intro w hw; (try have hcs := hcells w hw); (try go_split_ands); go_simp <;> with_reducible rfl)
    (try simp only [Act.put, List.setIfInBounds_toArray, List.set_cons_zero, List.set_cons_succ])
    refine QK.skip HK (by rfl) ?_
    (try simp only [Act.put, List.setIfInBounds_toArray, List.set_cons_zero, List.set_cons_succ])
    refine QK.skip HK (by rfl) ?_
    (try simp only [Act.put, List.setIfInBounds_toArray, List.set_cons_zero, List.set_cons_succ])
    refine QK.skip HK (by rfl) ?_
    (try simp only [Act.put, List.setIfInBounds_toArray, List.set_cons_zero, List.set_cons_succ])
    refine QK.skip HK (by rfl) ?_
    (try simp only [Act.put, List.setIfInBounds_toArray, List.set_cons_zero, List.set_cons_succ])
    refine QK.skip HK (by rfl) ?_
    (try simp only [Act.put, List.setIfInBounds_toArray, List.set_cons_zero, List.set_cons_succ])
    refine QK.skip HK (by rfl) ?_
    (try simp only [Act.put, List.setIfInBounds_toArray, List.set_cons_zero, List.set_cons_succ])
    refine QK.skip HK (by rfl) ?_
    (try simp only [Act.put, List.setIfInBounds_toArray, List.set_cons_zero, List.set_cons_succ])
    refine QK.skip HK (by rfl) ?_
    (try simp only [Act.put, List.setIfInBounds_toArray, List.set_cons_zero, List.set_cons_succ])
    refine QK.skip HK (by rfl) ?_
    (try simp only [Act.put, List.setIfInBounds_toArray, List.set_cons_zero, List.set_cons_succ])
    refine QK.skip HK (by rfl) ?_
    (try simp only [Act.put, List.setIfInBounds_toArray, List.set_cons_zero, List.set_cons_succ])
    refine QK.take HK ?_ (by rfl) ?_ ?_
    rotate_left
    · (intro w hw; (try have hcs := hcells w hw); (try go_split_ands); go_simp <;> with_reducible rfl)
    (try simp only [Act.put, List.setIfInBounds_toArray, List.set_cons_zero, List.set_cons_succ])
    refine QK.take HK ?_ (by rfl) ?_ ?_
    rotate_left
    · (intro w hw; (try have hcs := hcells w hw); (try go_split_ands); go_simp <;> with_reducible rfl)
    (try simp only [Act.put, List.setIfInBounds_toArray, List.set_cons_zero, List.set_cons_succ])
    refine QK.nil HK ?_
    clear HK K
    intro wq hq
    have hg := hgr wq hq
    clear hcells hin hcl hgr hq
    go_wp2
    go_ret
    exact ⟨ret_bool HR.out, hg⟩
  · rw [u1] at HR
    replace v1 := v1.trans u1
    clear u1
    go_enter Try.func64, Try.ntmps64
    go_upto_region 1 with fail
    obtain ⟨C, hin, hcl, hcells, hgr⟩ : ∃ C : World → Prop, (∀ w', w.heap.size + 4 ≤ w'.heap.size ∧ IsGr w w' ∧ (w'.cell? ⟨w.heap.size, 0, none⟩ = some (.int .i64 a1) ∧ w'.cell? ⟨w.heap.size, 1, none⟩ = some (.int .i64 a2)) ∧ (w'.cell? ⟨w.heap.size + 1, 0, none⟩ = some (.int .i64 b1) ∧ w'.cell? ⟨w.heap.size + 1, 1, none⟩ = some (.int .i64 b2)) ∧ (w'.cell? ⟨w.heap.size + 1 + 1, 0, none⟩ = some (.int .i64 c1) ∧ w'.cell? ⟨w.heap.size + 1 + 1, 1, none⟩ = some (.int .i64 c2)) ∧ (w'.cell? ⟨w.heap.size + 1 + 1 + 1, 0, none⟩ = some (.int .i64 d1) ∧ w'.cell? ⟨w.heap.size + 1 + 1 + 1, 1, none⟩ = some (.int .i64 d2)) → C w') ∧ (∀ u u', C u → IsGr u u' → C u') ∧ (∀ w', C w' → (w'.cell? ⟨w.heap.size, 0, none⟩ = some (.int .i64 a1) ∧ w'.cell? ⟨w.heap.size, 1, none⟩ = some (.int .i64 a2)) ∧ (w'.cell? ⟨w.heap.size + 1, 0, none⟩ = some (.int .i64 b1) ∧ w'.cell? ⟨w.heap.size + 1, 1, none⟩ = some (.int .i64 b2)) ∧ (w'.cell? ⟨w.heap.size + 1 + 1, 0, none⟩ = some (.int .i64 c1) ∧ w'.cell? ⟨w.heap.size + 1 + 1, 1, none⟩ = some (.int .i64 c2)) ∧ (w'.cell? ⟨w.heap.size + 1 + 1 + 1, 0, none⟩ = some (.int .i64 d1) ∧ w'.cell? ⟨w.heap.size + 1 + 1 + 1, 1, none⟩ = some (.int .i64 d2))) ∧ (∀ w', C w' → IsGr w w') := by
      refine ⟨fun w' => w.heap.size + 4 ≤ w'.heap.size ∧ IsGr w w' ∧ (w'.cell? ⟨w.heap.size, 0, none⟩ = some (.int .i64 a1) ∧ w'.cell? ⟨w.heap.size, 1, none⟩ = some (.int .i64 a2)) ∧ (w'.cell? ⟨w.heap.size + 1, 0, none⟩ = some (.int .i64 b1) ∧ w'.cell? ⟨w.heap.size + 1, 1, none⟩ = some (.int .i64 b2)) ∧ (w'.cell? ⟨w.heap.size + 1 + 1, 0, none⟩ = some (.int .i64 c1) ∧ w'.cell? ⟨w.heap.size + 1 + 1, 1, none⟩ = some (.int .i64 c2)) ∧ (w'.cell? ⟨w.heap.size + 1 + 1 + 1, 0, none⟩ = some (.int .i64 d1) ∧ w'.cell? ⟨w.heap.size + 1 + 1 + 1, 1, none⟩ = some (.int .i64 d2)), fun w' h => h, ?_, fun w' h => h.2.2, fun w' h => h.2.1⟩
      rintro u u' ⟨h0, h1, h2⟩ hg
      refine ⟨Nat.le_trans h0 hg.size, h1.trans hg, ?_⟩
      exact ⟨⟨hg.cell_at (by omega) h2.1.1, hg.cell_at (by omega) h2.1.2⟩, ⟨hg.cell_at (by omega) h2.2.1.1, hg.cell_at (by omega) h2.2.1.2⟩, ⟨hg.cell_at (by omega) h2.2.2.1.1, hg.cell_at (by omega) h2.2.2.1.2⟩, ⟨hg.cell_at (by omega) h2.2.2.2.1, hg.cell_at (by omega) h2.2.2.2.2⟩⟩
    refine wp_region_quietV C (by kernel_rfl) (by kernel_rfl) (hin _ ⟨by first | omega | (simp; done) | (simp; omega) | (simp [Gr.size]; done) | (simp [Gr.size]; omega), (by with_reducible repeat (first | exact IsGr.refl _ | refine IsGr.gr ?_ _ _ | refine IsGr.alloc ?_ _ | refine IsGr.drew ?_ | refine IsGr.drewN ?_ _)), by simp [go_sem]⟩) (fun K HK => ?_)
    refine QK.take HK ?_ (by rfl) ?_ ?_
    rotate_left
    · (intro w hw; (try have hcs := hcells w hw); (try go_split_ands); go_simp <;> with_reducible rfl)
    (try simp only [Act.put, List.setIfInBounds_toArray, List.set_cons_zero, List.set_cons_succ])
    refine QK.take HK ?_ (by rfl) ?_ ?_
    rotate_left
    · (intro w hw; (try have hcs := hcells w hw); (try go_split_ands); go_simp <;> with_reducible rfl)
    (try simp only [Act.put, List.setIfInBounds_toArray, List.set_cons_zero, List.set_cons_succ])
    refine QK.take HK ?_ (by rfl) ?_ ?_
    rotate_left
    · (intro w hw; (try have hcs := hcells w hw); (try go_split_ands); go_simp <;> with_reducible rfl)
    (try simp only [Act.put, List.setIfInBounds_toArray, List.set_cons_zero, List.set_cons_succ])
    refine QK.call HK 17 #[.agg #[.int .i64 a1, .int .i64 a2], .agg #[.int .i64 b1, .int .i64 b2], .agg #[.int .i64 c1, .int .i64 c2]] (.int .i64 X) hcl (by rfl) (fun w => by go_simp) C1 ?_
    (try simp only [Act.put, List.setIfInBounds_toArray, List.set_cons_zero, List.set_cons_succ])
    refine QK.take HK ?_ (by rfl) ?_ ?_
    rotate_left
    · (intro w hw; (try have hcs := hcells w hw); (try go_split_ands); go_simp <;> with_reducible rfl)
    (try simp only [Act.put, List.setIfInBounds_toArray, List.set_cons_zero, List.set_cons_succ])
    refine QK.take HK ?_ (by rfl) ?_ ?_
    rotate_left
    · (intro w hw; (try have hcs := hcells w hw); (try go_split_ands); go_simp <;> with_reducible rfl)
    (try simp only [Act.put, List.setIfInBounds_toArray, List.set_cons_zero, List.set_cons_succ])
    refine QK.take HK ?_ (by rfl) ?_ ?_
    rotate_left
    · (intro w hw; (try have hcs := hcells w hw); (try go_split_ands); go_simp <;> with_reducible rfl)
    (try simp only [Act.put, List.setIfInBounds_toArray, List.set_cons_zero, List.set_cons_succ])
    refine QK.call HK 17 #[.agg #[.int .i64 a1, .int .i64 a2], .agg #[.int .i64 b1, .int .i64 b2], .agg #[.int .i64 d1, .int .i64 d2]] (.int .i64 Y) hcl (by rfl) (fun w => by go_simp) C2 ?_
    (try simp only [Act.put, List.setIfInBounds_toArray, List.set_cons_zero, List.set_cons_succ])
    refine QK.take HK ?_ (by rfl) ?_ ?_
    rotate_left
    · (intro w hw; (try have hcs := hcells w hw); (try go_split_ands); go_simp <;> with_reducible rfl)
    (try simp only [Act.put, List.setIfInBounds_toArray, List.set_cons_zero, List.set_cons_succ])
    refine QK.take HK ?_ (by rfl) ?_ ?_
    rotate_left
    · (intro w hw; (try have hcs := hcells w hw); (try go_split_ands); go_simp <;> with_reducible rfl)
    (try simp only [Act.put, List.setIfInBounds_toArray, List.set_cons_zero, List.set_cons_succ])
    refine QK.take HK ?_ (by rfl) ?_ ?_
    rotate_left
    · (intro w hw; (try have hcs := hcells w hw); (try go_split_ands); go_simp <;> with_reducible rfl)
    (try simp only [Act.put, List.setIfInBounds_toArray, List.set_cons_zero, List.set_cons_succ])
    refine QK.skip HK (by rfl) ?_
    (try simp only [Act.put, List.setIfInBounds_toArray, List.set_cons_zero, List.set_cons_succ])
    refine QK.skip HK (by rfl) ?_
    (try simp only [Act.put, List.setIfInBounds_toArray, List.set_cons_zero, List.set_cons_succ])
    refine QK.skip HK (by rfl) ?_
    (try simp only [Act.put, List.setIfInBounds_toArray, List.set_cons_zero, List.set_cons_succ])
    refine QK.skip HK (by rfl) ?_
    (try simp only [Act.put, List.setIfInBounds_toArray, List.set_cons_zero, List.set_cons_succ])
    refine QK.skip HK (by rfl) ?_
    (try simp only [Act.put, List.setIfInBounds_toArray, List.set_cons_zero, List.set_cons_succ])
    refine QK.skip HK (by rfl) ?_
    (try simp only [Act.put, List.setIfInBounds_toArray, List.set_cons_zero, List.set_cons_succ])
    refine QK.skip HK (by rfl) ?_
    (try simp only [Act.put, List.setIfInBounds_toArray, List.set_cons_zero, List.set_cons_succ])
    refine QK.skip HK (by rfl) ?_
    (try simp only [Act.put, List.setIfInBounds_toArray, List.set_cons_zero, List.set_cons_succ])
    refine QK.skip HK (by rfl) ?_
    (try simp only [Act.put, List.setIfInBounds_toArray, List.set_cons_zero, List.set_cons_succ])
    refine QK.skip HK (by rfl) ?_
    (try simp only [Act.put, List.setIfInBounds_toArray, List.set_cons_zero, List.set_cons_succ])
    refine QK.take HK ?_ (by rfl) ?_ ?_
    rotate_left
    · (intro w hw; (try have hcs := hcells w hw); (try go_split_ands); go_simp <;> with_reducible rfl)
    (try simp only [Act.put, List.setIfInBounds_toArray, List.set_cons_zero, List.set_cons_succ])
    refine QK.take HK ?_ (by rfl) ?_ ?_
    rotate_left
    · (intro w hw; (try have hcs := hcells w hw); (try go_split_ands); go_simp <;> with_reducible rfl)
    (try simp only [Act.put, List.setIfInBounds_toArray, List.set_cons_zero, List.set_cons_succ])
    refine QK.nil HK ?_
    clear HK K
    intro wq hq
    have hg := hgr wq hq
    clear hcells hin hcl hgr hq
    go_wp2
    go_ret
    exact ⟨ret_bool HR.out, hg⟩
end Go.Proofs.Ytohhlhoijanjfaa
