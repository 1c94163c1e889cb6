/- Contracts over the loaded program: point.In, point.Facing; gromaref03.In, gromaref03.Facing. What gromaref04.Meet tells of four points, as a plain function. Points that are appended to points. -/
import Derived.Test.YtohhlhoijanjfaaU7g
import Derived.Test.YtohhlhoijanjfaaU9
import Derived.Test.YtohhlhoijanjfaaGA
import Derived.Test.YtohhlhoijanjfaaU7wg
import Derived.Test.YtohhlhoijanjfaaU1
import Derived.Laws.AppendOwn
import Derived.Laws.AppendOwnNone
namespace Go.Proofs.Ytohhlhoijanjfaa
open Go.RowKit Go.Shelf
attribute [local go_sem] Gr.size Gr.cell? Gr.frozen? Gr.setCell Gr.drew Gr.drewN Gr.of_drew Gr.of_drewN Gr.gr Gr.lt_of1 Gr.le_of1 Gr.lt_of2 Gr.le_of2 Gr.lt_of3 Gr.le_of3 Gr.lt_of4 Gr.le_of4 Gr.lt_of5 Gr.le_of5 Gr.lt_of6 Gr.le_of6 Gr.lt_of7 Gr.le_of7 Gr.lt_of8 Gr.le_of8 Gr.lt_of9 Gr.le_of9 Gr.lt_of10 Gr.le_of10 Gr.lt_of11 Gr.le_of11 Gr.lt_of12 Gr.le_of12 Gr.lt_of13 Gr.le_of13 Gr.lt_of14 Gr.le_of14 Gr.lt_of15 Gr.le_of15 Gr.lt_of16 Gr.le_of16 Gr.lt_of17 Gr.le_of17 Gr.lt_of18 Gr.le_of18 Gr.lt_of19 Gr.le_of19 Gr.lt_of20 Gr.le_of20 Gr.lt_of21 Gr.le_of21 Gr.lt_of22 Gr.le_of22 Gr.lt_of23 Gr.le_of23 Gr.lt_of24 Gr.le_of24

/-- Do c and d lie to different sides of the line through a and b? -/
def partP (a1 a2 b1 b2 c1 c2 d1 d2 : Int) : Bool := decide (wayP a1 a2 b1 b2 c1 c2 * wayP a1 a2 b1 b2 d1 d2 < 0)
/-- Do two segments cross within both? -/
def facingP (a1 a2 b1 b2 c1 c2 d1 d2 : Int) : Bool := partP a1 a2 b1 b2 c1 c2 d1 d2 && partP c1 c2 d1 d2 a1 a2 b1 b2
set_option maxRecDepth 20000 in set_option maxHeartbeats 2000000 in
theorem refFacing_any (a1 a2 b1 b2 c1 c2 d1 d2 : Int) (w : World) :
    Calls Try.prog 64 #[.agg #[.int .i64 a1, .int .i64 a2], .agg #[.int .i64 b1, .int .i64 b2], .agg #[.int .i64 c1, .int .i64 c2], .agg #[.int .i64 d1, .int .i64 d2]] w fun e w' => e = .returned (.bool (facingP a1 a2 b1 b2 c1 c2 d1 d2)) ∧ IsGr w w' := by
  have C1 := fun w => Way_any a1 a2 b1 b2 c1 c2 w
  have C2 := fun w => Way_any a1 a2 b1 b2 d1 d2 w
  have C3 := fun w => Way_any c1 c2 d1 d2 a1 a2 w
  have C4 := fun w => Way_any c1 c2 d1 d2 b1 b2 w
  have r1 := wayP_range a1 a2 b1 b2 c1 c2
  have r2 := wayP_range a1 a2 b1 b2 d1 d2
  have r3 := wayP_range c1 c2 d1 d2 a1 a2
  have r4 := wayP_range c1 c2 d1 d2 b1 b2
  have HR : Hid ((decide (wayP a1 a2 b1 b2 c1 c2 * wayP a1 a2 b1 b2 d1 d2 < 0) && decide (wayP c1 c2 d1 d2 a1 a2 * wayP c1 c2 d1 d2 b1 b2 < 0)) = facingP a1 a2 b1 b2 c1 c2 d1 d2) := rfl
  generalize wayP a1 a2 b1 b2 c1 c2 = X at C1 r1 HR
  generalize wayP a1 a2 b1 b2 d1 d2 = Y at C2 r2 HR
  generalize wayP c1 c2 d1 d2 a1 a2 = Z at C3 r3 HR
  generalize wayP c1 c2 d1 d2 b1 b2 = V at C4 r4 HR
  obtain ⟨v1, u1⟩ := wrap_prod r1 r2
  obtain ⟨v2, u2⟩ := wrap_prod r3 r4
  clear r1 r2 r3 r4 u2
  rcases u1 with u1 | u1 | u1
  · rw [u1] at HR
    replace v1 := v1.trans u1
    clear u1
    go_enter Try.func64, Try.ntmps64
    go_upto_region 1 with fail
    obtain ⟨C, hin, hcl, hcells, hgr⟩ : ∃ C : World → Prop, (∀ w', w.heap.size + 4 ≤ w'.heap.size ∧ IsGr w w' ∧ (w'.cell? ⟨w.heap.size, 0, none⟩ = some (.int .i64 a1) ∧ w'.cell? ⟨w.heap.size, 1, none⟩ = some (.int .i64 a2)) ∧ (w'.cell? ⟨w.heap.size + 1, 0, none⟩ = some (.int .i64 b1) ∧ w'.cell? ⟨w.heap.size + 1, 1, none⟩ = some (.int .i64 b2)) ∧ (w'.cell? ⟨w.heap.size + 1 + 1, 0, none⟩ = some (.int .i64 c1) ∧ w'.cell? ⟨w.heap.size + 1 + 1, 1, none⟩ = some (.int .i64 c2)) ∧ (w'.cell? ⟨w.heap.size + 1 + 1 + 1, 0, none⟩ = some (.int .i64 d1) ∧ w'.cell? ⟨w.heap.size + 1 + 1 + 1, 1, none⟩ = some (.int .i64 d2)) → C w') ∧ (∀ u u', C u → IsGr u u' → C u') ∧ (∀ w', C w' → (w'.cell? ⟨w.heap.size, 0, none⟩ = some (.int .i64 a1) ∧ w'.cell? ⟨w.heap.size, 1, none⟩ = some (.int .i64 a2)) ∧ (w'.cell? ⟨w.heap.size + 1, 0, none⟩ = some (.int .i64 b1) ∧ w'.cell? ⟨w.heap.size + 1, 1, none⟩ = some (.int .i64 b2)) ∧ (w'.cell? ⟨w.heap.size + 1 + 1, 0, none⟩ = some (.int .i64 c1) ∧ w'.cell? ⟨w.heap.size + 1 + 1, 1, none⟩ = some (.int .i64 c2)) ∧ (w'.cell? ⟨w.heap.size + 1 + 1 + 1, 0, none⟩ = some (.int .i64 d1) ∧ w'.cell? ⟨w.heap.size + 1 + 1 + 1, 1, none⟩ = some (.int .i64 d2))) ∧ (∀ w', C w' → IsGr w w') := by
      refine ⟨fun w' => w.heap.size + 4 ≤ w'.heap.size ∧ IsGr w w' ∧ (w'.cell? ⟨w.heap.size, 0, none⟩ = some (.int .i64 a1) ∧ w'.cell? ⟨w.heap.size, 1, none⟩ = some (.int .i64 a2)) ∧ (w'.cell? ⟨w.heap.size + 1, 0, none⟩ = some (.int .i64 b1) ∧ w'.cell? ⟨w.heap.size + 1, 1, none⟩ = some (.int .i64 b2)) ∧ (w'.cell? ⟨w.heap.size + 1 + 1, 0, none⟩ = some (.int .i64 c1) ∧ w'.cell? ⟨w.heap.size + 1 + 1, 1, none⟩ = some (.int .i64 c2)) ∧ (w'.cell? ⟨w.heap.size + 1 + 1 + 1, 0, none⟩ = some (.int .i64 d1) ∧ w'.cell? ⟨w.heap.size + 1 + 1 + 1, 1, none⟩ = some (.int .i64 d2)), fun w' h => h, ?_, fun w' h => h.2.2, fun w' h => h.2.1⟩
      rintro u u' ⟨h0, h1, h2⟩ hg
      refine ⟨Nat.le_trans h0 hg.size, h1.trans hg, ?_⟩
      exact ⟨⟨hg.cell_at (by omega) h2.1.1, hg.cell_at (by omega) h2.1.2⟩, ⟨hg.cell_at (by omega) h2.2.1.1, hg.cell_at (by omega) h2.2.1.2⟩, ⟨hg.cell_at (by omega) h2.2.2.1.1, hg.cell_at (by omega) h2.2.2.1.2⟩, ⟨hg.cell_at (by omega) h2.2.2.2.1, hg.cell_at (by omega) h2.2.2.2.2⟩⟩
    refine wp_region_quietV C (by kernel_rfl) (by kernel_rfl) (hin _ ⟨by first | omega | (simp; done) | (simp; omega) | (simp [Gr.size]; done) | (simp [Gr.size]; omega), (by with_reducible repeat (first | exact IsGr.refl _ | refine IsGr.gr ?_ _ _ | refine IsGr.alloc ?_ _ | refine IsGr.drew ?_ | refine IsGr.drewN ?_ _)), by simp [go_sem]⟩) (fun K HK => ?_)
    refine QK.take HK ?_ (by rfl) ?_ ?_
    rotate_left
    · (intro w hw; (try have hcs := hcells w hw); (try go_split_ands); go_simp <;> with_reducible rfl)
    (try simp only [Act.put, qA, qB, qC])
    refine QK.take HK ?_ (by rfl) ?_ ?_
    rotate_left
    · (intro w hw; (try have hcs := hcells w hw); (try go_split_ands); go_simp <;> with_reducible rfl)
    (try simp only [Act.put, qA, qB, qC])
    refine QK.take HK ?_ (by rfl) ?_ ?_
    rotate_left
    · (intro w hw; (try have hcs := hcells w hw); (try go_split_ands); go_simp <;> with_reducible rfl)
    (try simp only [Act.put, qA, qB, qC])
    refine QK.call HK 17 #[.agg #[.int .i64 a1, .int .i64 a2], .agg #[.int .i64 b1, .int .i64 b2], .agg #[.int .i64 c1, .int .i64 c2]] (.int .i64 X) hcl (by rfl) (fun w => by go_simp) C1 ?_
    (try simp only [Act.put, qA, qB, qC])
    refine QK.take HK ?_ (by rfl) ?_ ?_
    rotate_left
    · (intro w hw; (try have hcs := hcells w hw); (try go_split_ands); go_simp <;> with_reducible rfl)
    (try simp only [Act.put, qA, qB, qC])
    refine QK.take HK ?_ (by rfl) ?_ ?_
    rotate_left
    · (intro w hw; (try have hcs := hcells w hw); (try go_split_ands); go_simp <;> with_reducible rfl)
    (try simp only [Act.put, qA, qB, qC])
    refine QK.take HK ?_ (by rfl) ?_ ?_
    rotate_left
    · (intro w hw; (try have hcs := hcells w hw); (try go_split_ands); go_simp <;> with_reducible rfl)
    (try simp only [Act.put, qA, qB, qC])
    refine QK.call HK 17 #[.agg #[.int .i64 a1, .int .i64 a2], .agg #[.int .i64 b1, .int .i64 b2], .agg #[.int .i64 d1, .int .i64 d2]] (.int .i64 Y) hcl (by rfl) (fun w => by go_simp) C2 ?_
    (try simp only [Act.put, qA, qB, qC])
    refine QK.take HK ?_ (by rfl) ?_ ?_
    rotate_left
    · (intro w hw; (try have hcs := hcells w hw); (try go_split_ands); go_simp <;> with_reducible rfl)
    (try simp only [Act.put, qA, qB, qC])
    refine QK.take HK ?_ (by rfl) ?_ ?_
    rotate_left
    · (intro w hw; (try have hcs := hcells w hw); (try go_split_ands); go_simp <;> with_reducible rfl)
    (try simp only [Act.put, qA, qB, qC])
    refine QK.take HK ?_ (by rfl) ?_ ?_
    rotate_left
    · (intro w hw; (try have hcs := hcells w hw); (try go_split_ands); go_simp <;> with_reducible rfl)
    (try simp only [Act.put, qA, qB, qC])
    refine QK.take HK ?_ (by rfl) ?_ ?_
    rotate_left
    · (intro w hw; (try have hcs := hcells w hw); (try go_split_ands); go_simp <;> with_reducible rfl)
    (try simp only [Act.put, qA, qB, qC])
    refine QK.take HK ?_ (by rfl) ?_ ?_
    rotate_left
    · (intro w hw; (try have hcs := hcells w hw); (try go_split_ands); go_simp <;> with_reducible rfl)
    (try simp only [Act.put, qA, qB, qC])
    refine QK.take HK ?_ (by rfl) ?_ ?_
    rotate_left
    · (intro w hw; (try have hcs := hcells w hw); (try go_split_ands); go_simp <;> with_reducible rfl)
    (try simp only [Act.put, qA, qB, qC])
    refine QK.call HK 17 #[.agg #[.int .i64 c1, .int .i64 c2], .agg #[.int .i64 d1, .int .i64 d2], .agg #[.int .i64 a1, .int .i64 a2]] (.int .i64 Z) hcl (by rfl) (fun w => by go_simp) C3 ?_
    (try simp only [Act.put, qA, qB, qC])
    refine QK.take HK ?_ (by rfl) ?_ ?_
    rotate_left
    · (intro w hw; (try have hcs := hcells w hw); (try go_split_ands); go_simp <;> with_reducible rfl)
    (try simp only [Act.put, qA, qB, qC])
    refine QK.take HK ?_ (by rfl) ?_ ?_
    rotate_left
    · (intro w hw; (try have hcs := hcells w hw); (try go_split_ands); go_simp <;> with_reducible rfl)
    (try simp only [Act.put, qA, qB, qC])
    refine QK.take HK ?_ (by rfl) ?_ ?_
    rotate_left
    · (intro w hw; (try have hcs := hcells w hw); (try go_split_ands); go_simp <;> with_reducible rfl)
    (try simp only [Act.put, qA, qB, qC])
    refine QK.call HK 17 #[.agg #[.int .i64 c1, .int .i64 c2], .agg #[.int .i64 d1, .int .i64 d2], .agg #[.int .i64 b1, .int .i64 b2]] (.int .i64 V) hcl (by rfl) (fun w => by go_simp) C4 ?_
    (try simp only [Act.put, qA, qB, qC])
    refine QK.take HK ?_ (by rfl) ?_ ?_
    rotate_left
    · (intro w hw; (try have hcs := hcells w hw); (try go_split_ands); go_simp <;> with_reducible rfl)
    (try simp only [Act.put, qA, qB, qC])
    refine QK.take HK ?_ (by rfl) ?_ ?_
    rotate_left
    · (intro w hw; (try have hcs := hcells w hw); (try go_split_ands); go_simp <;> with_reducible rfl)
    (try simp only [Act.put, qA, qB, qC])
    refine QK.take HK ?_ (by rfl) ?_ ?_
    rotate_left
    · (intro w hw; (try have hcs := hcells w hw); (try go_split_ands); go_simp <;> with_reducible rfl)
    (try simp only [Act.put, qA, qB, qC])
    refine QK.take HK ?_ (by rfl) ?_ ?_
    rotate_left
    · (intro w hw; (try have hcs := hcells w hw); (try go_split_ands); go_simp <;> with_reducible rfl)
    (try simp only [Act.put, qA, qB, qC])
    refine QK.nil HK ?_
    clear HK K
    intro wq hq
    have hg := hgr wq hq
    clear hcells hin hcl hgr hq
    go_wp2
    go_ret
    exact ⟨ret_bool HR.out, hg⟩
  · rw [u1] at HR
    replace v1 := v1.trans u1
    clear u1
    go_enter Try.func64, Try.ntmps64
    go_upto_region 1 with fail
    obtain ⟨C, hin, hcl, hcells, hgr⟩ : ∃ C : World → Prop, (∀ w', w.heap.size + 4 ≤ w'.heap.size ∧ IsGr w w' ∧ (w'.cell? ⟨w.heap.size, 0, none⟩ = some (.int .i64 a1) ∧ w'.cell? ⟨w.heap.size, 1, none⟩ = some (.int .i64 a2)) ∧ (w'.cell? ⟨w.heap.size + 1, 0, none⟩ = some (.int .i64 b1) ∧ w'.cell? ⟨w.heap.size + 1, 1, none⟩ = some (.int .i64 b2)) ∧ (w'.cell? ⟨w.heap.size + 1 + 1, 0, none⟩ = some (.int .i64 c1) ∧ w'.cell? ⟨w.heap.size + 1 + 1, 1, none⟩ = some (.int .i64 c2)) ∧ (w'.cell? ⟨w.heap.size + 1 + 1 + 1, 0, none⟩ = some (.int .i64 d1) ∧ w'.cell? ⟨w.heap.size + 1 + 1 + 1, 1, none⟩ = some (.int .i64 d2)) → C w') ∧ (∀ u u', C u → IsGr u u' → C u') ∧ (∀ w', C w' → (w'.cell? ⟨w.heap.size, 0, none⟩ = some (.int .i64 a1) ∧ w'.cell? ⟨w.heap.size, 1, none⟩ = some (.int .i64 a2)) ∧ (w'.cell? ⟨w.heap.size + 1, 0, none⟩ = some (.int .i64 b1) ∧ w'.cell? ⟨w.heap.size + 1, 1, none⟩ = some (.int .i64 b2)) ∧ (w'.cell? ⟨w.heap.size + 1 + 1, 0, none⟩ = some (.int .i64 c1) ∧ w'.cell? ⟨w.heap.size + 1 + 1, 1, none⟩ = some (.int .i64 c2)) ∧ (w'.cell? ⟨w.heap.size + 1 + 1 + 1, 0, none⟩ = some (.int .i64 d1) ∧ w'.cell? ⟨w.heap.size + 1 + 1 + 1, 1, none⟩ = some (.int .i64 d2))) ∧ (∀ w', C w' → IsGr w w') := by
      refine ⟨fun w' => w.heap.size + 4 ≤ w'.heap.size ∧ IsGr w w' ∧ (w'.cell? ⟨w.heap.size, 0, none⟩ = some (.int .i64 a1) ∧ w'.cell? ⟨w.heap.size, 1, none⟩ = some (.int .i64 a2)) ∧ (w'.cell? ⟨w.heap.size + 1, 0, none⟩ = some (.int .i64 b1) ∧ w'.cell? ⟨w.heap.size + 1, 1, none⟩ = some (.int .i64 b2)) ∧ (w'.cell? ⟨w.heap.size + 1 + 1, 0, none⟩ = some (.int .i64 c1) ∧ w'.cell? ⟨w.heap.size + 1 + 1, 1, none⟩ = some (.int .i64 c2)) ∧ (w'.cell? ⟨w.heap.size + 1 + 1 + 1, 0, none⟩ = some (.int .i64 d1) ∧ w'.cell? ⟨w.heap.size + 1 + 1 + 1, 1, none⟩ = some (.int .i64 d2)), fun w' h => h, ?_, fun w' h => h.2.2, fun w' h => h.2.1⟩
      rintro u u' ⟨h0, h1, h2⟩ hg
      refine ⟨Nat.le_trans h0 hg.size, h1.trans hg, ?_⟩
      exact ⟨⟨hg.cell_at (by omega) h2.1.1, hg.cell_at (by omega) h2.1.2⟩, ⟨hg.cell_at (by omega) h2.2.1.1, hg.cell_at (by omega) h2.2.1.2⟩, ⟨hg.cell_at (by omega) h2.2.2.1.1, hg.cell_at (by omega) h2.2.2.1.2⟩, ⟨hg.cell_at (by omega) h2.2.2.2.1, hg.cell_at (by omega) h2.2.2.2.2⟩⟩
    refine wp_region_quietV C (by kernel_rfl) (by kernel_rfl) (hin _ ⟨by first | omega | (simp; done) | (simp; omega) | (simp [Gr.size]; done) | (simp [Gr.size]; omega), (by with_reducible repeat (first | exact IsGr.refl _ | refine IsGr.gr ?_ _ _ | refine IsGr.alloc ?_ _ | refine IsGr.drew ?_ | refine IsGr.drewN ?_ _)), by simp [go_sem]⟩) (fun K HK => ?_)
    refine QK.take HK ?_ (by rfl) ?_ ?_
    rotate_left
    · (intro w hw; (try have hcs := hcells w hw); (try go_split_ands); go_simp <;> with_reducible rfl)
    (try simp only [Act.put, qA, qB, qC])
    refine QK.take HK ?_ (by rfl) ?_ ?_
    rotate_left
    · (intro w hw; (try have hcs := hcells w hw); (try go_split_ands); go_simp <;> with_reducible rfl)
    (try simp only [Act.put, qA, qB, qC])
    refine QK.take HK ?_ (by rfl) ?_ ?_
    rotate_left
    · (intro w hw; (try have hcs := hcells w hw); (try go_split_ands); go_simp <;> with_reducible rfl)
    (try simp only [Act.put, qA, qB, qC])
    refine QK.call HK 17 #[.agg #[.int .i64 a1, .int .i64 a2], .agg #[.int .i64 b1, .int .i64 b2], .agg #[.int .i64 c1, .int .i64 c2]] (.int .i64 X) hcl (by rfl) (fun w => by go_simp) C1 ?_
    (try simp only [Act.put, qA, qB, qC])
    refine QK.take HK ?_ (by rfl) ?_ ?_
    rotate_left
    · (intro w hw; (try have hcs := hcells w hw); (try go_split_ands); go_simp <;> with_reducible rfl)
    (try simp only [Act.put, qA, qB, qC])
    refine QK.take HK ?_ (by rfl) ?_ ?_
    rotate_left
    · (intro w hw; (try have hcs := hcells w hw); (try go_split_ands); go_simp <;> with_reducible rfl)
    (try simp only [Act.put, qA, qB, qC])
    refine QK.take HK ?_ (by rfl) ?_ ?_
    rotate_left
    · (intro w hw; (try have hcs := hcells w hw); (try go_split_ands); go_simp <;> with_reducible rfl)
    (try simp only [Act.put, qA, qB, qC])
    refine QK.call HK 17 #[.agg #[.int .i64 a1, .int .i64 a2], .agg #[.int .i64 b1, .int .i64 b2], .agg #[.int .i64 d1, .int .i64 d2]] (.int .i64 Y) hcl (by rfl) (fun w => by go_simp) C2 ?_
    (try simp only [Act.put, qA, qB, qC])
    refine QK.take HK ?_ (by rfl) ?_ ?_
    rotate_left
    · (intro w hw; (try have hcs := hcells w hw); (try go_split_ands); go_simp <;> with_reducible rfl)
    (try simp only [Act.put, qA, qB, qC])
    refine QK.take HK ?_ (by rfl) ?_ ?_
    rotate_left
    · (intro w hw; (try have hcs := hcells w hw); (try go_split_ands); go_simp <;> with_reducible rfl)
    (try simp only [Act.put, qA, qB, qC])
    refine QK.take HK ?_ (by rfl) ?_ ?_
    rotate_left
    · (intro w hw; (try have hcs := hcells w hw); (try go_split_ands); go_simp <;> with_reducible rfl)
    (try simp only [Act.put, qA, qB, qC])
    refine QK.skip HK (by rfl) ?_
    (try simp only [Act.put, qA, qB, qC])
    refine QK.skip HK (by rfl) ?_
    (try simp only [Act.put, qA, qB, qC])
    refine QK.skip HK (by rfl) ?_
    (try simp only [Act.put, qA, qB, qC])
    refine QK.skip HK (by rfl) ?_
    (try simp only [Act.put, qA, qB, qC])
    refine QK.skip HK (by rfl) ?_
    (try simp only [Act.put, qA, qB, qC])
    refine QK.skip HK (by rfl) ?_
    (try simp only [Act.put, qA, qB, qC])
    refine QK.skip HK (by rfl) ?_
    (try simp only [Act.put, qA, qB, qC])
    refine QK.skip HK (by rfl) ?_
    (try simp only [Act.put, qA, qB, qC])
    refine QK.skip HK (by rfl) ?_
    (try simp only [Act.put, qA, qB, qC])
    refine QK.skip HK (by rfl) ?_
    (try simp only [Act.put, qA, qB, qC])
    refine QK.take HK ?_ (by rfl) ?_ ?_
    rotate_left
    · (intro w hw; (try have hcs := hcells w hw); (try go_split_ands); go_simp <;> with_reducible rfl)
    (try simp only [Act.put, qA, qB, qC])
    refine QK.take HK ?_ (by rfl) ?_ ?_
    rotate_left
    · (intro w hw; (try have hcs := hcells w hw); (try go_split_ands); go_simp <;> with_reducible rfl)
    (try simp only [Act.put, qA, qB, qC])
    refine QK.nil HK ?_
    clear HK K
    intro wq hq
    have hg := hgr wq hq
    clear hcells hin hcl hgr hq
    go_wp2
    go_ret
    exact ⟨ret_bool HR.out, hg⟩
  · rw [u1] at HR
    replace v1 := v1.trans u1
    clear u1
    go_enter Try.func64, Try.ntmps64
    go_upto_region 1 with fail
    obtain ⟨C, hin, hcl, hcells, hgr⟩ : ∃ C : World → Prop, (∀ w', w.heap.size + 4 ≤ w'.heap.size ∧ IsGr w w' ∧ (w'.cell? ⟨w.heap.size, 0, none⟩ = some (.int .i64 a1) ∧ w'.cell? ⟨w.heap.size, 1, none⟩ = some (.int .i64 a2)) ∧ (w'.cell? ⟨w.heap.size + 1, 0, none⟩ = some (.int .i64 b1) ∧ w'.cell? ⟨w.heap.size + 1, 1, none⟩ = some (.int .i64 b2)) ∧ (w'.cell? ⟨w.heap.size + 1 + 1, 0, none⟩ = some (.int .i64 c1) ∧ w'.cell? ⟨w.heap.size + 1 + 1, 1, none⟩ = some (.int .i64 c2)) ∧ (w'.cell? ⟨w.heap.size + 1 + 1 + 1, 0, none⟩ = some (.int .i64 d1) ∧ w'.cell? ⟨w.heap.size + 1 + 1 + 1, 1, none⟩ = some (.int .i64 d2)) → C w') ∧ (∀ u u', C u → IsGr u u' → C u') ∧ (∀ w', C w' → (w'.cell? ⟨w.heap.size, 0, none⟩ = some (.int .i64 a1) ∧ w'.cell? ⟨w.heap.size, 1, none⟩ = some (.int .i64 a2)) ∧ (w'.cell? ⟨w.heap.size + 1, 0, none⟩ = some (.int .i64 b1) ∧ w'.cell? ⟨w.heap.size + 1, 1, none⟩ = some (.int .i64 b2)) ∧ (w'.cell? ⟨w.heap.size + 1 + 1, 0, none⟩ = some (.int .i64 c1) ∧ w'.cell? ⟨w.heap.size + 1 + 1, 1, none⟩ = some (.int .i64 c2)) ∧ (w'.cell? ⟨w.heap.size + 1 + 1 + 1, 0, none⟩ = some (.int .i64 d1) ∧ w'.cell? ⟨w.heap.size + 1 + 1 + 1, 1, none⟩ = some (.int .i64 d2))) ∧ (∀ w', C w' → IsGr w w') := by
      refine ⟨fun w' => w.heap.size + 4 ≤ w'.heap.size ∧ IsGr w w' ∧ (w'.cell? ⟨w.heap.size, 0, none⟩ = some (.int .i64 a1) ∧ w'.cell? ⟨w.heap.size, 1, none⟩ = some (.int .i64 a2)) ∧ (w'.cell? ⟨w.heap.size + 1, 0, none⟩ = some (.int .i64 b1) ∧ w'.cell? ⟨w.heap.size + 1, 1, none⟩ = some (.int .i64 b2)) ∧ (w'.cell? ⟨w.heap.size + 1 + 1, 0, none⟩ = some (.int .i64 c1) ∧ w'.cell? ⟨w.heap.size + 1 + 1, 1, none⟩ = some (.int .i64 c2)) ∧ (w'.cell? ⟨w.heap.size + 1 + 1 + 1, 0, none⟩ = some (.int .i64 d1) ∧ w'.cell? ⟨w.heap.size + 1 + 1 + 1, 1, none⟩ = some (.int .i64 d2)), fun w' h => h, ?_, fun w' h => h.2.2, fun w' h => h.2.1⟩
      rintro u u' ⟨h0, h1, h2⟩ hg
      refine ⟨Nat.le_trans h0 hg.size, h1.trans hg, ?_⟩
      exact ⟨⟨hg.cell_at (by omega) h2.1.1, hg.cell_at (by omega) h2.1.2⟩, ⟨hg.cell_at (by omega) h2.2.1.1, hg.cell_at (by omega) h2.2.1.2⟩, ⟨hg.cell_at (by omega) h2.2.2.1.1, hg.cell_at (by omega) h2.2.2.1.2⟩, ⟨hg.cell_at (by omega) h2.2.2.2.1, hg.cell_at (by omega) h2.2.2.2.2⟩⟩
    refine wp_region_quietV C (by kernel_rfl) (by kernel_rfl) (hin _ ⟨by first | omega | (simp; done) | (simp; omega) | (simp [Gr.size]; done) | (simp [Gr.size]; omega), (by with_reducible repeat (first | exact IsGr.refl _ | refine IsGr.gr ?_ _ _ | refine IsGr.alloc ?_ _ | refine IsGr.drew ?_ | refine IsGr.drewN ?_ _)), by simp [go_sem]⟩) (fun K HK => ?_)
    refine QK.take HK ?_ (by rfl) ?_ ?_
    rotate_left
    · (intro w hw; (try have hcs := hcells w hw); (try go_split_ands); go_simp <;> with_reducible rfl)
    (try simp only [Act.put, qA, qB, qC])
    refine QK.take HK ?_ (by rfl) ?_ ?_
    rotate_left
    · (intro w hw; (try have hcs := hcells w hw); (try go_split_ands); go_simp <;> with_reducible rfl)
    (try simp only [Act.put, qA, qB, qC])
    refine QK.take HK ?_ (by rfl) ?_ ?_
    rotate_left
    · (intro w hw; (try have hcs := hcells w hw); (try go_split_ands); go_simp <;> with_reducible rfl)
    (try simp only [Act.put, qA, qB, qC])
    refine QK.call HK 17 #[.agg #[.int .i64 a1, .int .i64 a2], .agg #[.int .i64 b1, .int .i64 b2], .agg #[.int .i64 c1, .int .i64 c2]] (.int .i64 X) hcl (by rfl) (fun w => by go_simp) C1 ?_
    (try simp only [Act.put, qA, qB, qC])
    refine QK.take HK ?_ (by rfl) ?_ ?_
    rotate_left
    · (intro w hw; (try have hcs := hcells w hw); (try go_split_ands); go_simp <;> with_reducible rfl)
    (try simp only [Act.put, qA, qB, qC])
    refine QK.take HK ?_ (by rfl) ?_ ?_
    rotate_left
    · (intro w hw; (try have hcs := hcells w hw); (try go_split_ands); go_simp <;> with_reducible rfl)
    (try simp only [Act.put, qA, qB, qC])
    refine QK.take HK ?_ (by rfl) ?_ ?_
    rotate_left
    · (intro w hw; (try have hcs := hcells w hw); (try go_split_ands); go_simp <;> with_reducible rfl)
    (try simp only [Act.put, qA, qB, qC])
    refine QK.call HK 17 #[.agg #[.int .i64 a1, .int .i64 a2], .agg #[.int .i64 b1, .int .i64 b2], .agg #[.int .i64 d1, .int .i64 d2]] (.int .i64 Y) hcl (by rfl) (fun w => by go_simp) C2 ?_
    (try simp only [Act.put, qA, qB, qC])
    refine QK.take HK ?_ (by rfl) ?_ ?_
    rotate_left
    · (intro w hw; (try have hcs := hcells w hw); (try go_split_ands); go_simp <;> with_reducible rfl)
    (try simp only [Act.put, qA, qB, qC])
    refine QK.take HK ?_ (by rfl) ?_ ?_
    rotate_left
    · (intro w hw; (try have hcs := hcells w hw); (try go_split_ands); go_simp <;> with_reducible rfl)
    (try simp only [Act.put, qA, qB, qC])
    refine QK.take HK ?_ (by rfl) ?_ ?_
    rotate_left
    · (intro w hw; (try have hcs := hcells w hw); (try go_split_ands); go_simp <;> with_reducible rfl)
    (try simp only [Act.put, qA, qB, qC])
    refine QK.skip HK (by rfl) ?_
    (try simp only [Act.put, qA, qB, qC])
    refine QK.skip HK (by rfl) ?_
    (try simp only [Act.put, qA, qB, qC])
    refine QK.skip HK (by rfl) ?_
    (try simp only [Act.put, qA, qB, qC])
    refine QK.skip HK (by rfl) ?_
    (try simp only [Act.put, qA, qB, qC])
    refine QK.skip HK (by rfl) ?_
    (try simp only [Act.put, qA, qB, qC])
    refine QK.skip HK (by rfl) ?_
    (try simp only [Act.put, qA, qB, qC])
    refine QK.skip HK (by rfl) ?_
    (try simp only [Act.put, qA, qB, qC])
    refine QK.skip HK (by rfl) ?_
    (try simp only [Act.put, qA, qB, qC])
    refine QK.skip HK (by rfl) ?_
    (try simp only [Act.put, qA, qB, qC])
    refine QK.skip HK (by rfl) ?_
    (try simp only [Act.put, qA, qB, qC])
    refine QK.take HK ?_ (by rfl) ?_ ?_
    rotate_left
    · (intro w hw; (try have hcs := hcells w hw); (try go_split_ands); go_simp <;> with_reducible rfl)
    (try simp only [Act.put, qA, qB, qC])
    refine QK.take HK ?_ (by rfl) ?_ ?_
    rotate_left
    · (intro w hw; (try have hcs := hcells w hw); (try go_split_ands); go_simp <;> with_reducible rfl)
    (try simp only [Act.put, qA, qB, qC])
    refine QK.nil HK ?_
    clear HK K
    intro wq hq
    have hg := hgr wq hq
    clear hcells hin hcl hgr hq
    go_wp2
    go_ret
    exact ⟨ret_bool HR.out, hg⟩
end Go.Proofs.Ytohhlhoijanjfaa
namespace Go.Proofs.Ytohhlhoijanjfaa

/-- Is it on both? -/
def bothP (a1 a2 b1 b2 c1 c2 d1 d2 e1 e2 : Int) : Bool := onP a1 a2 b1 b2 e1 e2 && onP c1 c2 d1 d2 e1 e2
/-- The loop of gromaref04.Meet over the ends that are left: nothing, if two are found that differ; else what was found first. -/
def runK (p : Int → Int → Bool) : List (Int × Int) → Option (Int × Int) → Option (Option (Int × Int))
  | [], s => some s
  | e :: l, s => if p e.1 e.2 = true then (match s with | none => runK p l (some e) | some x => if x = e then runK p l s else none) else runK p l s
/-- The four ends. -/
def ends4 (a1 a2 b1 b2 c1 c2 d1 d2 : Int) : List (Int × Int) := [(a1, a2), (b1, b2), (c1, c2), (d1, d2)]
/-- What is made of what was found. -/
def foundK (f : Bool) : Option (Option (Int × Int)) → Int
  | none => 2
  | some (some _) => 1
  | some none => if f = true then 1 else 0
/-- In how many points they meet. -/
def refK (a1 a2 b1 b2 c1 c2 d1 d2 : Int) : Int := foundK (facingP a1 a2 b1 b2 c1 c2 d1 d2) (runK (bothP a1 a2 b1 b2 c1 c2 d1 d2) (ends4 a1 a2 b1 b2 c1 c2 d1 d2) none)
theorem runK_miss {p : Int → Int → Bool} {x y : Int} {l : List (Int × Int)} {s : Option (Int × Int)} (h : p x y = false) : runK p ((x, y) :: l) s = runK p l s := by
  simp [runK, h]
theorem runK_new {p : Int → Int → Bool} {x y : Int} {l : List (Int × Int)} (h : p x y = true) : runK p ((x, y) :: l) none = runK p l (some (x, y)) := by
  simp [runK, h]
theorem runK_same {p : Int → Int → Bool} {x y : Int} {l : List (Int × Int)} (h : p x y = true) : runK p ((x, y) :: l) (some (x, y)) = runK p l (some (x, y)) := by
  simp [runK, h]
theorem runK_diff {p : Int → Int → Bool} {x y u v : Int} {l : List (Int × Int)} (h : p x y = true) (hn : ¬ (u = x ∧ v = y)) : runK p ((x, y) :: l) (some (u, v)) = none := by
  simp [runK, h, hn]
end Go.Proofs.Ytohhlhoijanjfaa
namespace Go.Proofs.Ytohhlhoijanjfaa
open Go Go.RowKit

/-- The cells of some points, one behind the other. -/
def ptCs : List (Int × Int) → List Value
  | [] => []
  | p :: l => .int .i64 p.1 :: .int .i64 p.2 :: ptCs l
theorem ptCs_append : ∀ l r : List (Int × Int), ptCs (l ++ r) = ptCs l ++ ptCs r
  | [], r => rfl
  | p :: l, r => by simp only [ptCs, List.cons_append, ptCs_append l r]
theorem ptCs_one : ∀ (l : List (Int × Int)) (u : Value), u ∈ ptCs l → u.oneCell' = true
  | [], u, h => by simp [ptCs] at h
  | p :: l, u, h => by
    simp only [ptCs, List.mem_cons] at h
    rcases h with rfl | rfl | h
    · rfl
    · rfl
    · exact ptCs_one l u h
theorem addr_add (g o j : Nat) : (⟨g, o, none⟩ : Addr).add j = ⟨g, o + j, none⟩ := by
  unfold Addr.add
  split
  · rename_i h; subst h; rfl
  · rfl
theorem below_grown {w w' : World} {N : Nat} {row : Option Nat} (h : w.grownBy w' row) (hN : N ≤ w.heap.size) (hr : ∀ k, row = some k → N ≤ k) : Below N w w' :=
  ⟨h.os, h.tape, h.output, by have := h.size; omega, fun k hk => h.block k (by omega) (fun e => by have := hr k e.symm; omega)⟩
end Go.Proofs.Ytohhlhoijanjfaa
