/- slices.Compact at points in order. -/
import Derived.Test.YtohhlhoijanjfaaU24g
namespace Go.Proofs.Ytohhlhoijanjfaa
open Go Go.RowKit Go.Shelf
attribute [local go_sem] Gr.size Gr.cell? Gr.frozen? Gr.setCell Gr.drew Gr.drewN Gr.of_drew Gr.of_drewN Gr.gr Gr.lt_of1 Gr.le_of1 Gr.lt_of2 Gr.le_of2 Gr.lt_of3 Gr.le_of3 Gr.lt_of4 Gr.le_of4 Gr.lt_of5 Gr.le_of5 Gr.lt_of6 Gr.le_of6 Gr.lt_of7 Gr.le_of7 Gr.lt_of8 Gr.le_of8 Gr.lt_of9 Gr.le_of9 Gr.lt_of10 Gr.le_of10 Gr.lt_of11 Gr.le_of11 Gr.lt_of12 Gr.le_of12 Gr.lt_of13 Gr.le_of13 Gr.lt_of14 Gr.le_of14 Gr.lt_of15 Gr.le_of15 Gr.lt_of16 Gr.le_of16 Gr.lt_of17 Gr.le_of17 Gr.lt_of18 Gr.le_of18 Gr.lt_of19 Gr.le_of19 Gr.lt_of20 Gr.le_of20 Gr.lt_of21 Gr.le_of21 Gr.lt_of22 Gr.le_of22 Gr.lt_of23 Gr.le_of23 Gr.lt_of24 Gr.le_of24
/-- What Compact answers. -/
def CompQ (w : World) (g n c : Nat) (d : List (Int × Int)) (v : Value) (w' : World) : Prop := ∃ m e', v = .slice (some ⟨g, 0, none⟩) m c ∧ RowH w' g m c e' ∧ CompT d e' ∧ m ≤ n ∧ ∀ B, B ≤ g → RowKit.Below B w w'

set_option maxRecDepth 20000 in set_option maxHeartbeats 2000000 in
theorem Compact_any (g n c : Nat) (d : List (Int × Int)) (w : World) (h : RowH w g n c d) (hs : d.Pairwise (fun x y => ltP 1 x y ∨ x = y)) (hn : n ≤ 4096) :
    Calls Try.prog 55 #[.slice (some ⟨g, 0, none⟩) n c] w fun e w' => ∃ v, e = .returned v ∧ CompQ w g n c d v w' := by
  have HR : Hid (RowH w g n c d) := h
  have HS : Hid (d.Pairwise (fun x y => ltP 1 x y ∨ x = y)) := hs
  have HL : Hid (d.length = n) := h.1
  have hgs : g < w.heap.size := h.2.2.2.1
  have hnc : (n : Int) ≤ (c : Int) := by have := h.2.1; omega
  have hnc' : n ≤ c := h.2.1
  have hcm : (c : Int) ≤ 9223372036854775807 := by have := h.2.2.1; unfold maxLen at this; omega
  clear h hs
  by_cases h2 : n < 2
  · have h2' : (n : Int) < 2 := by omega
    go_enter Try.func55, Try.ntmps55
    go_wp2
    go_ret
    refine ⟨_, rfl, n, d, rfl, HR.out.gr (by with_reducible repeat (first | exact IsGr.refl _ | refine IsGr.gr ?_ _ _ | refine IsGr.alloc ?_ _ | refine IsGr.drew ?_ | refine IsGr.drewN ?_ _)), ⟨?_, fun x => Iff.rfl⟩, Nat.le_refl _, fun B _ => (show IsGr w _ from (by with_reducible repeat (first | exact IsGr.refl _ | refine IsGr.gr ?_ _ _ | refine IsGr.alloc ?_ _ | refine IsGr.drew ?_ | refine IsGr.drewN ?_ _))).below.mono (by omega)⟩
    match d, HL with
    | [], _ => simp
    | [_], _ => simp
    | _ :: _ :: _, hl => simp [Hid] at hl; omega
  · have h2' : ¬ (n : Int) < 2 := by omega
    go_enter Try.func55, Try.ntmps55
    go_wp2
    go_loopw [3] (fun t3 wr => ∃ k : Nat, 1 ≤ k ∧ k ≤ n ∧ t3 = .int .i64 k ∧ Hid ((d.take k).Pairwise (ltP 1)) ∧ Hid (IsGr w wr)) (fun t3 _ => (n - intOf t3).toNat)
    case atStart =>
      refine ⟨1, Nat.le_refl _, by omega, rfl, ?_, (show IsGr w _ from (by with_reducible repeat (first | exact IsGr.refl _ | refine IsGr.gr ?_ _ _ | refine IsGr.alloc ?_ _ | refine IsGr.drew ?_ | refine IsGr.drewN ?_ _)))⟩
      match d, HL with
      | [], _ => simp [Hid]
      | x :: r, _ => simp [Hid]
    case round =>
      obtain ⟨k, hk1, hkn, rfl, HP, HG⟩ := hrel
      obtain ⟨W2, hW2⟩ : ∃ W2, W2 = wr := ⟨_, rfl⟩
      subst hW2
      have kg : g < W2.heap.size := by have := HG.out.size; omega
      by_cases hk : k < n
      · obtain ⟨kp, hkp⟩ : ∃ kp, kp = k - 1 := ⟨_, rfl⟩
        have ca := ((HR.out.gr HG.out).cell hk).1
        have cb := ((HR.out.gr HG.out).cell (show kp < n by omega)).1
        have hdl := HL.out
        have HNx := sorted_next HS.out hk1 (by omega : k < d.length)
        rw [← hkp] at HNx
        have HTs := fun hl => take_strict hk1 (by omega : k < d.length) HP.out hl
        rw [← hkp] at HTs
        have HCs := fun he => CompI.start hk1 (by omega : k < d.length) HP.out he
        rw [← hkp] at HCs
        have hk' : (k : Int) < n := by omega
        have hkp' : (kp : Int) < n := by omega
        have vk : IntKind.i64.wrap ((k : Int) - 1) = (kp : Int) := by rw [IntKind.wrap_i64]; omega
        have vk1 : IntKind.i64.wrap ((k : Int) + 1) = (k : Int) + 1 := by rw [IntKind.wrap_i64]; omega
        obtain ⟨x, y, ex⟩ : ∃ x y, d.getD k (0, 0) = (x, y) := ⟨_, _, rfl⟩
        obtain ⟨u, v, eu⟩ : ∃ u v, d.getD kp (0, 0) = (u, v) := ⟨_, _, rfl⟩
        rw [ex] at ca HNx HTs HCs
        rw [eu] at cb HNx HTs HCs
        obtain ⟨D, hD⟩ : ∃ D : Bool, D = (x == u && y == v) := ⟨_, rfl⟩
        have HD : Hid (D = (x == u && y == v)) := hD
        have HF : Hid ((ltP 1 (u, v) (x, y) ∨ (u, v) = (x, y)) ∧ (ltP 1 (u, v) (x, y) → (d.take (k + 1)).Pairwise (ltP 1)) ∧ ((x, y) = (u, v) → CompI d (k + 1) k d)) := ⟨HNx, HTs, HCs⟩
        have Hkp : Hid (kp = k - 1) := hkp
        clear HNx HTs HCs hkp ex eu hdl
        go_upto_region 6 with fail
        go_cut [25] from 10 to 59 (fun t25 wx => t25 = .bool D ∧ IsGr W2 wx)
        case first =>
          clear HD HF Hkp HP
          by_cases h1 : x = u
          · have y1 : (x == u) = true := by simp [h1]
            by_cases h2 : y = v
            · have y2 : (y == v) = true := by simp [h2]
              obtain rfl : D = true := by rw [hD]; simp [h1, h2]
              clear h1 h2 hD
              obtain ⟨C, hin, hcl, hcells, hgr⟩ : ∃ C : World → Prop, (∀ w', W2.heap.size ≤ w'.heap.size ∧ IsGr W2 w' ∧ (w'.cell? ⟨g, k * 2, none⟩ = some (.int .i64 x) ∧ w'.cell? ⟨g, k * 2 + 1, none⟩ = some (.int .i64 y)) ∧ (w'.cell? ⟨g, kp * 2, none⟩ = some (.int .i64 u) ∧ w'.cell? ⟨g, kp * 2 + 1, none⟩ = some (.int .i64 v)) → C w') ∧ (∀ u u', C u → IsGr u u' → C u') ∧ (∀ w', C w' → (w'.cell? ⟨g, k * 2, none⟩ = some (.int .i64 x) ∧ w'.cell? ⟨g, k * 2 + 1, none⟩ = some (.int .i64 y)) ∧ (w'.cell? ⟨g, kp * 2, none⟩ = some (.int .i64 u) ∧ w'.cell? ⟨g, kp * 2 + 1, none⟩ = some (.int .i64 v))) ∧ (∀ w', C w' → IsGr W2 w') := by
                refine ⟨fun w' => W2.heap.size ≤ w'.heap.size ∧ IsGr W2 w' ∧ (w'.cell? ⟨g, k * 2, none⟩ = some (.int .i64 x) ∧ w'.cell? ⟨g, k * 2 + 1, none⟩ = some (.int .i64 y)) ∧ (w'.cell? ⟨g, kp * 2, none⟩ = some (.int .i64 u) ∧ w'.cell? ⟨g, kp * 2 + 1, none⟩ = some (.int .i64 v)), fun w' h => h, ?_, fun w' h => h.2.2, fun w' h => h.2.1⟩
                rintro u u' ⟨h0, h1, h2⟩ hg
                exact ⟨Nat.le_trans h0 hg.size, h1.trans hg, ⟨hg.cell_at (by omega) h2.1.1, hg.cell_at (by omega) h2.1.2⟩, ⟨hg.cell_at (by omega) h2.2.1, hg.cell_at (by omega) h2.2.2⟩⟩
              refine wp_region_quietV C (by kernel_rfl) (by kernel_rfl) (hin _ ⟨by simp, (by with_reducible repeat (first | exact IsGr.refl _ | refine IsGr.gr ?_ _ _ | refine IsGr.alloc ?_ _ | refine IsGr.drew ?_ | refine IsGr.drewN ?_ _)), ⟨ca, cb⟩⟩) (fun K HK => ?_)
              refine QK.take HK ?_ (by rfl) ?_ ?_
              rotate_left
              · (intro w hw; (try have hcs := hcells w hw); (try go_split_ands); go_simp <;> with_reducible rfl)
              (try simp only [Act.put, qA, qB, qC])
              refine QK.take HK ?_ (by rfl) ?_ ?_
              rotate_left
              · (intro w hw; (try have hcs := hcells w hw); (try go_split_ands); go_simp <;> with_reducible rfl)
              (try simp only [Act.put, qA, qB, qC])
              refine QK.take HK ?_ (by rfl) ?_ ?_
              rotate_left
              · (intro w hw; (try have hcs := hcells w hw); (try go_split_ands); go_simp <;> with_reducible rfl)
              (try simp only [Act.put, qA, qB, qC])
              refine QK.take HK ?_ (by rfl) ?_ ?_
              rotate_left
              · (intro w hw; (try have hcs := hcells w hw); (try go_split_ands); go_simp <;> with_reducible rfl)
              (try simp only [Act.put, qA, qB, qC])
              refine QK.take HK ?_ (by rfl) ?_ ?_
              rotate_left
              · (intro w hw; (try have hcs := hcells w hw); (try go_split_ands); go_simp <;> with_reducible rfl)
              (try simp only [Act.put, qA, qB, qC])
              refine QK.take HK ?_ (by rfl) ?_ ?_
              rotate_left
              · (intro w hw; (try have hcs := hcells w hw); (try go_split_ands); go_simp <;> with_reducible rfl)
              (try simp only [Act.put, qA, qB, qC])
              refine QK.take HK ?_ (by rfl) ?_ ?_
              rotate_left
              · (intro w hw; (try have hcs := hcells w hw); (try go_split_ands); go_simp <;> with_reducible rfl)
              (try simp only [Act.put, qA, qB, qC])
              refine QK.take HK ?_ (by rfl) ?_ ?_
              rotate_left
              · (intro w hw; (try have hcs := hcells w hw); (try go_split_ands); go_simp <;> with_reducible rfl)
              (try simp only [Act.put, qA, qB, qC])
              refine QK.take HK ?_ (by rfl) ?_ ?_
              rotate_left
              · (intro w hw; (try have hcs := hcells w hw); (try go_split_ands); go_simp <;> with_reducible rfl)
              (try simp only [Act.put, qA, qB, qC])
              refine QK.take HK ?_ (by rfl) ?_ ?_
              rotate_left
              · (intro w hw; (try have hcs := hcells w hw); (try go_split_ands); go_simp <;> with_reducible rfl)
              (try simp only [Act.put, qA, qB, qC])
              refine QK.nil HK ?_
              clear HK K
              intro wq hq
              have hg9 := hgr wq hq
              clear hcells hin hcl hgr hq
              go_wp2
              go_meet
              case rel => exact ⟨by first | rfl | simp, hg9⟩
            · have y2 : (y == v) = false := by simp [h2]
              obtain rfl : D = false := by rw [hD]; simp [h2]
              clear h1 h2 hD
              obtain ⟨C, hin, hcl, hcells, hgr⟩ : ∃ C : World → Prop, (∀ w', W2.heap.size ≤ w'.heap.size ∧ IsGr W2 w' ∧ (w'.cell? ⟨g, k * 2, none⟩ = some (.int .i64 x) ∧ w'.cell? ⟨g, k * 2 + 1, none⟩ = some (.int .i64 y)) ∧ (w'.cell? ⟨g, kp * 2, none⟩ = some (.int .i64 u) ∧ w'.cell? ⟨g, kp * 2 + 1, none⟩ = some (.int .i64 v)) → C w') ∧ (∀ u u', C u → IsGr u u' → C u') ∧ (∀ w', C w' → (w'.cell? ⟨g, k * 2, none⟩ = some (.int .i64 x) ∧ w'.cell? ⟨g, k * 2 + 1, none⟩ = some (.int .i64 y)) ∧ (w'.cell? ⟨g, kp * 2, none⟩ = some (.int .i64 u) ∧ w'.cell? ⟨g, kp * 2 + 1, none⟩ = some (.int .i64 v))) ∧ (∀ w', C w' → IsGr W2 w') := by
                refine ⟨fun w' => W2.heap.size ≤ w'.heap.size ∧ IsGr W2 w' ∧ (w'.cell? ⟨g, k * 2, none⟩ = some (.int .i64 x) ∧ w'.cell? ⟨g, k * 2 + 1, none⟩ = some (.int .i64 y)) ∧ (w'.cell? ⟨g, kp * 2, none⟩ = some (.int .i64 u) ∧ w'.cell? ⟨g, kp * 2 + 1, none⟩ = some (.int .i64 v)), fun w' h => h, ?_, fun w' h => h.2.2, fun w' h => h.2.1⟩
                rintro u u' ⟨h0, h1, h2⟩ hg
                exact ⟨Nat.le_trans h0 hg.size, h1.trans hg, ⟨hg.cell_at (by omega) h2.1.1, hg.cell_at (by omega) h2.1.2⟩, ⟨hg.cell_at (by omega) h2.2.1, hg.cell_at (by omega) h2.2.2⟩⟩
              refine wp_region_quietV C (by kernel_rfl) (by kernel_rfl) (hin _ ⟨by simp, (by with_reducible repeat (first | exact IsGr.refl _ | refine IsGr.gr ?_ _ _ | refine IsGr.alloc ?_ _ | refine IsGr.drew ?_ | refine IsGr.drewN ?_ _)), ⟨ca, cb⟩⟩) (fun K HK => ?_)
              refine QK.take HK ?_ (by rfl) ?_ ?_
              rotate_left
              · (intro w hw; (try have hcs := hcells w hw); (try go_split_ands); go_simp <;> with_reducible rfl)
              (try simp only [Act.put, qA, qB, qC])
              refine QK.take HK ?_ (by rfl) ?_ ?_
              rotate_left
              · (intro w hw; (try have hcs := hcells w hw); (try go_split_ands); go_simp <;> with_reducible rfl)
              (try simp only [Act.put, qA, qB, qC])
              refine QK.take HK ?_ (by rfl) ?_ ?_
              rotate_left
              · (intro w hw; (try have hcs := hcells w hw); (try go_split_ands); go_simp <;> with_reducible rfl)
              (try simp only [Act.put, qA, qB, qC])
              refine QK.take HK ?_ (by rfl) ?_ ?_
              rotate_left
              · (intro w hw; (try have hcs := hcells w hw); (try go_split_ands); go_simp <;> with_reducible rfl)
              (try simp only [Act.put, qA, qB, qC])
              refine QK.take HK ?_ (by rfl) ?_ ?_
              rotate_left
              · (intro w hw; (try have hcs := hcells w hw); (try go_split_ands); go_simp <;> with_reducible rfl)
              (try simp only [Act.put, qA, qB, qC])
              refine QK.take HK ?_ (by rfl) ?_ ?_
              rotate_left
              · (intro w hw; (try have hcs := hcells w hw); (try go_split_ands); go_simp <;> with_reducible rfl)
              (try simp only [Act.put, qA, qB, qC])
              refine QK.take HK ?_ (by rfl) ?_ ?_
              rotate_left
              · (intro w hw; (try have hcs := hcells w hw); (try go_split_ands); go_simp <;> with_reducible rfl)
              (try simp only [Act.put, qA, qB, qC])
              refine QK.take HK ?_ (by rfl) ?_ ?_
              rotate_left
              · (intro w hw; (try have hcs := hcells w hw); (try go_split_ands); go_simp <;> with_reducible rfl)
              (try simp only [Act.put, qA, qB, qC])
              refine QK.take HK ?_ (by rfl) ?_ ?_
              rotate_left
              · (intro w hw; (try have hcs := hcells w hw); (try go_split_ands); go_simp <;> with_reducible rfl)
              (try simp only [Act.put, qA, qB, qC])
              refine QK.take HK ?_ (by rfl) ?_ ?_
              rotate_left
              · (intro w hw; (try have hcs := hcells w hw); (try go_split_ands); go_simp <;> with_reducible rfl)
              (try simp only [Act.put, qA, qB, qC])
              refine QK.nil HK ?_
              clear HK K
              intro wq hq
              have hg9 := hgr wq hq
              clear hcells hin hcl hgr hq
              go_wp2
              go_meet
              case rel => exact ⟨by first | rfl | simp, hg9⟩
          · have y1 : (x == u) = false := by simp [h1]
            obtain rfl : D = false := by rw [hD]; simp [h1]
            clear h1 hD
            obtain ⟨C, hin, hcl, hcells, hgr⟩ : ∃ C : World → Prop, (∀ w', W2.heap.size ≤ w'.heap.size ∧ IsGr W2 w' ∧ (w'.cell? ⟨g, k * 2, none⟩ = some (.int .i64 x) ∧ w'.cell? ⟨g, k * 2 + 1, none⟩ = some (.int .i64 y)) ∧ (w'.cell? ⟨g, kp * 2, none⟩ = some (.int .i64 u) ∧ w'.cell? ⟨g, kp * 2 + 1, none⟩ = some (.int .i64 v)) → C w') ∧ (∀ u u', C u → IsGr u u' → C u') ∧ (∀ w', C w' → (w'.cell? ⟨g, k * 2, none⟩ = some (.int .i64 x) ∧ w'.cell? ⟨g, k * 2 + 1, none⟩ = some (.int .i64 y)) ∧ (w'.cell? ⟨g, kp * 2, none⟩ = some (.int .i64 u) ∧ w'.cell? ⟨g, kp * 2 + 1, none⟩ = some (.int .i64 v))) ∧ (∀ w', C w' → IsGr W2 w') := by
              refine ⟨fun w' => W2.heap.size ≤ w'.heap.size ∧ IsGr W2 w' ∧ (w'.cell? ⟨g, k * 2, none⟩ = some (.int .i64 x) ∧ w'.cell? ⟨g, k * 2 + 1, none⟩ = some (.int .i64 y)) ∧ (w'.cell? ⟨g, kp * 2, none⟩ = some (.int .i64 u) ∧ w'.cell? ⟨g, kp * 2 + 1, none⟩ = some (.int .i64 v)), fun w' h => h, ?_, fun w' h => h.2.2, fun w' h => h.2.1⟩
              rintro u u' ⟨h0, h1, h2⟩ hg
              exact ⟨Nat.le_trans h0 hg.size, h1.trans hg, ⟨hg.cell_at (by omega) h2.1.1, hg.cell_at (by omega) h2.1.2⟩, ⟨hg.cell_at (by omega) h2.2.1, hg.cell_at (by omega) h2.2.2⟩⟩
            refine wp_region_quietV C (by kernel_rfl) (by kernel_rfl) (hin _ ⟨by simp, (by with_reducible repeat (first | exact IsGr.refl _ | refine IsGr.gr ?_ _ _ | refine IsGr.alloc ?_ _ | refine IsGr.drew ?_ | refine IsGr.drewN ?_ _)), ⟨ca, cb⟩⟩) (fun K HK => ?_)
            refine QK.take HK ?_ (by rfl) ?_ ?_
            rotate_left
            · (intro w hw; (try have hcs := hcells w hw); (try go_split_ands); go_simp <;> with_reducible rfl)
            (try simp only [Act.put, qA, qB, qC])
            refine QK.take HK ?_ (by rfl) ?_ ?_
            rotate_left
            · (intro w hw; (try have hcs := hcells w hw); (try go_split_ands); go_simp <;> with_reducible rfl)
            (try simp only [Act.put, qA, qB, qC])
            refine QK.take HK ?_ (by rfl) ?_ ?_
            rotate_left
            · (intro w hw; (try have hcs := hcells w hw); (try go_split_ands); go_simp <;> with_reducible rfl)
            (try simp only [Act.put, qA, qB, qC])
            refine QK.take HK ?_ (by rfl) ?_ ?_
            rotate_left
            · (intro w hw; (try have hcs := hcells w hw); (try go_split_ands); go_simp <;> with_reducible rfl)
            (try simp only [Act.put, qA, qB, qC])
            refine QK.take HK ?_ (by rfl) ?_ ?_
            rotate_left
            · (intro w hw; (try have hcs := hcells w hw); (try go_split_ands); go_simp <;> with_reducible rfl)
            (try simp only [Act.put, qA, qB, qC])
            refine QK.take HK ?_ (by rfl) ?_ ?_
            rotate_left
            · (intro w hw; (try have hcs := hcells w hw); (try go_split_ands); go_simp <;> with_reducible rfl)
            (try simp only [Act.put, qA, qB, qC])
            refine QK.take HK ?_ (by rfl) ?_ ?_
            rotate_left
            · (intro w hw; (try have hcs := hcells w hw); (try go_split_ands); go_simp <;> with_reducible rfl)
            (try simp only [Act.put, qA, qB, qC])
            refine QK.take HK ?_ (by rfl) ?_ ?_
            rotate_left
            · (intro w hw; (try have hcs := hcells w hw); (try go_split_ands); go_simp <;> with_reducible rfl)
            (try simp only [Act.put, qA, qB, qC])
            refine QK.take HK ?_ (by rfl) ?_ ?_
            rotate_left
            · (intro w hw; (try have hcs := hcells w hw); (try go_split_ands); go_simp <;> with_reducible rfl)
            (try simp only [Act.put, qA, qB, qC])
            refine QK.take HK ?_ (by rfl) ?_ ?_
            rotate_left
            · (intro w hw; (try have hcs := hcells w hw); (try go_split_ands); go_simp <;> with_reducible rfl)
            (try simp only [Act.put, qA, qB, qC])
            refine QK.nil HK ?_
            clear HK K
            intro wq hq
            have hg9 := hgr wq hq
            clear hcells hin hcl hgr hq
            go_wp2
            go_meet
            case rel => exact ⟨by first | rfl | simp, hg9⟩
        case rest =>
          obtain ⟨rfl, hgr⟩ := hcut
          obtain ⟨W3, hW9⟩ : ∃ W3, W3 = wc := ⟨_, rfl⟩
          subst hW9
          replace HG : Hid (IsGr w W3) := HG.out.trans hgr
          replace kg : g < W3.heap.size := by have := hgr.size; omega
          clear hgr ca cb hD
          cases D
          · have HT : Hid ((d.take (k + 1)).Pairwise (ltP 1)) := by
              refine HF.out.2.1 (HF.out.1.resolve_right (fun e => ?_))
              have := HD.out
              injection e with e1 e2
              subst e1 e2
              simp at this
            clear HF HD HP
            go_wp2
            go_roundw
            case rel => exact ⟨k + 1, by omega, by omega, by go_num, HT, HG.out⟩
            case measure => simp [intOf]; omega
          · have HC : Hid (CompI d (k + 1) k d) := by
              refine HF.out.2.2 ?_
              have := HD.out
              simp at this
              rw [this.1, this.2]
            have HB : Hid (∀ B, B ≤ g → RowKit.Below B w W3) := fun B hB => HG.out.below.mono (by omega)
            have HR3 : Hid (RowH W3 g n c d) := HR.out.gr HG.out
            clear HF HD HP HR Hkp vk hkp'
            go_wp2
            go_loopw [3, 5] (fun t3 t5 wr => ∃ (kk k2 : Nat) (e' : List (Int × Int)), t3 = .int .i64 kk ∧ t5 = .int .i64 k2 ∧ 1 ≤ k2 ∧ k + k2 ≤ n ∧ Hid (CompI d (k + k2) kk e') ∧ Hid (RowH wr g n c e') ∧ Hid (∀ B, B ≤ g → RowKit.Below B w wr)) (fun _ t5 _ => (n - intOf t5).toNat)
            case atStart =>
              refine ⟨k, 1, d, rfl, rfl, Nat.le_refl _, by omega, HC, ?_, fun B hB => (HB.out B hB).trans ((show IsGr W3 _ from (by with_reducible repeat (first | exact IsGr.refl _ | refine IsGr.gr ?_ _ _ | refine IsGr.alloc ?_ _ | refine IsGr.drew ?_ | refine IsGr.drewN ?_ _))).below.mono (by omega))⟩
              exact HR3.out.gr (by with_reducible repeat (first | exact IsGr.refl _ | refine IsGr.gr ?_ _ _ | refine IsGr.alloc ?_ _ | refine IsGr.drew ?_ | refine IsGr.drewN ?_ _))
            case round =>
              obtain ⟨kk, k2, e', rfl, rfl, h1, hle, HI, HW, HBw⟩ := hrel
              obtain ⟨W4, hW4⟩ : ∃ W4, W4 = wr := ⟨_, rfl⟩
              subst hW4
              have kg4 : g < W4.heap.size := HW.out.2.2.2.1
              have hkk : 1 ≤ kk ∧ kk < k + k2 := ⟨HI.out.1.1, HI.out.1.2.1⟩
              obtain ⟨hkk1, hkk2⟩ := hkk
              clear HC HB HR3 HG
              by_cases hlt : k + k2 < n
              · obtain ⟨kp, hkp⟩ : ∃ kp, kp = k2 - 1 := ⟨_, rfl⟩
                have hdl := HL.out
                have ca := (HW.out.cell hlt).1
                have cb := (HW.out.cell (show k + kp < n by omega)).1
                have cs := HW.out.cell (show kk < n by omega)
                have e1 := HI.out.2.2.1 (k + k2) (by omega)
                have e2 := HI.out.2.2.1 (k + kp) (by omega)
                have HNx := sorted_next HS.out (by omega : 1 ≤ k + k2) (by omega : k + k2 < d.length)
                have HK := fun hl => HI.out.keep (by omega) hl
                have HSk := fun he => HI.out.skip (by omega) he
                rw [show k + k2 - 1 = k + kp by omega] at HNx HK HSk
                rw [e1, show (k + k2) * 2 = k * 2 + k2 * 2 by omega] at ca
                rw [e2, show (k + kp) * 2 = k * 2 + kp * 2 by omega] at cb
                obtain ⟨x, y, ex⟩ : ∃ x y, d.getD (k + k2) (0, 0) = (x, y) := ⟨_, _, rfl⟩
                obtain ⟨u, v, eu⟩ : ∃ u v, d.getD (k + kp) (0, 0) = (u, v) := ⟨_, _, rfl⟩
                rw [ex] at ca HNx HK HSk
                rw [eu] at cb HNx HK HSk
                have h5 : (k2 : Int) < ((n - k : Nat) : Int) := by omega
                have h5' : k2 < n - k := by omega
                have h6 : (kp : Int) < ((n - k : Nat) : Int) := by omega
                have h6' : kp < n - k := by omega
                have h7 : (kk : Int) < n := by omega
                have vk2 : IntKind.i64.wrap ((k2 : Int) - 1) = (kp : Int) := by rw [IntKind.wrap_i64]; omega
                have vk3 : IntKind.i64.wrap ((k2 : Int) + 1) = (k2 : Int) + 1 := by rw [IntKind.wrap_i64]; omega
                have vk4 : IntKind.i64.wrap ((kk : Int) + 1) = (kk : Int) + 1 := by rw [IntKind.wrap_i64]; omega
                obtain ⟨D, hD⟩ : ∃ D : Bool, D = (x == u && y == v) := ⟨_, rfl⟩
                have HD : Hid (D = (x == u && y == v)) := hD
                have HF : Hid ((ltP 1 (u, v) (x, y) ∨ (u, v) = (x, y)) ∧ (ltP 1 (u, v) (x, y) → CompI d (k + k2 + 1) (kk + 1) (e'.set kk (x, y))) ∧ ((x, y) = (u, v) → CompI d (k + k2 + 1) kk e')) := ⟨HNx, HK, HSk⟩
                have Hkp : Hid (kp = k2 - 1) := hkp
                have HCs : Hid ((W4.cell? ⟨g, kk * 2, none⟩ = some (.int .i64 (e'.getD kk (0, 0)).1) ∧ W4.cell? ⟨g, kk * 2 + 1, none⟩ = some (.int .i64 (e'.getD kk (0, 0)).2)) ∧ W4.frozen? ⟨g, kk * 2, none⟩ = false ∧ W4.frozen? ⟨g, kk * 2 + 1, none⟩ = false) := cs
                clear HNx HK HSk hkp ex eu hdl e1 e2 cs
                go_upto_region 11 with fail
                go_cut [44] from 29 to 53 (fun t44 wx => t44 = .bool (!D) ∧ IsGr W4 wx)
                case first =>
                  clear HD HF Hkp HI HW HBw HCs
                  by_cases h1 : x = u
                  · have y1 : (x == u) = true := by simp [h1]
                    by_cases h2 : y = v
                    · have y2 : (y == v) = true := by simp [h2]
                      obtain rfl : D = true := by rw [hD]; simp [h1, h2]
                      clear h1 h2 hD
                      obtain ⟨C, hin, hcl, hcells, hgr⟩ : ∃ C : World → Prop, (∀ w', W4.heap.size ≤ w'.heap.size ∧ IsGr W4 w' ∧ (w'.cell? ⟨g, k * 2 + k2 * 2, none⟩ = some (.int .i64 x) ∧ w'.cell? ⟨g, k * 2 + k2 * 2 + 1, none⟩ = some (.int .i64 y)) ∧ (w'.cell? ⟨g, k * 2 + kp * 2, none⟩ = some (.int .i64 u) ∧ w'.cell? ⟨g, k * 2 + kp * 2 + 1, none⟩ = some (.int .i64 v)) → C w') ∧ (∀ u u', C u → IsGr u u' → C u') ∧ (∀ w', C w' → (w'.cell? ⟨g, k * 2 + k2 * 2, none⟩ = some (.int .i64 x) ∧ w'.cell? ⟨g, k * 2 + k2 * 2 + 1, none⟩ = some (.int .i64 y)) ∧ (w'.cell? ⟨g, k * 2 + kp * 2, none⟩ = some (.int .i64 u) ∧ w'.cell? ⟨g, k * 2 + kp * 2 + 1, none⟩ = some (.int .i64 v))) ∧ (∀ w', C w' → IsGr W4 w') := by
                        refine ⟨fun w' => W4.heap.size ≤ w'.heap.size ∧ IsGr W4 w' ∧ (w'.cell? ⟨g, k * 2 + k2 * 2, none⟩ = some (.int .i64 x) ∧ w'.cell? ⟨g, k * 2 + k2 * 2 + 1, none⟩ = some (.int .i64 y)) ∧ (w'.cell? ⟨g, k * 2 + kp * 2, none⟩ = some (.int .i64 u) ∧ w'.cell? ⟨g, k * 2 + kp * 2 + 1, none⟩ = some (.int .i64 v)), fun w' h => h, ?_, fun w' h => h.2.2, fun w' h => h.2.1⟩
                        rintro u u' ⟨h0, h1, h2⟩ hg
                        exact ⟨Nat.le_trans h0 hg.size, h1.trans hg, ⟨hg.cell_at (by omega) h2.1.1, hg.cell_at (by omega) h2.1.2⟩, ⟨hg.cell_at (by omega) h2.2.1, hg.cell_at (by omega) h2.2.2⟩⟩
                      refine wp_region_quietV C (by kernel_rfl) (by kernel_rfl) (hin _ ⟨by simp, (by with_reducible repeat (first | exact IsGr.refl _ | refine IsGr.gr ?_ _ _ | refine IsGr.alloc ?_ _ | refine IsGr.drew ?_ | refine IsGr.drewN ?_ _)), ⟨ca, cb⟩⟩) (fun K HK => ?_)
                      refine QK.take HK ?_ (by rfl) ?_ ?_
                      rotate_left
                      · (intro w hw; (try have hcs := hcells w hw); (try go_split_ands); go_simp <;> with_reducible rfl)
                      (try simp only [Act.put, qA, qB, qC])
                      refine QK.take HK ?_ (by rfl) ?_ ?_
                      rotate_left
                      · (intro w hw; (try have hcs := hcells w hw); (try go_split_ands); go_simp <;> with_reducible rfl)
                      (try simp only [Act.put, qA, qB, qC])
                      refine QK.take HK ?_ (by rfl) ?_ ?_
                      rotate_left
                      · (intro w hw; (try have hcs := hcells w hw); (try go_split_ands); go_simp <;> with_reducible rfl)
                      (try simp only [Act.put, qA, qB, qC])
                      refine QK.take HK ?_ (by rfl) ?_ ?_
                      rotate_left
                      · (intro w hw; (try have hcs := hcells w hw); (try go_split_ands); go_simp <;> with_reducible rfl)
                      (try simp only [Act.put, qA, qB, qC])
                      refine QK.take HK ?_ (by rfl) ?_ ?_
                      rotate_left
                      · (intro w hw; (try have hcs := hcells w hw); (try go_split_ands); go_simp <;> with_reducible rfl)
                      (try simp only [Act.put, qA, qB, qC])
                      refine QK.take HK ?_ (by rfl) ?_ ?_
                      rotate_left
                      · (intro w hw; (try have hcs := hcells w hw); (try go_split_ands); go_simp <;> with_reducible rfl)
                      (try simp only [Act.put, qA, qB, qC])
                      refine QK.take HK ?_ (by rfl) ?_ ?_
                      rotate_left
                      · (intro w hw; (try have hcs := hcells w hw); (try go_split_ands); go_simp <;> with_reducible rfl)
                      (try simp only [Act.put, qA, qB, qC])
                      refine QK.take HK ?_ (by rfl) ?_ ?_
                      rotate_left
                      · (intro w hw; (try have hcs := hcells w hw); (try go_split_ands); go_simp <;> with_reducible rfl)
                      (try simp only [Act.put, qA, qB, qC])
                      refine QK.take HK ?_ (by rfl) ?_ ?_
                      rotate_left
                      · (intro w hw; (try have hcs := hcells w hw); (try go_split_ands); go_simp <;> with_reducible rfl)
                      (try simp only [Act.put, qA, qB, qC])
                      refine QK.take HK ?_ (by rfl) ?_ ?_
                      rotate_left
                      · (intro w hw; (try have hcs := hcells w hw); (try go_split_ands); go_simp <;> with_reducible rfl)
                      (try simp only [Act.put, qA, qB, qC])
                      refine QK.nil HK ?_
                      clear HK K
                      intro wq hq
                      have hg9 := hgr wq hq
                      clear hcells hin hcl hgr hq
                      go_wp2
                      go_meet
                      case rel => exact ⟨by first | rfl | simp, hg9⟩
                    · have y2 : (y == v) = false := by simp [h2]
                      obtain rfl : D = false := by rw [hD]; simp [h2]
                      clear h1 h2 hD
                      obtain ⟨C, hin, hcl, hcells, hgr⟩ : ∃ C : World → Prop, (∀ w', W4.heap.size ≤ w'.heap.size ∧ IsGr W4 w' ∧ (w'.cell? ⟨g, k * 2 + k2 * 2, none⟩ = some (.int .i64 x) ∧ w'.cell? ⟨g, k * 2 + k2 * 2 + 1, none⟩ = some (.int .i64 y)) ∧ (w'.cell? ⟨g, k * 2 + kp * 2, none⟩ = some (.int .i64 u) ∧ w'.cell? ⟨g, k * 2 + kp * 2 + 1, none⟩ = some (.int .i64 v)) → C w') ∧ (∀ u u', C u → IsGr u u' → C u') ∧ (∀ w', C w' → (w'.cell? ⟨g, k * 2 + k2 * 2, none⟩ = some (.int .i64 x) ∧ w'.cell? ⟨g, k * 2 + k2 * 2 + 1, none⟩ = some (.int .i64 y)) ∧ (w'.cell? ⟨g, k * 2 + kp * 2, none⟩ = some (.int .i64 u) ∧ w'.cell? ⟨g, k * 2 + kp * 2 + 1, none⟩ = some (.int .i64 v))) ∧ (∀ w', C w' → IsGr W4 w') := by
                        refine ⟨fun w' => W4.heap.size ≤ w'.heap.size ∧ IsGr W4 w' ∧ (w'.cell? ⟨g, k * 2 + k2 * 2, none⟩ = some (.int .i64 x) ∧ w'.cell? ⟨g, k * 2 + k2 * 2 + 1, none⟩ = some (.int .i64 y)) ∧ (w'.cell? ⟨g, k * 2 + kp * 2, none⟩ = some (.int .i64 u) ∧ w'.cell? ⟨g, k * 2 + kp * 2 + 1, none⟩ = some (.int .i64 v)), fun w' h => h, ?_, fun w' h => h.2.2, fun w' h => h.2.1⟩
                        rintro u u' ⟨h0, h1, h2⟩ hg
                        exact ⟨Nat.le_trans h0 hg.size, h1.trans hg, ⟨hg.cell_at (by omega) h2.1.1, hg.cell_at (by omega) h2.1.2⟩, ⟨hg.cell_at (by omega) h2.2.1, hg.cell_at (by omega) h2.2.2⟩⟩
                      refine wp_region_quietV C (by kernel_rfl) (by kernel_rfl) (hin _ ⟨by simp, (by with_reducible repeat (first | exact IsGr.refl _ | refine IsGr.gr ?_ _ _ | refine IsGr.alloc ?_ _ | refine IsGr.drew ?_ | refine IsGr.drewN ?_ _)), ⟨ca, cb⟩⟩) (fun K HK => ?_)
                      refine QK.take HK ?_ (by rfl) ?_ ?_
                      rotate_left
                      · (intro w hw; (try have hcs := hcells w hw); (try go_split_ands); go_simp <;> with_reducible rfl)
                      (try simp only [Act.put, qA, qB, qC])
                      refine QK.take HK ?_ (by rfl) ?_ ?_
                      rotate_left
                      · (intro w hw; (try have hcs := hcells w hw); (try go_split_ands); go_simp <;> with_reducible rfl)
                      (try simp only [Act.put, qA, qB, qC])
                      refine QK.take HK ?_ (by rfl) ?_ ?_
                      rotate_left
                      · (intro w hw; (try have hcs := hcells w hw); (try go_split_ands); go_simp <;> with_reducible rfl)
                      (try simp only [Act.put, qA, qB, qC])
                      refine QK.take HK ?_ (by rfl) ?_ ?_
                      rotate_left
                      · (intro w hw; (try have hcs := hcells w hw); (try go_split_ands); go_simp <;> with_reducible rfl)
                      (try simp only [Act.put, qA, qB, qC])
                      refine QK.take HK ?_ (by rfl) ?_ ?_
                      rotate_left
                      · (intro w hw; (try have hcs := hcells w hw); (try go_split_ands); go_simp <;> with_reducible rfl)
                      (try simp only [Act.put, qA, qB, qC])
                      refine QK.take HK ?_ (by rfl) ?_ ?_
                      rotate_left
                      · (intro w hw; (try have hcs := hcells w hw); (try go_split_ands); go_simp <;> with_reducible rfl)
                      (try simp only [Act.put, qA, qB, qC])
                      refine QK.take HK ?_ (by rfl) ?_ ?_
                      rotate_left
                      · (intro w hw; (try have hcs := hcells w hw); (try go_split_ands); go_simp <;> with_reducible rfl)
                      (try simp only [Act.put, qA, qB, qC])
                      refine QK.take HK ?_ (by rfl) ?_ ?_
                      rotate_left
                      · (intro w hw; (try have hcs := hcells w hw); (try go_split_ands); go_simp <;> with_reducible rfl)
                      (try simp only [Act.put, qA, qB, qC])
                      refine QK.take HK ?_ (by rfl) ?_ ?_
                      rotate_left
                      · (intro w hw; (try have hcs := hcells w hw); (try go_split_ands); go_simp <;> with_reducible rfl)
                      (try simp only [Act.put, qA, qB, qC])
                      refine QK.take HK ?_ (by rfl) ?_ ?_
                      rotate_left
                      · (intro w hw; (try have hcs := hcells w hw); (try go_split_ands); go_simp <;> with_reducible rfl)
                      (try simp only [Act.put, qA, qB, qC])
                      refine QK.nil HK ?_
                      clear HK K
                      intro wq hq
                      have hg9 := hgr wq hq
                      clear hcells hin hcl hgr hq
                      go_wp2
                      go_meet
                      case rel => exact ⟨by first | rfl | simp, hg9⟩
                  · have y1 : (x == u) = false := by simp [h1]
                    obtain rfl : D = false := by rw [hD]; simp [h1]
                    clear h1 hD
                    obtain ⟨C, hin, hcl, hcells, hgr⟩ : ∃ C : World → Prop, (∀ w', W4.heap.size ≤ w'.heap.size ∧ IsGr W4 w' ∧ (w'.cell? ⟨g, k * 2 + k2 * 2, none⟩ = some (.int .i64 x) ∧ w'.cell? ⟨g, k * 2 + k2 * 2 + 1, none⟩ = some (.int .i64 y)) ∧ (w'.cell? ⟨g, k * 2 + kp * 2, none⟩ = some (.int .i64 u) ∧ w'.cell? ⟨g, k * 2 + kp * 2 + 1, none⟩ = some (.int .i64 v)) → C w') ∧ (∀ u u', C u → IsGr u u' → C u') ∧ (∀ w', C w' → (w'.cell? ⟨g, k * 2 + k2 * 2, none⟩ = some (.int .i64 x) ∧ w'.cell? ⟨g, k * 2 + k2 * 2 + 1, none⟩ = some (.int .i64 y)) ∧ (w'.cell? ⟨g, k * 2 + kp * 2, none⟩ = some (.int .i64 u) ∧ w'.cell? ⟨g, k * 2 + kp * 2 + 1, none⟩ = some (.int .i64 v))) ∧ (∀ w', C w' → IsGr W4 w') := by
                      refine ⟨fun w' => W4.heap.size ≤ w'.heap.size ∧ IsGr W4 w' ∧ (w'.cell? ⟨g, k * 2 + k2 * 2, none⟩ = some (.int .i64 x) ∧ w'.cell? ⟨g, k * 2 + k2 * 2 + 1, none⟩ = some (.int .i64 y)) ∧ (w'.cell? ⟨g, k * 2 + kp * 2, none⟩ = some (.int .i64 u) ∧ w'.cell? ⟨g, k * 2 + kp * 2 + 1, none⟩ = some (.int .i64 v)), fun w' h => h, ?_, fun w' h => h.2.2, fun w' h => h.2.1⟩
                      rintro u u' ⟨h0, h1, h2⟩ hg
                      exact ⟨Nat.le_trans h0 hg.size, h1.trans hg, ⟨hg.cell_at (by omega) h2.1.1, hg.cell_at (by omega) h2.1.2⟩, ⟨hg.cell_at (by omega) h2.2.1, hg.cell_at (by omega) h2.2.2⟩⟩
                    refine wp_region_quietV C (by kernel_rfl) (by kernel_rfl) (hin _ ⟨by simp, (by with_reducible repeat (first | exact IsGr.refl _ | refine IsGr.gr ?_ _ _ | refine IsGr.alloc ?_ _ | refine IsGr.drew ?_ | refine IsGr.drewN ?_ _)), ⟨ca, cb⟩⟩) (fun K HK => ?_)
                    refine QK.take HK ?_ (by rfl) ?_ ?_
                    rotate_left
                    · (intro w hw; (try have hcs := hcells w hw); (try go_split_ands); go_simp <;> with_reducible rfl)
                    (try simp only [Act.put, qA, qB, qC])
                    refine QK.take HK ?_ (by rfl) ?_ ?_
                    rotate_left
                    · (intro w hw; (try have hcs := hcells w hw); (try go_split_ands); go_simp <;> with_reducible rfl)
                    (try simp only [Act.put, qA, qB, qC])
                    refine QK.take HK ?_ (by rfl) ?_ ?_
                    rotate_left
                    · (intro w hw; (try have hcs := hcells w hw); (try go_split_ands); go_simp <;> with_reducible rfl)
                    (try simp only [Act.put, qA, qB, qC])
                    refine QK.take HK ?_ (by rfl) ?_ ?_
                    rotate_left
                    · (intro w hw; (try have hcs := hcells w hw); (try go_split_ands); go_simp <;> with_reducible rfl)
                    (try simp only [Act.put, qA, qB, qC])
                    refine QK.take HK ?_ (by rfl) ?_ ?_
                    rotate_left
                    · (intro w hw; (try have hcs := hcells w hw); (try go_split_ands); go_simp <;> with_reducible rfl)
                    (try simp only [Act.put, qA, qB, qC])
                    refine QK.take HK ?_ (by rfl) ?_ ?_
                    rotate_left
                    · (intro w hw; (try have hcs := hcells w hw); (try go_split_ands); go_simp <;> with_reducible rfl)
                    (try simp only [Act.put, qA, qB, qC])
                    refine QK.take HK ?_ (by rfl) ?_ ?_
                    rotate_left
                    · (intro w hw; (try have hcs := hcells w hw); (try go_split_ands); go_simp <;> with_reducible rfl)
                    (try simp only [Act.put, qA, qB, qC])
                    refine QK.take HK ?_ (by rfl) ?_ ?_
                    rotate_left
                    · (intro w hw; (try have hcs := hcells w hw); (try go_split_ands); go_simp <;> with_reducible rfl)
                    (try simp only [Act.put, qA, qB, qC])
                    refine QK.take HK ?_ (by rfl) ?_ ?_
                    rotate_left
                    · (intro w hw; (try have hcs := hcells w hw); (try go_split_ands); go_simp <;> with_reducible rfl)
                    (try simp only [Act.put, qA, qB, qC])
                    refine QK.take HK ?_ (by rfl) ?_ ?_
                    rotate_left
                    · (intro w hw; (try have hcs := hcells w hw); (try go_split_ands); go_simp <;> with_reducible rfl)
                    (try simp only [Act.put, qA, qB, qC])
                    refine QK.nil HK ?_
                    clear HK K
                    intro wq hq
                    have hg9 := hgr wq hq
                    clear hcells hin hcl hgr hq
                    go_wp2
                    go_meet
                    case rel => exact ⟨by first | rfl | simp, hg9⟩
                case rest =>
                  obtain ⟨rfl, hgr⟩ := hcut
                  obtain ⟨W5, hW9⟩ : ∃ W5, W5 = wc := ⟨_, rfl⟩
                  subst hW9
                  replace HW : Hid (RowH W5 g n c e') := HW.out.gr hgr
                  replace HBw : Hid (∀ B, B ≤ g → RowKit.Below B w W5) := fun B hB => (HBw.out B hB).trans (hgr.below.mono (by omega))
                  replace HCs := (⟨⟨hgr.cell_at kg4 HCs.out.1.1, hgr.cell_at kg4 HCs.out.1.2⟩, hgr.frozen_at kg4 HCs.out.2.1, hgr.frozen_at kg4 HCs.out.2.2⟩ : Hid ((W5.cell? ⟨g, kk * 2, none⟩ = some (.int .i64 (e'.getD kk (0, 0)).1) ∧ W5.cell? ⟨g, kk * 2 + 1, none⟩ = some (.int .i64 (e'.getD kk (0, 0)).2)) ∧ W5.frozen? ⟨g, kk * 2, none⟩ = false ∧ W5.frozen? ⟨g, kk * 2 + 1, none⟩ = false))
                  replace ca := And.intro (hgr.cell_at kg4 ca.1) (hgr.cell_at kg4 ca.2)
                  have kg5 : g < W5.heap.size := by have := hgr.size; omega
                  clear hgr cb hD
                  cases D
                  · have HC : Hid (CompI d (k + (k2 + 1)) (kk + 1) (e'.set kk (x, y))) := by
                      have := HF.out.2.1 (HF.out.1.resolve_right (fun e => ?_))
                      · exact this
                      have := HD.out
                      injection e with e1 e2
                      subst e1 e2
                      simp at this
                    have HW6 : Hid (RowH ((W5.setCell ⟨g, kk * 2, none⟩ (.int .i64 x)).setCell ⟨g, kk * 2 + 1, none⟩ (.int .i64 y)) g n c (e'.set kk (x, y))) := HW.out.set (by omega) x y
                    have HB6 : Hid (∀ B, B ≤ g → RowKit.Below B w ((W5.setCell ⟨g, kk * 2, none⟩ (.int .i64 x)).setCell ⟨g, kk * 2 + 1, none⟩ (.int .i64 y))) := fun B hB => RowKit.Below.setCell (RowKit.Below.setCell (HBw.out B hB) (by simpa using hB) _) (by simpa using hB) _
                    obtain ⟨⟨s1, s2⟩, s3, s4⟩ := HCs
                    obtain ⟨c1, c2⟩ := ca
                    clear HF HD HI HW HBw
                    go_wp2
                    go_roundw
                    case rel => exact ⟨kk + 1, k2 + 1, e'.set kk (x, y), by go_num, by go_num, by omega, by omega, HC, HW6.out.gr (by with_reducible repeat (first | exact IsGr.refl _ | refine IsGr.gr ?_ _ _ | refine IsGr.alloc ?_ _ | refine IsGr.drew ?_ | refine IsGr.drewN ?_ _)), fun B hB => (HB6.out B hB).trans ((show IsGr _ _ from (by with_reducible repeat (first | exact IsGr.refl _ | refine IsGr.gr ?_ _ _ | refine IsGr.alloc ?_ _ | refine IsGr.drew ?_ | refine IsGr.drewN ?_ _))).below.mono (by simp; omega))⟩
                    case measure => simp [intOf]; omega
                  · have HC : Hid (CompI d (k + (k2 + 1)) kk e') := by
                      refine HF.out.2.2 ?_
                      have := HD.out
                      simp at this
                      rw [this.1, this.2]
                    clear HF HD HI HCs ca
                    go_wp2
                    go_roundw
                    case rel => exact ⟨kk, k2 + 1, e', rfl, by go_num, by omega, by omega, HC, HW.out, HBw.out⟩
                    case measure => simp [intOf]; omega
              · have hend : k + k2 = n := by omega
                have hkn2 : kk ≤ n := by omega
                have hkc : (kk : Int) ≤ (n : Int) := by omega
                have hkc2 : (kk : Int) ≤ (c : Int) := by omega
                have hcl := fun ty => run_clear_pts W4 ty g (kk * 2) (n - kk) (c - kk) (by omega) (fun j hj => by
                  have hlt9 : kk + j / 2 < n := by omega
                  have k9 := (HW.out.cell hlt9).1
                  rcases Nat.mod_two_eq_zero_or_one j with hm | hm
                  · rw [show kk * 2 + j = (kk + j / 2) * 2 by omega, k9.1]; rfl
                  · rw [show kk * 2 + j = (kk + j / 2) * 2 + 1 by omega, k9.2]; rfl) (fun j hj => by
                  have hlt9 : kk + j / 2 < n := by omega
                  have k9 := (HW.out.cell hlt9).2
                  rcases Nat.mod_two_eq_zero_or_one j with hm | hm
                  · rw [show kk * 2 + j = (kk + j / 2) * 2 by omega]; exact k9.1
                  · rw [show kk * 2 + j = (kk + j / 2) * 2 + 1 by omega]; exact k9.2)
                have HX := HW.out.cut hkn2 (List.replicate ((n - kk) * 2) (Value.int .i64 0))
                have HX1 : Hid (RowH (W4.setCells g (kk * 2) (List.replicate ((n - kk) * 2) (Value.int .i64 0))) g kk c (e'.take kk)) := HX.1
                have HX2 : Hid (∀ B, B ≤ g → RowKit.Below B w (W4.setCells g (kk * 2) (List.replicate ((n - kk) * 2) (Value.int .i64 0)))) := fun B hB => (HBw.out B hB).trans (HX.2 B hB)
                have HCT : Hid (CompT d (e'.take kk)) := by
                  refine ⟨HI.out.2.2.2.1, fun z => ?_⟩
                  have := HI.out.2.2.2.2.1 z
                  rw [hend] at this
                  rw [this, ← HL.out, List.take_length]
                have h5 : ¬ (k2 : Int) < ((n - k : Nat) : Int) := by omega
                have h5' : ¬ k2 < n - k := by omega
                clear HX HI HW HBw
                go_wp2
                go_ret
                exact ⟨_, rfl, kk, e'.take kk, rfl, HX1.out.gr (by with_reducible repeat (first | exact IsGr.refl _ | refine IsGr.gr ?_ _ _ | refine IsGr.alloc ?_ _ | refine IsGr.drew ?_ | refine IsGr.drewN ?_ _)), HCT.out, hkn2, fun B hB => (HX2.out B hB).trans ((show IsGr (W4.setCells g (kk * 2) (List.replicate ((n - kk) * 2) (Value.int .i64 0))) _ from (by with_reducible repeat (first | exact IsGr.refl _ | refine IsGr.gr ?_ _ _ | refine IsGr.alloc ?_ _ | refine IsGr.drew ?_ | refine IsGr.drewN ?_ _))).below.mono (by have := HX1.out.2.2.2.1; omega))⟩
      · obtain rfl : k = n := by omega
        have HCT : Hid (CompT d d) := by
          have := HP.out
          rw [← HL.out, List.take_length] at this
          exact ⟨this, fun _ => Iff.rfl⟩
        go_wp2
        go_ret
        exact ⟨_, rfl, k, d, rfl, HR.out.gr (HG.out.trans (by with_reducible repeat (first | exact IsGr.refl _ | refine IsGr.gr ?_ _ _ | refine IsGr.alloc ?_ _ | refine IsGr.drew ?_ | refine IsGr.drewN ?_ _))), HCT.out, Nat.le_refl _, fun B hB => (HG.out.trans (by with_reducible repeat (first | exact IsGr.refl _ | refine IsGr.gr ?_ _ _ | refine IsGr.alloc ?_ _ | refine IsGr.drew ?_ | refine IsGr.drewN ?_ _))).below.mono (by omega)⟩
end Go.Proofs.Ytohhlhoijanjfaa
