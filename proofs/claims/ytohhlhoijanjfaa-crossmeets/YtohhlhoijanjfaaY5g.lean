/- Contracts of package gromaref04 over the loaded program: Meet. -/
import Derived.Test.YtohhlhoijanjfaaGU
import Derived.Test.YtohhlhoijanjfaaGA
import Derived.Test.YtohhlhoijanjfaaU7g
import Derived.Test.YtohhlhoijanjfaaU9
namespace Go.Proofs.Ytohhlhoijanjfaa
open Go.RowKit Go.Shelf
attribute [local go_sem] Gr.size Gr.cell? Gr.frozen? Gr.setCell Gr.drew Gr.drewN Gr.of_drew Gr.of_drewN Gr.gr Gr.lt_of1 Gr.le_of1 Gr.lt_of2 Gr.le_of2 Gr.lt_of3 Gr.le_of3 Gr.lt_of4 Gr.le_of4 Gr.lt_of5 Gr.le_of5 Gr.lt_of6 Gr.le_of6 Gr.lt_of7 Gr.le_of7 Gr.lt_of8 Gr.le_of8 Gr.lt_of9 Gr.le_of9 Gr.lt_of10 Gr.le_of10 Gr.lt_of11 Gr.le_of11 Gr.lt_of12 Gr.le_of12 Gr.lt_of13 Gr.le_of13 Gr.lt_of14 Gr.le_of14 Gr.lt_of15 Gr.le_of15 Gr.lt_of16 Gr.le_of16 Gr.lt_of17 Gr.le_of17 Gr.lt_of18 Gr.le_of18 Gr.lt_of19 Gr.le_of19 Gr.lt_of20 Gr.le_of20 Gr.lt_of21 Gr.le_of21 Gr.lt_of22 Gr.le_of22 Gr.lt_of23 Gr.le_of23 Gr.lt_of24 Gr.le_of24

theorem info_pq4 : (Try.prog.info? 27).map (fun i => (i.zero, i.size, i.bytes)) = some (some (.agg #[.int .i64 0, .int .i64 0]), 2, 16) := by kernel_rfl
theorem own_gr4 {w w' : World} {base : Nat} {e : TypeId} {size : Nat} {v : Value} {n : Nat} {xs : List Value} (h : w.ownsRow base e size v n xs) (hg : IsGr w w') : w'.ownsRow base e size v n xs := by
  obtain ⟨os, k, rfl⟩ := hg
  obtain ⟨h1, h2⟩ := h
  refine ⟨h1, ?_⟩
  rcases h2 with h2 | ⟨g, cap, cur, rfl, hB, hb, hr⟩
  · exact Or.inl h2
  · refine Or.inr ⟨g, cap, cur, rfl, hB, ?_, hr⟩
    have hlt : g < w.heap.size := (Array.getElem?_eq_some_iff.1 hb).1
    show (w.heap ++ os)[g]? = _
    rw [Array.getElem?_append_left hlt]
    exact hb

set_option maxRecDepth 20000 in set_option maxHeartbeats 1000000 in
theorem RSMeet_any (a1 a2 b1 b2 c1 c2 d1 d2 : Int) (w : World) :
    Calls Try.prog 21 #[.agg #[.int .i64 a1, .int .i64 a2], .agg #[.int .i64 b1, .int .i64 b2], .agg #[.int .i64 c1, .int .i64 c2], .agg #[.int .i64 d1, .int .i64 d2]] w fun e w' => e = .returned (.int .i64 (refK a1 a2 b1 b2 c1 c2 d1 d2)) ∧ IsGr w w' := by
  obtain ⟨i0, hi, hz0, hz1, hz2⟩ := info_parts info_pq4
  have CF := fun w => refFacing_any a1 a2 b1 b2 c1 c2 d1 d2 w
  obtain ⟨L, hL⟩ : ∃ L, L = ends4 a1 a2 b1 b2 c1 c2 d1 d2 := ⟨_, rfl⟩
  obtain ⟨p, hp⟩ : ∃ p, p = bothP a1 a2 b1 b2 c1 c2 d1 d2 := ⟨_, rfl⟩
  obtain ⟨T, hT⟩ : ∃ T, T = runK p L none := ⟨_, rfl⟩
  have HK : Hid (foundK (facingP a1 a2 b1 b2 c1 c2 d1 d2) T = refK a1 a2 b1 b2 c1 c2 d1 d2) := by unfold Hid; rw [hT, hp, hL]; rfl
  have HP : Hid (∀ x y, p x y = (onP a1 a2 b1 b2 x y && onP c1 c2 d1 d2 x y)) := by unfold Hid; rw [hp]; intro x y; rfl
  have HL : Hid (L = ends4 a1 a2 b1 b2 c1 c2 d1 d2) := hL
  have HT : Hid (runK p L none = T) := hT.symm
  clear hL hp hT
  generalize facingP a1 a2 b1 b2 c1 c2 d1 d2 = f at *
  generalize refK a1 a2 b1 b2 c1 c2 d1 d2 = RK at *
  go_enter Try.func21, Try.ntmps21
  go_wp2
  go_loopw [10, 11] (fun t10 t11 wr => ∃ (k : Nat) (l : List (Int × Int)), k ≤ 4 ∧ t11 = .int .i64 k ∧ l.length ≤ k ∧ Hid (runK p (L.drop k) l.head? = T) ∧ wr.ownsRow (w.heap.size + 5) 27 2 t10 l.length (ptCs l) ∧ (wr.cell? ⟨w.heap.size, 0, none⟩ = some (.int .i64 a1) ∧ wr.cell? ⟨w.heap.size, 1, none⟩ = some (.int .i64 a2)) ∧ (wr.cell? ⟨w.heap.size + 1, 0, none⟩ = some (.int .i64 b1) ∧ wr.cell? ⟨w.heap.size + 1, 1, none⟩ = some (.int .i64 b2)) ∧ (wr.cell? ⟨w.heap.size + 1 + 1, 0, none⟩ = some (.int .i64 c1) ∧ wr.cell? ⟨w.heap.size + 1 + 1, 1, none⟩ = some (.int .i64 c2)) ∧ (wr.cell? ⟨w.heap.size + 1 + 1 + 1, 0, none⟩ = some (.int .i64 d1) ∧ wr.cell? ⟨w.heap.size + 1 + 1 + 1, 1, none⟩ = some (.int .i64 d2)) ∧ (wr.cell? ⟨w.heap.size + 1 + 1 + 1 + 1, 0, none⟩ = some (.int .i64 a1) ∧ wr.cell? ⟨w.heap.size + 1 + 1 + 1 + 1, 1, none⟩ = some (.int .i64 a2) ∧ wr.cell? ⟨w.heap.size + 1 + 1 + 1 + 1, 2, none⟩ = some (.int .i64 b1) ∧ wr.cell? ⟨w.heap.size + 1 + 1 + 1 + 1, 3, none⟩ = some (.int .i64 b2) ∧ wr.cell? ⟨w.heap.size + 1 + 1 + 1 + 1, 4, none⟩ = some (.int .i64 c1) ∧ wr.cell? ⟨w.heap.size + 1 + 1 + 1 + 1, 5, none⟩ = some (.int .i64 c2) ∧ wr.cell? ⟨w.heap.size + 1 + 1 + 1 + 1, 6, none⟩ = some (.int .i64 d1) ∧ wr.cell? ⟨w.heap.size + 1 + 1 + 1 + 1, 7, none⟩ = some (.int .i64 d2)) ∧ Hid (w.heap.size + 5 ≤ wr.heap.size ∧ Below w.heap.size w wr)) (fun _ t11 _ => (4 - intOf t11).toNat)
  case atStart =>
    refine ⟨0, [], by omega, rfl, by simp, HT, World.ownsRow_nil _ _ _ _, ?_, ?_, ?_, ?_, ?_, ⟨?_, ?_⟩⟩
    · simp [go_sem]
    · simp [go_sem]
    · simp [go_sem]
    · simp [go_sem]
    · simp [go_sem]
    · first | omega | (simp; done) | (simp; omega) | (simp [Gr.size]; done) | (simp [Gr.size]; omega)
    · exact IsGr.below (w := w) (by with_reducible repeat (first | exact IsGr.refl _ | refine IsGr.gr ?_ _ _ | refine IsGr.alloc ?_ _ | refine IsGr.drew ?_ | refine IsGr.drewN ?_ _))
  case round =>
    obtain ⟨k, l, hk, rfl, hlk, HR, hown, qa, qb, qc, qd, q8, HW⟩ := hrel
    obtain ⟨W2, hW2⟩ : ∃ W2, W2 = wr := ⟨_, rfl⟩
    subst hW2
    have ka : w.heap.size + 5 ≤ W2.heap.size := HW.out.1
    have HB : Hid (Below w.heap.size w W2) := HW.out.2
    clear HW HT
    by_cases hk4 : k < 4
    · obtain ⟨x, y, ⟨x1', x2'⟩, HD⟩ : ∃ x y : Int, (W2.cell? ⟨w.heap.size + 1 + 1 + 1 + 1, k * 2, none⟩ = some (.int .i64 x) ∧ W2.cell? ⟨w.heap.size + 1 + 1 + 1 + 1, k * 2 + 1, none⟩ = some (.int .i64 y)) ∧ Hid (L.drop k = (x, y) :: L.drop (k + 1)) := by
        rcases (by omega : k = 0 ∨ k = 1 ∨ k = 2 ∨ k = 3) with rfl | rfl | rfl | rfl
        · exact ⟨a1, a2, ⟨q8.1, q8.2.1⟩, by unfold Hid; rw [HL.out]; rfl⟩
        · exact ⟨b1, b2, ⟨q8.2.2.1, q8.2.2.2.1⟩, by unfold Hid; rw [HL.out]; rfl⟩
        · exact ⟨c1, c2, ⟨q8.2.2.2.2.1, q8.2.2.2.2.2.1⟩, by unfold Hid; rw [HL.out]; rfl⟩
        · exact ⟨d1, d2, ⟨q8.2.2.2.2.2.2.1, q8.2.2.2.2.2.2.2⟩, by unfold Hid; rw [HL.out]; rfl⟩
      have hk' : (k : Int) < 4 := by omega
      have vk : IntKind.i64.wrap ((k : Int) + 1) = (k : Int) + 1 := by rw [IntKind.wrap_i64]; omega
      have N1 := fun w => refOn_any a1 a2 b1 b2 x y w
      have N2 := fun w => refOn_any c1 c2 d1 d2 x y w
      have HPk : Hid (p x y = (onP a1 a2 b1 b2 x y && onP c1 c2 d1 d2 x y)) := HP.out x y
      generalize onP a1 a2 b1 b2 x y = O1 at N1 HPk
      generalize onP c1 c2 d1 d2 x y = O2 at N2 HPk
      clear HP CF HL
      go_upto_region 6 with fail
      go_cut [36] from 17 to 54 (fun t36 wx => t36 = .bool (!(O1 && O2)) ∧ IsGr W2 wx)
      case first => as_aux_lemma =>
        clear HK HR HD HPk hown HB
        obtain ⟨C, hin, hcl, hcells, hgr⟩ : ∃ C : World → Prop, (∀ w', W2.heap.size ≤ w'.heap.size ∧ IsGr W2 w' ∧ (w'.cell? ⟨w.heap.size, 0, none⟩ = some (.int .i64 a1) ∧ w'.cell? ⟨w.heap.size, 1, none⟩ = some (.int .i64 a2)) ∧ (w'.cell? ⟨w.heap.size + 1, 0, none⟩ = some (.int .i64 b1) ∧ w'.cell? ⟨w.heap.size + 1, 1, none⟩ = some (.int .i64 b2)) ∧ (w'.cell? ⟨w.heap.size + 1 + 1, 0, none⟩ = some (.int .i64 c1) ∧ w'.cell? ⟨w.heap.size + 1 + 1, 1, none⟩ = some (.int .i64 c2)) ∧ (w'.cell? ⟨w.heap.size + 1 + 1 + 1, 0, none⟩ = some (.int .i64 d1) ∧ w'.cell? ⟨w.heap.size + 1 + 1 + 1, 1, none⟩ = some (.int .i64 d2)) ∧ (w'.cell? ⟨w.heap.size + 1 + 1 + 1 + 1, k * 2, none⟩ = some (.int .i64 x) ∧ w'.cell? ⟨w.heap.size + 1 + 1 + 1 + 1, k * 2 + 1, none⟩ = some (.int .i64 y)) → C w') ∧ (∀ u u', C u → IsGr u u' → C u') ∧ (∀ w', C w' → (w'.cell? ⟨w.heap.size, 0, none⟩ = some (.int .i64 a1) ∧ w'.cell? ⟨w.heap.size, 1, none⟩ = some (.int .i64 a2)) ∧ (w'.cell? ⟨w.heap.size + 1, 0, none⟩ = some (.int .i64 b1) ∧ w'.cell? ⟨w.heap.size + 1, 1, none⟩ = some (.int .i64 b2)) ∧ (w'.cell? ⟨w.heap.size + 1 + 1, 0, none⟩ = some (.int .i64 c1) ∧ w'.cell? ⟨w.heap.size + 1 + 1, 1, none⟩ = some (.int .i64 c2)) ∧ (w'.cell? ⟨w.heap.size + 1 + 1 + 1, 0, none⟩ = some (.int .i64 d1) ∧ w'.cell? ⟨w.heap.size + 1 + 1 + 1, 1, none⟩ = some (.int .i64 d2)) ∧ (w'.cell? ⟨w.heap.size + 1 + 1 + 1 + 1, k * 2, none⟩ = some (.int .i64 x) ∧ w'.cell? ⟨w.heap.size + 1 + 1 + 1 + 1, k * 2 + 1, none⟩ = some (.int .i64 y))) ∧ (∀ w', C w' → IsGr W2 w') := by
          refine ⟨fun w' => W2.heap.size ≤ w'.heap.size ∧ IsGr W2 w' ∧ (w'.cell? ⟨w.heap.size, 0, none⟩ = some (.int .i64 a1) ∧ w'.cell? ⟨w.heap.size, 1, none⟩ = some (.int .i64 a2)) ∧ (w'.cell? ⟨w.heap.size + 1, 0, none⟩ = some (.int .i64 b1) ∧ w'.cell? ⟨w.heap.size + 1, 1, none⟩ = some (.int .i64 b2)) ∧ (w'.cell? ⟨w.heap.size + 1 + 1, 0, none⟩ = some (.int .i64 c1) ∧ w'.cell? ⟨w.heap.size + 1 + 1, 1, none⟩ = some (.int .i64 c2)) ∧ (w'.cell? ⟨w.heap.size + 1 + 1 + 1, 0, none⟩ = some (.int .i64 d1) ∧ w'.cell? ⟨w.heap.size + 1 + 1 + 1, 1, none⟩ = some (.int .i64 d2)) ∧ (w'.cell? ⟨w.heap.size + 1 + 1 + 1 + 1, k * 2, none⟩ = some (.int .i64 x) ∧ w'.cell? ⟨w.heap.size + 1 + 1 + 1 + 1, k * 2 + 1, none⟩ = some (.int .i64 y)), fun w' h => h, ?_, fun w' h => h.2.2, fun w' h => h.2.1⟩
          rintro u u' ⟨h0, h1, h2⟩ hg
          exact ⟨Nat.le_trans h0 hg.size, h1.trans hg, ⟨hg.cell_at (by omega) h2.1.1, hg.cell_at (by omega) h2.1.2⟩, ⟨hg.cell_at (by omega) h2.2.1.1, hg.cell_at (by omega) h2.2.1.2⟩, ⟨hg.cell_at (by omega) h2.2.2.1.1, hg.cell_at (by omega) h2.2.2.1.2⟩, ⟨hg.cell_at (by omega) h2.2.2.2.1.1, hg.cell_at (by omega) h2.2.2.2.1.2⟩, ⟨hg.cell_at (by omega) h2.2.2.2.2.1, hg.cell_at (by omega) h2.2.2.2.2.2⟩⟩
        cases O1
        · refine wp_region_quietV C (by kernel_rfl) (by kernel_rfl) (hin _ ⟨by simp, (by with_reducible repeat (first | exact IsGr.refl _ | refine IsGr.gr ?_ _ _ | refine IsGr.alloc ?_ _ | refine IsGr.drew ?_ | refine IsGr.drewN ?_ _)), ⟨qa, qb, qc, qd, ⟨x1', x2'⟩⟩⟩) (fun K HK => ?_)
          refine QK.take HK ?_ (by rfl) ?_ ?_
          rotate_left
          · (intro w hw; (try have hcs := hcells w hw); (try go_split_ands); go_simp <;> with_reducible rfl)
          (try simp only [Act.put, qA, qB, qC])
          refine QK.take HK ?_ (by rfl) ?_ ?_
          rotate_left
          · (intro w hw; (try have hcs := hcells w hw); (try go_split_ands); go_simp <;> with_reducible rfl)
          (try simp only [Act.put, qA, qB, qC])
          refine QK.take HK ?_ (by rfl) ?_ ?_
          rotate_left
          · (intro w hw; (try have hcs := hcells w hw); (try go_split_ands); go_simp <;> with_reducible rfl)
          (try simp only [Act.put, qA, qB, qC])
          refine QK.take HK ?_ (by rfl) ?_ ?_
          rotate_left
          · (intro w hw; (try have hcs := hcells w hw); (try go_split_ands); go_simp <;> with_reducible rfl)
          (try simp only [Act.put, qA, qB, qC])
          refine QK.take HK ?_ (by rfl) ?_ ?_
          rotate_left
          · (intro w hw; (try have hcs := hcells w hw); (try go_split_ands); go_simp <;> with_reducible rfl)
          (try simp only [Act.put, qA, qB, qC])
          refine QK.call HK 13 #[.agg #[.int .i64 a1, .int .i64 a2], .agg #[.int .i64 b1, .int .i64 b2], .agg #[.int .i64 x, .int .i64 y]] (.bool false) hcl (by rfl) (fun w => by go_simp) N1 ?_
          (try simp only [Act.put, qA, qB, qC])
          refine QK.take HK ?_ (by rfl) ?_ ?_
          rotate_left
          · (intro w hw; (try have hcs := hcells w hw); (try go_split_ands); go_simp <;> with_reducible rfl)
          (try simp only [Act.put, qA, qB, qC])
          refine QK.take HK ?_ (by rfl) ?_ ?_
          rotate_left
          · (intro w hw; (try have hcs := hcells w hw); (try go_split_ands); go_simp <;> with_reducible rfl)
          (try simp only [Act.put, qA, qB, qC])
          refine QK.skip HK (by rfl) ?_
          (try simp only [Act.put, qA, qB, qC])
          refine QK.skip HK (by rfl) ?_
          (try simp only [Act.put, qA, qB, qC])
          refine QK.skip HK (by rfl) ?_
          (try simp only [Act.put, qA, qB, qC])
          refine QK.skip HK (by rfl) ?_
          (try simp only [Act.put, qA, qB, qC])
          refine QK.skip HK (by rfl) ?_
          (try simp only [Act.put, qA, qB, qC])
          refine QK.skip HK (by rfl) ?_
          (try simp only [Act.put, qA, qB, qC])
          refine QK.skip HK (by rfl) ?_
          (try simp only [Act.put, qA, qB, qC])
          refine QK.take HK ?_ (by rfl) ?_ ?_
          rotate_left
          · (intro w hw; (try have hcs := hcells w hw); (try go_split_ands); go_simp <;> with_reducible rfl)
          (try simp only [Act.put, qA, qB, qC])
          refine QK.nil HK ?_
          clear HK K
          intro wq hq
          have hg9 := hgr wq hq
          clear hcells hin hcl hgr hq
          go_wp2
          go_meet
          case rel => exact ⟨by simp, hg9⟩
        · cases O2
          · refine wp_region_quietV C (by kernel_rfl) (by kernel_rfl) (hin _ ⟨by simp, (by with_reducible repeat (first | exact IsGr.refl _ | refine IsGr.gr ?_ _ _ | refine IsGr.alloc ?_ _ | refine IsGr.drew ?_ | refine IsGr.drewN ?_ _)), ⟨qa, qb, qc, qd, ⟨x1', x2'⟩⟩⟩) (fun K HK => ?_)
            refine QK.take HK ?_ (by rfl) ?_ ?_
            rotate_left
            · (intro w hw; (try have hcs := hcells w hw); (try go_split_ands); go_simp <;> with_reducible rfl)
            (try simp only [Act.put, qA, qB, qC])
            refine QK.take HK ?_ (by rfl) ?_ ?_
            rotate_left
            · (intro w hw; (try have hcs := hcells w hw); (try go_split_ands); go_simp <;> with_reducible rfl)
            (try simp only [Act.put, qA, qB, qC])
            refine QK.take HK ?_ (by rfl) ?_ ?_
            rotate_left
            · (intro w hw; (try have hcs := hcells w hw); (try go_split_ands); go_simp <;> with_reducible rfl)
            (try simp only [Act.put, qA, qB, qC])
            refine QK.take HK ?_ (by rfl) ?_ ?_
            rotate_left
            · (intro w hw; (try have hcs := hcells w hw); (try go_split_ands); go_simp <;> with_reducible rfl)
            (try simp only [Act.put, qA, qB, qC])
            refine QK.take HK ?_ (by rfl) ?_ ?_
            rotate_left
            · (intro w hw; (try have hcs := hcells w hw); (try go_split_ands); go_simp <;> with_reducible rfl)
            (try simp only [Act.put, qA, qB, qC])
            refine QK.call HK 13 #[.agg #[.int .i64 a1, .int .i64 a2], .agg #[.int .i64 b1, .int .i64 b2], .agg #[.int .i64 x, .int .i64 y]] (.bool true) hcl (by rfl) (fun w => by go_simp) N1 ?_
            (try simp only [Act.put, qA, qB, qC])
            refine QK.take HK ?_ (by rfl) ?_ ?_
            rotate_left
            · (intro w hw; (try have hcs := hcells w hw); (try go_split_ands); go_simp <;> with_reducible rfl)
            (try simp only [Act.put, qA, qB, qC])
            refine QK.take HK ?_ (by rfl) ?_ ?_
            rotate_left
            · (intro w hw; (try have hcs := hcells w hw); (try go_split_ands); go_simp <;> with_reducible rfl)
            (try simp only [Act.put, qA, qB, qC])
            refine QK.take HK ?_ (by rfl) ?_ ?_
            rotate_left
            · (intro w hw; (try have hcs := hcells w hw); (try go_split_ands); go_simp <;> with_reducible rfl)
            (try simp only [Act.put, qA, qB, qC])
            refine QK.take HK ?_ (by rfl) ?_ ?_
            rotate_left
            · (intro w hw; (try have hcs := hcells w hw); (try go_split_ands); go_simp <;> with_reducible rfl)
            (try simp only [Act.put, qA, qB, qC])
            refine QK.take HK ?_ (by rfl) ?_ ?_
            rotate_left
            · (intro w hw; (try have hcs := hcells w hw); (try go_split_ands); go_simp <;> with_reducible rfl)
            (try simp only [Act.put, qA, qB, qC])
            refine QK.take HK ?_ (by rfl) ?_ ?_
            rotate_left
            · (intro w hw; (try have hcs := hcells w hw); (try go_split_ands); go_simp <;> with_reducible rfl)
            (try simp only [Act.put, qA, qB, qC])
            refine QK.take HK ?_ (by rfl) ?_ ?_
            rotate_left
            · (intro w hw; (try have hcs := hcells w hw); (try go_split_ands); go_simp <;> with_reducible rfl)
            (try simp only [Act.put, qA, qB, qC])
            refine QK.call HK 13 #[.agg #[.int .i64 c1, .int .i64 c2], .agg #[.int .i64 d1, .int .i64 d2], .agg #[.int .i64 x, .int .i64 y]] (.bool false) hcl (by rfl) (fun w => by go_simp) N2 ?_
            (try simp only [Act.put, qA, qB, qC])
            refine QK.take HK ?_ (by rfl) ?_ ?_
            rotate_left
            · (intro w hw; (try have hcs := hcells w hw); (try go_split_ands); go_simp <;> with_reducible rfl)
            (try simp only [Act.put, qA, qB, qC])
            refine QK.take HK ?_ (by rfl) ?_ ?_
            rotate_left
            · (intro w hw; (try have hcs := hcells w hw); (try go_split_ands); go_simp <;> with_reducible rfl)
            (try simp only [Act.put, qA, qB, qC])
            refine QK.nil HK ?_
            clear HK K
            intro wq hq
            have hg9 := hgr wq hq
            clear hcells hin hcl hgr hq
            go_wp2
            go_meet
            case rel => exact ⟨by simp, hg9⟩
          · refine wp_region_quietV C (by kernel_rfl) (by kernel_rfl) (hin _ ⟨by simp, (by with_reducible repeat (first | exact IsGr.refl _ | refine IsGr.gr ?_ _ _ | refine IsGr.alloc ?_ _ | refine IsGr.drew ?_ | refine IsGr.drewN ?_ _)), ⟨qa, qb, qc, qd, ⟨x1', x2'⟩⟩⟩) (fun K HK => ?_)
            refine QK.take HK ?_ (by rfl) ?_ ?_
            rotate_left
            · (intro w hw; (try have hcs := hcells w hw); (try go_split_ands); go_simp <;> with_reducible rfl)
            (try simp only [Act.put, qA, qB, qC])
            refine QK.take HK ?_ (by rfl) ?_ ?_
            rotate_left
            · (intro w hw; (try have hcs := hcells w hw); (try go_split_ands); go_simp <;> with_reducible rfl)
            (try simp only [Act.put, qA, qB, qC])
            refine QK.take HK ?_ (by rfl) ?_ ?_
            rotate_left
            · (intro w hw; (try have hcs := hcells w hw); (try go_split_ands); go_simp <;> with_reducible rfl)
            (try simp only [Act.put, qA, qB, qC])
            refine QK.take HK ?_ (by rfl) ?_ ?_
            rotate_left
            · (intro w hw; (try have hcs := hcells w hw); (try go_split_ands); go_simp <;> with_reducible rfl)
            (try simp only [Act.put, qA, qB, qC])
            refine QK.take HK ?_ (by rfl) ?_ ?_
            rotate_left
            · (intro w hw; (try have hcs := hcells w hw); (try go_split_ands); go_simp <;> with_reducible rfl)
            (try simp only [Act.put, qA, qB, qC])
            refine QK.call HK 13 #[.agg #[.int .i64 a1, .int .i64 a2], .agg #[.int .i64 b1, .int .i64 b2], .agg #[.int .i64 x, .int .i64 y]] (.bool true) hcl (by rfl) (fun w => by go_simp) N1 ?_
            (try simp only [Act.put, qA, qB, qC])
            refine QK.take HK ?_ (by rfl) ?_ ?_
            rotate_left
            · (intro w hw; (try have hcs := hcells w hw); (try go_split_ands); go_simp <;> with_reducible rfl)
            (try simp only [Act.put, qA, qB, qC])
            refine QK.take HK ?_ (by rfl) ?_ ?_
            rotate_left
            · (intro w hw; (try have hcs := hcells w hw); (try go_split_ands); go_simp <;> with_reducible rfl)
            (try simp only [Act.put, qA, qB, qC])
            refine QK.take HK ?_ (by rfl) ?_ ?_
            rotate_left
            · (intro w hw; (try have hcs := hcells w hw); (try go_split_ands); go_simp <;> with_reducible rfl)
            (try simp only [Act.put, qA, qB, qC])
            refine QK.take HK ?_ (by rfl) ?_ ?_
            rotate_left
            · (intro w hw; (try have hcs := hcells w hw); (try go_split_ands); go_simp <;> with_reducible rfl)
            (try simp only [Act.put, qA, qB, qC])
            refine QK.take HK ?_ (by rfl) ?_ ?_
            rotate_left
            · (intro w hw; (try have hcs := hcells w hw); (try go_split_ands); go_simp <;> with_reducible rfl)
            (try simp only [Act.put, qA, qB, qC])
            refine QK.take HK ?_ (by rfl) ?_ ?_
            rotate_left
            · (intro w hw; (try have hcs := hcells w hw); (try go_split_ands); go_simp <;> with_reducible rfl)
            (try simp only [Act.put, qA, qB, qC])
            refine QK.take HK ?_ (by rfl) ?_ ?_
            rotate_left
            · (intro w hw; (try have hcs := hcells w hw); (try go_split_ands); go_simp <;> with_reducible rfl)
            (try simp only [Act.put, qA, qB, qC])
            refine QK.call HK 13 #[.agg #[.int .i64 c1, .int .i64 c2], .agg #[.int .i64 d1, .int .i64 d2], .agg #[.int .i64 x, .int .i64 y]] (.bool true) hcl (by rfl) (fun w => by go_simp) N2 ?_
            (try simp only [Act.put, qA, qB, qC])
            refine QK.take HK ?_ (by rfl) ?_ ?_
            rotate_left
            · (intro w hw; (try have hcs := hcells w hw); (try go_split_ands); go_simp <;> with_reducible rfl)
            (try simp only [Act.put, qA, qB, qC])
            refine QK.take HK ?_ (by rfl) ?_ ?_
            rotate_left
            · (intro w hw; (try have hcs := hcells w hw); (try go_split_ands); go_simp <;> with_reducible rfl)
            (try simp only [Act.put, qA, qB, qC])
            refine QK.nil HK ?_
            clear HK K
            intro wq hq
            have hg9 := hgr wq hq
            clear hcells hin hcl hgr hq
            go_wp2
            go_meet
            case rel => exact ⟨by simp, hg9⟩
      case rest =>
        obtain ⟨rfl, hgr⟩ := hcut
        obtain ⟨W3, hW9⟩ : ∃ W3, W3 = wc := ⟨_, rfl⟩
        subst hW9
        replace qa : (W3.cell? ⟨w.heap.size, 0, none⟩ = some (.int .i64 a1) ∧ W3.cell? ⟨w.heap.size, 1, none⟩ = some (.int .i64 a2)) := ⟨hgr.cell_at (by omega) qa.1, hgr.cell_at (by omega) qa.2⟩
        replace qb : (W3.cell? ⟨w.heap.size + 1, 0, none⟩ = some (.int .i64 b1) ∧ W3.cell? ⟨w.heap.size + 1, 1, none⟩ = some (.int .i64 b2)) := ⟨hgr.cell_at (by omega) qb.1, hgr.cell_at (by omega) qb.2⟩
        replace qc : (W3.cell? ⟨w.heap.size + 1 + 1, 0, none⟩ = some (.int .i64 c1) ∧ W3.cell? ⟨w.heap.size + 1 + 1, 1, none⟩ = some (.int .i64 c2)) := ⟨hgr.cell_at (by omega) qc.1, hgr.cell_at (by omega) qc.2⟩
        replace qd : (W3.cell? ⟨w.heap.size + 1 + 1 + 1, 0, none⟩ = some (.int .i64 d1) ∧ W3.cell? ⟨w.heap.size + 1 + 1 + 1, 1, none⟩ = some (.int .i64 d2)) := ⟨hgr.cell_at (by omega) qd.1, hgr.cell_at (by omega) qd.2⟩
        replace q8 : (W3.cell? ⟨w.heap.size + 1 + 1 + 1 + 1, 0, none⟩ = some (.int .i64 a1) ∧ W3.cell? ⟨w.heap.size + 1 + 1 + 1 + 1, 1, none⟩ = some (.int .i64 a2) ∧ W3.cell? ⟨w.heap.size + 1 + 1 + 1 + 1, 2, none⟩ = some (.int .i64 b1) ∧ W3.cell? ⟨w.heap.size + 1 + 1 + 1 + 1, 3, none⟩ = some (.int .i64 b2) ∧ W3.cell? ⟨w.heap.size + 1 + 1 + 1 + 1, 4, none⟩ = some (.int .i64 c1) ∧ W3.cell? ⟨w.heap.size + 1 + 1 + 1 + 1, 5, none⟩ = some (.int .i64 c2) ∧ W3.cell? ⟨w.heap.size + 1 + 1 + 1 + 1, 6, none⟩ = some (.int .i64 d1) ∧ W3.cell? ⟨w.heap.size + 1 + 1 + 1 + 1, 7, none⟩ = some (.int .i64 d2)) := ⟨hgr.cell_at (by omega) q8.1, hgr.cell_at (by omega) q8.2.1, hgr.cell_at (by omega) q8.2.2.1, hgr.cell_at (by omega) q8.2.2.2.1, hgr.cell_at (by omega) q8.2.2.2.2.1, hgr.cell_at (by omega) q8.2.2.2.2.2.1, hgr.cell_at (by omega) q8.2.2.2.2.2.2.1, hgr.cell_at (by omega) q8.2.2.2.2.2.2.2⟩
        replace hown := own_gr4 hown hgr
        replace x1' := hgr.cell_at (by omega) x1'
        replace x2' := hgr.cell_at (by omega) x2'
        replace HB : Hid (Below w.heap.size w W3) := HB.out.trans (hgr.below.mono (by omega))
        have hsz := hgr.size
        replace ka : w.heap.size + 5 ≤ W3.heap.size := by omega
        clear hsz hgr
        clear N1 N2
        generalize (O1 && O2) = O at *
        cases O
        · have HR1 : Hid (runK p (L.drop (k + 1)) l.head? = T) := by unfold Hid; rw [← HR.out, HD.out, runK_miss HPk.out]
          clear HR HD HPk
          go_wp2
          go_roundw
          case rel => exact ⟨k + 1, l, by omega, by go_num, by omega, HR1, hown, qa, qb, qc, qd, q8, ⟨ka, HB.out⟩⟩
          case measure => simp [intOf]; omega
        · obtain ⟨A, n, CC, hv, HLn, hA⟩ : ∃ (A : Option Addr) (n CC : Nat), u10 = .slice A n CC ∧ Hid (l.length = n) ∧ (0 < n → ∃ g, A = some ⟨g, 0, none⟩ ∧ g < W3.heap.size) := by
            rcases hown.2 with ⟨h1, h2⟩ | ⟨g, cap, cur, h1, hb, h2, _⟩
            · exact ⟨none, 0, 0, h1, h2, fun h => by omega⟩
            · exact ⟨_, _, _, h1, rfl, fun _ => ⟨g, rfl, (Array.getElem?_eq_some_iff.1 h2).1⟩⟩
          subst hv
          rw [HLn.out] at hown hlk
          by_cases hn : 0 < n
          · obtain ⟨g, rfl, hgs⟩ := hA hn
            obtain ⟨u, v, hh, y1', y2'⟩ : ∃ u v : Int, Hid (l.head? = some (u, v)) ∧ W3.cell? ⟨g, 0, none⟩ = some (.int .i64 u) ∧ W3.cell? ⟨g, 1, none⟩ = some (.int .i64 v) := by
              match l, HLn with
              | [], h => simp [Hid] at h; omega
              | (u, v) :: bs, _ =>
                refine ⟨u, v, rfl, ?_, ?_⟩
                · have := World.ownsRow.cells hown (g := g) rfl 0 (.int .i64 u) (by simp [ptCs])
                  rwa [addr_add] at this
                · have := World.ownsRow.cells hown (g := g) rfl 1 (.int .i64 v) (by simp [ptCs])
                  rwa [addr_add] at this
            have hd : decide (0 < n) = true := by simp [hn]
            have hd' : (0 : Int) < n := by omega
            obtain ⟨D, f1, hD⟩ : ∃ D : Bool, (D = true ↔ ¬ (u = x ∧ v = y)) ∧ ((u == x && v == y) = !D) := ⟨!(decide (u = x ∧ v = y)), by simp only [Bool.not_eq_true', decide_eq_false_iff_not], by rw [Bool.eq_iff_iff]; simp⟩
            go_upto_region 7 with fail
            go_cut [48] from 17 to 54 (fun t48 wx => t48 = .bool D ∧ IsGr W3 wx)
            case first => as_aux_lemma =>
              clear HK HR HD HPk HB hh hlk f1 hA
              have hown' := hown
              clear hown' hown
              obtain ⟨C, hin, hcl, hcells, hgr⟩ : ∃ C : World → Prop, (∀ w', W3.heap.size ≤ w'.heap.size ∧ IsGr W3 w' ∧ (w'.cell? ⟨w.heap.size + 1 + 1 + 1 + 1, k * 2, none⟩ = some (.int .i64 x) ∧ w'.cell? ⟨w.heap.size + 1 + 1 + 1 + 1, k * 2 + 1, none⟩ = some (.int .i64 y)) ∧ (w'.cell? ⟨g, 0, none⟩ = some (.int .i64 u) ∧ w'.cell? ⟨g, 1, none⟩ = some (.int .i64 v)) → C w') ∧ (∀ u u', C u → IsGr u u' → C u') ∧ (∀ w', C w' → (w'.cell? ⟨w.heap.size + 1 + 1 + 1 + 1, k * 2, none⟩ = some (.int .i64 x) ∧ w'.cell? ⟨w.heap.size + 1 + 1 + 1 + 1, k * 2 + 1, none⟩ = some (.int .i64 y)) ∧ (w'.cell? ⟨g, 0, none⟩ = some (.int .i64 u) ∧ w'.cell? ⟨g, 1, none⟩ = some (.int .i64 v))) ∧ (∀ w', C w' → IsGr W3 w') := by
                refine ⟨fun w' => W3.heap.size ≤ w'.heap.size ∧ IsGr W3 w' ∧ (w'.cell? ⟨w.heap.size + 1 + 1 + 1 + 1, k * 2, none⟩ = some (.int .i64 x) ∧ w'.cell? ⟨w.heap.size + 1 + 1 + 1 + 1, k * 2 + 1, none⟩ = some (.int .i64 y)) ∧ (w'.cell? ⟨g, 0, none⟩ = some (.int .i64 u) ∧ w'.cell? ⟨g, 1, none⟩ = some (.int .i64 v)), fun w' h => h, ?_, fun w' h => h.2.2, fun w' h => h.2.1⟩
                rintro u u' ⟨h0, h1, h2⟩ hg
                exact ⟨Nat.le_trans h0 hg.size, h1.trans hg, ⟨hg.cell_at (by omega) h2.1.1, hg.cell_at (by omega) h2.1.2⟩, ⟨hg.cell_at (by omega) h2.2.1, hg.cell_at (by omega) h2.2.2⟩⟩
              cases h1 : (u == x)
              · have : D = true := by rw [h1] at hD; simpa using hD.symm
                subst this
                refine wp_region_quietV C (by kernel_rfl) (by kernel_rfl) (hin _ ⟨by simp, (by with_reducible repeat (first | exact IsGr.refl _ | refine IsGr.gr ?_ _ _ | refine IsGr.alloc ?_ _ | refine IsGr.drew ?_ | refine IsGr.drewN ?_ _)), ⟨⟨x1', x2'⟩, ⟨y1', y2'⟩⟩⟩) (fun K HK => ?_)
                refine QK.take HK ?_ (by rfl) ?_ ?_
                rotate_left
                · (intro w hw; (try have hcs := hcells w hw); (try go_split_ands); go_simp <;> with_reducible rfl)
                (try simp only [Act.put, qA, qB, qC])
                refine QK.take HK ?_ (by rfl) ?_ ?_
                rotate_left
                · (intro w hw; (try have hcs := hcells w hw); (try go_split_ands); go_simp <;> with_reducible rfl)
                (try simp only [Act.put, qA, qB, qC])
                refine QK.take HK ?_ (by rfl) ?_ ?_
                rotate_left
                · (intro w hw; (try have hcs := hcells w hw); (try go_split_ands); go_simp <;> with_reducible rfl)
                (try simp only [Act.put, qA, qB, qC])
                refine QK.take HK ?_ (by rfl) ?_ ?_
                rotate_left
                · (intro w hw; (try have hcs := hcells w hw); (try go_split_ands); go_simp <;> with_reducible rfl)
                (try simp only [Act.put, qA, qB, qC])
                refine QK.take HK ?_ (by rfl) ?_ ?_
                rotate_left
                · (intro w hw; (try have hcs := hcells w hw); (try go_split_ands); go_simp <;> with_reducible rfl)
                (try simp only [Act.put, qA, qB, qC])
                refine QK.take HK ?_ (by rfl) ?_ ?_
                rotate_left
                · (intro w hw; (try have hcs := hcells w hw); (try go_split_ands); go_simp <;> with_reducible rfl)
                (try simp only [Act.put, qA, qB, qC])
                refine QK.take HK ?_ (by rfl) ?_ ?_
                rotate_left
                · (intro w hw; (try have hcs := hcells w hw); (try go_split_ands); go_simp <;> with_reducible rfl)
                (try simp only [Act.put, qA, qB, qC])
                refine QK.take HK ?_ (by rfl) ?_ ?_
                rotate_left
                · (intro w hw; (try have hcs := hcells w hw); (try go_split_ands); go_simp <;> with_reducible rfl)
                (try simp only [Act.put, qA, qB, qC])
                refine QK.take HK ?_ (by rfl) ?_ ?_
                rotate_left
                · (intro w hw; (try have hcs := hcells w hw); (try go_split_ands); go_simp <;> with_reducible rfl)
                (try simp only [Act.put, qA, qB, qC])
                refine QK.take HK ?_ (by rfl) ?_ ?_
                rotate_left
                · (intro w hw; (try have hcs := hcells w hw); (try go_split_ands); go_simp <;> with_reducible rfl)
                (try simp only [Act.put, qA, qB, qC])
                refine QK.take HK ?_ (by rfl) ?_ ?_
                rotate_left
                · (intro w hw; (try have hcs := hcells w hw); (try go_split_ands); go_simp <;> with_reducible rfl)
                (try simp only [Act.put, qA, qB, qC])
                refine QK.take HK ?_ (by rfl) ?_ ?_
                rotate_left
                · (intro w hw; (try have hcs := hcells w hw); (try go_split_ands); go_simp <;> with_reducible rfl)
                (try simp only [Act.put, qA, qB, qC])
                refine QK.nil HK ?_
                clear HK K
                intro wq hq
                have hg9 := hgr wq hq
                clear hcells hin hcl hgr hq
                go_wp2
                go_meet
                case rel => exact ⟨by first | rfl | simp, hg9⟩
              · cases h2 : (v == y)
                · have : D = true := by rw [h1, h2] at hD; simpa using hD.symm
                  subst this
                  refine wp_region_quietV C (by kernel_rfl) (by kernel_rfl) (hin _ ⟨by simp, (by with_reducible repeat (first | exact IsGr.refl _ | refine IsGr.gr ?_ _ _ | refine IsGr.alloc ?_ _ | refine IsGr.drew ?_ | refine IsGr.drewN ?_ _)), ⟨⟨x1', x2'⟩, ⟨y1', y2'⟩⟩⟩) (fun K HK => ?_)
                  refine QK.take HK ?_ (by rfl) ?_ ?_
                  rotate_left
                  · (intro w hw; (try have hcs := hcells w hw); (try go_split_ands); go_simp <;> with_reducible rfl)
                  (try simp only [Act.put, qA, qB, qC])
                  refine QK.take HK ?_ (by rfl) ?_ ?_
                  rotate_left
                  · (intro w hw; (try have hcs := hcells w hw); (try go_split_ands); go_simp <;> with_reducible rfl)
                  (try simp only [Act.put, qA, qB, qC])
                  refine QK.take HK ?_ (by rfl) ?_ ?_
                  rotate_left
                  · (intro w hw; (try have hcs := hcells w hw); (try go_split_ands); go_simp <;> with_reducible rfl)
                  (try simp only [Act.put, qA, qB, qC])
                  refine QK.take HK ?_ (by rfl) ?_ ?_
                  rotate_left
                  · (intro w hw; (try have hcs := hcells w hw); (try go_split_ands); go_simp <;> with_reducible rfl)
                  (try simp only [Act.put, qA, qB, qC])
                  refine QK.take HK ?_ (by rfl) ?_ ?_
                  rotate_left
                  · (intro w hw; (try have hcs := hcells w hw); (try go_split_ands); go_simp <;> with_reducible rfl)
                  (try simp only [Act.put, qA, qB, qC])
                  refine QK.take HK ?_ (by rfl) ?_ ?_
                  rotate_left
                  · (intro w hw; (try have hcs := hcells w hw); (try go_split_ands); go_simp <;> with_reducible rfl)
                  (try simp only [Act.put, qA, qB, qC])
                  refine QK.take HK ?_ (by rfl) ?_ ?_
                  rotate_left
                  · (intro w hw; (try have hcs := hcells w hw); (try go_split_ands); go_simp <;> with_reducible rfl)
                  (try simp only [Act.put, qA, qB, qC])
                  refine QK.take HK ?_ (by rfl) ?_ ?_
                  rotate_left
                  · (intro w hw; (try have hcs := hcells w hw); (try go_split_ands); go_simp <;> with_reducible rfl)
                  (try simp only [Act.put, qA, qB, qC])
                  refine QK.take HK ?_ (by rfl) ?_ ?_
                  rotate_left
                  · (intro w hw; (try have hcs := hcells w hw); (try go_split_ands); go_simp <;> with_reducible rfl)
                  (try simp only [Act.put, qA, qB, qC])
                  refine QK.take HK ?_ (by rfl) ?_ ?_
                  rotate_left
                  · (intro w hw; (try have hcs := hcells w hw); (try go_split_ands); go_simp <;> with_reducible rfl)
                  (try simp only [Act.put, qA, qB, qC])
                  refine QK.take HK ?_ (by rfl) ?_ ?_
                  rotate_left
                  · (intro w hw; (try have hcs := hcells w hw); (try go_split_ands); go_simp <;> with_reducible rfl)
                  (try simp only [Act.put, qA, qB, qC])
                  refine QK.take HK ?_ (by rfl) ?_ ?_
                  rotate_left
                  · (intro w hw; (try have hcs := hcells w hw); (try go_split_ands); go_simp <;> with_reducible rfl)
                  (try simp only [Act.put, qA, qB, qC])
                  refine QK.nil HK ?_
                  clear HK K
                  intro wq hq
                  have hg9 := hgr wq hq
                  clear hcells hin hcl hgr hq
                  go_wp2
                  go_meet
                  case rel => exact ⟨by first | rfl | simp, hg9⟩
                · have : D = false := by rw [h1, h2] at hD; simpa using hD.symm
                  subst this
                  refine wp_region_quietV C (by kernel_rfl) (by kernel_rfl) (hin _ ⟨by simp, (by with_reducible repeat (first | exact IsGr.refl _ | refine IsGr.gr ?_ _ _ | refine IsGr.alloc ?_ _ | refine IsGr.drew ?_ | refine IsGr.drewN ?_ _)), ⟨⟨x1', x2'⟩, ⟨y1', y2'⟩⟩⟩) (fun K HK => ?_)
                  refine QK.take HK ?_ (by rfl) ?_ ?_
                  rotate_left
                  · (intro w hw; (try have hcs := hcells w hw); (try go_split_ands); go_simp <;> with_reducible rfl)
                  (try simp only [Act.put, qA, qB, qC])
                  refine QK.take HK ?_ (by rfl) ?_ ?_
                  rotate_left
                  · (intro w hw; (try have hcs := hcells w hw); (try go_split_ands); go_simp <;> with_reducible rfl)
                  (try simp only [Act.put, qA, qB, qC])
                  refine QK.take HK ?_ (by rfl) ?_ ?_
                  rotate_left
                  · (intro w hw; (try have hcs := hcells w hw); (try go_split_ands); go_simp <;> with_reducible rfl)
                  (try simp only [Act.put, qA, qB, qC])
                  refine QK.take HK ?_ (by rfl) ?_ ?_
                  rotate_left
                  · (intro w hw; (try have hcs := hcells w hw); (try go_split_ands); go_simp <;> with_reducible rfl)
                  (try simp only [Act.put, qA, qB, qC])
                  refine QK.take HK ?_ (by rfl) ?_ ?_
                  rotate_left
                  · (intro w hw; (try have hcs := hcells w hw); (try go_split_ands); go_simp <;> with_reducible rfl)
                  (try simp only [Act.put, qA, qB, qC])
                  refine QK.take HK ?_ (by rfl) ?_ ?_
                  rotate_left
                  · (intro w hw; (try have hcs := hcells w hw); (try go_split_ands); go_simp <;> with_reducible rfl)
                  (try simp only [Act.put, qA, qB, qC])
                  refine QK.take HK ?_ (by rfl) ?_ ?_
                  rotate_left
                  · (intro w hw; (try have hcs := hcells w hw); (try go_split_ands); go_simp <;> with_reducible rfl)
                  (try simp only [Act.put, qA, qB, qC])
                  refine QK.take HK ?_ (by rfl) ?_ ?_
                  rotate_left
                  · (intro w hw; (try have hcs := hcells w hw); (try go_split_ands); go_simp <;> with_reducible rfl)
                  (try simp only [Act.put, qA, qB, qC])
                  refine QK.take HK ?_ (by rfl) ?_ ?_
                  rotate_left
                  · (intro w hw; (try have hcs := hcells w hw); (try go_split_ands); go_simp <;> with_reducible rfl)
                  (try simp only [Act.put, qA, qB, qC])
                  refine QK.take HK ?_ (by rfl) ?_ ?_
                  rotate_left
                  · (intro w hw; (try have hcs := hcells w hw); (try go_split_ands); go_simp <;> with_reducible rfl)
                  (try simp only [Act.put, qA, qB, qC])
                  refine QK.take HK ?_ (by rfl) ?_ ?_
                  rotate_left
                  · (intro w hw; (try have hcs := hcells w hw); (try go_split_ands); go_simp <;> with_reducible rfl)
                  (try simp only [Act.put, qA, qB, qC])
                  refine QK.take HK ?_ (by rfl) ?_ ?_
                  rotate_left
                  · (intro w hw; (try have hcs := hcells w hw); (try go_split_ands); go_simp <;> with_reducible rfl)
                  (try simp only [Act.put, qA, qB, qC])
                  refine QK.nil HK ?_
                  clear HK K
                  intro wq hq
                  have hg9 := hgr wq hq
                  clear hcells hin hcl hgr hq
                  go_wp2
                  go_meet
                  case rel => exact ⟨by first | rfl | simp, hg9⟩
            case rest =>
              obtain ⟨rfl, hgr⟩ := hcut
              obtain ⟨W4, hW9⟩ : ∃ W4, W4 = wc := ⟨_, rfl⟩
              subst hW9
              replace qa : (W4.cell? ⟨w.heap.size, 0, none⟩ = some (.int .i64 a1) ∧ W4.cell? ⟨w.heap.size, 1, none⟩ = some (.int .i64 a2)) := ⟨hgr.cell_at (by omega) qa.1, hgr.cell_at (by omega) qa.2⟩
              replace qb : (W4.cell? ⟨w.heap.size + 1, 0, none⟩ = some (.int .i64 b1) ∧ W4.cell? ⟨w.heap.size + 1, 1, none⟩ = some (.int .i64 b2)) := ⟨hgr.cell_at (by omega) qb.1, hgr.cell_at (by omega) qb.2⟩
              replace qc : (W4.cell? ⟨w.heap.size + 1 + 1, 0, none⟩ = some (.int .i64 c1) ∧ W4.cell? ⟨w.heap.size + 1 + 1, 1, none⟩ = some (.int .i64 c2)) := ⟨hgr.cell_at (by omega) qc.1, hgr.cell_at (by omega) qc.2⟩
              replace qd : (W4.cell? ⟨w.heap.size + 1 + 1 + 1, 0, none⟩ = some (.int .i64 d1) ∧ W4.cell? ⟨w.heap.size + 1 + 1 + 1, 1, none⟩ = some (.int .i64 d2)) := ⟨hgr.cell_at (by omega) qd.1, hgr.cell_at (by omega) qd.2⟩
              replace q8 : (W4.cell? ⟨w.heap.size + 1 + 1 + 1 + 1, 0, none⟩ = some (.int .i64 a1) ∧ W4.cell? ⟨w.heap.size + 1 + 1 + 1 + 1, 1, none⟩ = some (.int .i64 a2) ∧ W4.cell? ⟨w.heap.size + 1 + 1 + 1 + 1, 2, none⟩ = some (.int .i64 b1) ∧ W4.cell? ⟨w.heap.size + 1 + 1 + 1 + 1, 3, none⟩ = some (.int .i64 b2) ∧ W4.cell? ⟨w.heap.size + 1 + 1 + 1 + 1, 4, none⟩ = some (.int .i64 c1) ∧ W4.cell? ⟨w.heap.size + 1 + 1 + 1 + 1, 5, none⟩ = some (.int .i64 c2) ∧ W4.cell? ⟨w.heap.size + 1 + 1 + 1 + 1, 6, none⟩ = some (.int .i64 d1) ∧ W4.cell? ⟨w.heap.size + 1 + 1 + 1 + 1, 7, none⟩ = some (.int .i64 d2)) := ⟨hgr.cell_at (by omega) q8.1, hgr.cell_at (by omega) q8.2.1, hgr.cell_at (by omega) q8.2.2.1, hgr.cell_at (by omega) q8.2.2.2.1, hgr.cell_at (by omega) q8.2.2.2.2.1, hgr.cell_at (by omega) q8.2.2.2.2.2.1, hgr.cell_at (by omega) q8.2.2.2.2.2.2.1, hgr.cell_at (by omega) q8.2.2.2.2.2.2.2⟩
              replace hown := own_gr4 hown hgr
              replace x1' := hgr.cell_at (by omega) x1'
              replace x2' := hgr.cell_at (by omega) x2'
              replace HB : Hid (Below w.heap.size w W4) := HB.out.trans (hgr.below.mono (by omega))
              have hsz := hgr.size
              replace ka : w.heap.size + 5 ≤ W4.heap.size := by omega
              clear hsz hgr
              clear hD y1' y2' hgs
              cases D
              · obtain ⟨rfl, rfl⟩ : u = x ∧ v = y := by simpa using f1
                have HR1 : Hid (runK p (L.drop (k + 1)) (l ++ [(u, v)]).head? = T) := by
                  unfold Hid; rw [← HR.out, HD.out, hh.out, runK_same HPk.out]; simp [hh.out]
                clear HR HD HPk hh f1 hd hd' hA
                go_upto_region 9 with fail
                go_wp2_with (first | (at_builtin; refine wpList_append_own _ rfl _ _ 29 rfl (w.heap.size + 5) 27 i0 (.agg #[.int .i64 0, .int .i64 0]) 2 16 Try.underlying29 hi hz0 hz1 hz2 rfl (by decide) _ _ _ rfl (hown.alloc _) ⟨W4.heap.size, 0, none⟩ 1 1 (ptCs [(u, v)]) rfl ?c0 ?c1 ?c2 ?c3 ?c4 ?c5 ?_) | go_in)
                case c0 => rfl
                case c1 =>
                  intro j u hu
                  match j, hu with
                  | 0, hu => simp [ptCs] at hu; subst hu; simp [go_sem, addr_add]
                  | 1, hu => simp [ptCs] at hu; subst hu; simp [go_sem, addr_add]
                  | j + 2, hu => simp [ptCs] at hu
                case c2 => exact ptCs_one _
                case c3 => unfold maxLen; omega
                case c4 => omega
                case c5 => simp; omega
                intro v' w1 hown' hgrow _
                have hbe : Below (w.heap.size + 5) W4 w1 := (Below.alloc (Below.refl _ _) (by omega) _).trans (below_grown hgrow (by simp; omega) (fun k9 e9 => (World.ownsRow.lt hown k9 e9).1))
                have hsz := hbe.size
                have qa9 : (w1.cell? ⟨w.heap.size, 0, none⟩ = some (.int .i64 a1) ∧ w1.cell? ⟨w.heap.size, 1, none⟩ = some (.int .i64 a2)) := ⟨(hbe.cell (p := ⟨w.heap.size, 0, none⟩) (by simp; try omega)).trans qa.1, (hbe.cell (p := ⟨w.heap.size, 1, none⟩) (by simp; try omega)).trans qa.2⟩
                have qb9 : (w1.cell? ⟨w.heap.size + 1, 0, none⟩ = some (.int .i64 b1) ∧ w1.cell? ⟨w.heap.size + 1, 1, none⟩ = some (.int .i64 b2)) := ⟨(hbe.cell (p := ⟨w.heap.size + 1, 0, none⟩) (by simp; try omega)).trans qb.1, (hbe.cell (p := ⟨w.heap.size + 1, 1, none⟩) (by simp; try omega)).trans qb.2⟩
                have qc9 : (w1.cell? ⟨w.heap.size + 1 + 1, 0, none⟩ = some (.int .i64 c1) ∧ w1.cell? ⟨w.heap.size + 1 + 1, 1, none⟩ = some (.int .i64 c2)) := ⟨(hbe.cell (p := ⟨w.heap.size + 1 + 1, 0, none⟩) (by simp; try omega)).trans qc.1, (hbe.cell (p := ⟨w.heap.size + 1 + 1, 1, none⟩) (by simp; try omega)).trans qc.2⟩
                have qd9 : (w1.cell? ⟨w.heap.size + 1 + 1 + 1, 0, none⟩ = some (.int .i64 d1) ∧ w1.cell? ⟨w.heap.size + 1 + 1 + 1, 1, none⟩ = some (.int .i64 d2)) := ⟨(hbe.cell (p := ⟨w.heap.size + 1 + 1 + 1, 0, none⟩) (by simp; try omega)).trans qd.1, (hbe.cell (p := ⟨w.heap.size + 1 + 1 + 1, 1, none⟩) (by simp; try omega)).trans qd.2⟩
                have q89 : (w1.cell? ⟨w.heap.size + 1 + 1 + 1 + 1, 0, none⟩ = some (.int .i64 a1) ∧ w1.cell? ⟨w.heap.size + 1 + 1 + 1 + 1, 1, none⟩ = some (.int .i64 a2) ∧ w1.cell? ⟨w.heap.size + 1 + 1 + 1 + 1, 2, none⟩ = some (.int .i64 b1) ∧ w1.cell? ⟨w.heap.size + 1 + 1 + 1 + 1, 3, none⟩ = some (.int .i64 b2) ∧ w1.cell? ⟨w.heap.size + 1 + 1 + 1 + 1, 4, none⟩ = some (.int .i64 c1) ∧ w1.cell? ⟨w.heap.size + 1 + 1 + 1 + 1, 5, none⟩ = some (.int .i64 c2) ∧ w1.cell? ⟨w.heap.size + 1 + 1 + 1 + 1, 6, none⟩ = some (.int .i64 d1) ∧ w1.cell? ⟨w.heap.size + 1 + 1 + 1 + 1, 7, none⟩ = some (.int .i64 d2)) := ⟨(hbe.cell (p := ⟨w.heap.size + 1 + 1 + 1 + 1, 0, none⟩) (by simp; try omega)).trans q8.1, (hbe.cell (p := ⟨w.heap.size + 1 + 1 + 1 + 1, 1, none⟩) (by simp; try omega)).trans q8.2.1, (hbe.cell (p := ⟨w.heap.size + 1 + 1 + 1 + 1, 2, none⟩) (by simp; try omega)).trans q8.2.2.1, (hbe.cell (p := ⟨w.heap.size + 1 + 1 + 1 + 1, 3, none⟩) (by simp; try omega)).trans q8.2.2.2.1, (hbe.cell (p := ⟨w.heap.size + 1 + 1 + 1 + 1, 4, none⟩) (by simp; try omega)).trans q8.2.2.2.2.1, (hbe.cell (p := ⟨w.heap.size + 1 + 1 + 1 + 1, 5, none⟩) (by simp; try omega)).trans q8.2.2.2.2.2.1, (hbe.cell (p := ⟨w.heap.size + 1 + 1 + 1 + 1, 6, none⟩) (by simp; try omega)).trans q8.2.2.2.2.2.2.1, (hbe.cell (p := ⟨w.heap.size + 1 + 1 + 1 + 1, 7, none⟩) (by simp; try omega)).trans q8.2.2.2.2.2.2.2⟩
                have HB1 : Hid (Below w.heap.size w w1) := HB.out.trans (hbe.mono (by omega))
                have k1 : w.heap.size + 5 ≤ w1.heap.size := by omega
                clear hbe hsz hgrow hown x1' x2' HB qa qb qc qd q8
                rw [← ptCs_append] at hown'
                go_wp2
                go_roundw
                case rel =>
                  exact ⟨k + 1, l ++ [(u, v)], by omega, by go_num, by rw [List.length_append, HLn.out]; show n + 1 ≤ k + 1; omega, by rw [HR1.out]; exact rfl, by rw [List.length_append, HLn.out]; exact hown', qa9, qb9, qc9, qd9, q89, ⟨k1, HB1.out⟩⟩
                case measure => simp [intOf]; omega
              · have HR1 : Hid (2 = RK) := by
                  unfold Hid; rw [← HK.out, ← HR.out, HD.out, hh.out, runK_diff HPk.out (f1.1 rfl)]; rfl
                clear HR HD HPk hh f1 hd hd' hA HK
                go_wp2
                go_ret
                exact ⟨ret_int' HR1.out, IsGr.of_below HB.out⟩
          · obtain rfl : n = 0 := by omega
            obtain rfl : l = [] := List.length_eq_zero_iff.1 HLn.out
            go_upto_region 7 with fail
            go_cut [48] from 17 to 54 (fun t48 wx => t48 = .bool false ∧ IsGr W3 wx)
            case first => as_aux_lemma =>
              clear HK HR HD HPk HB hlk hA hown
              obtain ⟨C, hin, hcl, hcells, hgr⟩ : ∃ C : World → Prop, (∀ w', W3.heap.size ≤ w'.heap.size ∧ IsGr W3 w' ∧ (w'.cell? ⟨w.heap.size, 0, none⟩ = some (.int .i64 a1) ∧ w'.cell? ⟨w.heap.size, 1, none⟩ = some (.int .i64 a2)) ∧ (w'.cell? ⟨w.heap.size + 1 + 1 + 1 + 1, k * 2, none⟩ = some (.int .i64 x) ∧ w'.cell? ⟨w.heap.size + 1 + 1 + 1 + 1, k * 2 + 1, none⟩ = some (.int .i64 y)) → C w') ∧ (∀ u u', C u → IsGr u u' → C u') ∧ (∀ w', C w' → (w'.cell? ⟨w.heap.size, 0, none⟩ = some (.int .i64 a1) ∧ w'.cell? ⟨w.heap.size, 1, none⟩ = some (.int .i64 a2)) ∧ (w'.cell? ⟨w.heap.size + 1 + 1 + 1 + 1, k * 2, none⟩ = some (.int .i64 x) ∧ w'.cell? ⟨w.heap.size + 1 + 1 + 1 + 1, k * 2 + 1, none⟩ = some (.int .i64 y))) ∧ (∀ w', C w' → IsGr W3 w') := by
                refine ⟨fun w' => W3.heap.size ≤ w'.heap.size ∧ IsGr W3 w' ∧ (w'.cell? ⟨w.heap.size, 0, none⟩ = some (.int .i64 a1) ∧ w'.cell? ⟨w.heap.size, 1, none⟩ = some (.int .i64 a2)) ∧ (w'.cell? ⟨w.heap.size + 1 + 1 + 1 + 1, k * 2, none⟩ = some (.int .i64 x) ∧ w'.cell? ⟨w.heap.size + 1 + 1 + 1 + 1, k * 2 + 1, none⟩ = some (.int .i64 y)), fun w' h => h, ?_, fun w' h => h.2.2, fun w' h => h.2.1⟩
                rintro u u' ⟨h0, h1, h2⟩ hg
                exact ⟨Nat.le_trans h0 hg.size, h1.trans hg, ⟨hg.cell_at (by omega) h2.1.1, hg.cell_at (by omega) h2.1.2⟩, ⟨hg.cell_at (by omega) h2.2.1, hg.cell_at (by omega) h2.2.2⟩⟩
              refine wp_region_quietV C (by kernel_rfl) (by kernel_rfl) (hin _ ⟨by simp, (by with_reducible repeat (first | exact IsGr.refl _ | refine IsGr.gr ?_ _ _ | refine IsGr.alloc ?_ _ | refine IsGr.drew ?_ | refine IsGr.drewN ?_ _)), ⟨qa, ⟨x1', x2'⟩⟩⟩) (fun K HK => ?_)
              refine QK.take HK ?_ (by rfl) ?_ ?_
              rotate_left
              · (intro w hw; (try have hcs := hcells w hw); (try go_split_ands); go_simp <;> with_reducible rfl)
              (try simp only [Act.put, qA, qB, qC])
              refine QK.take HK ?_ (by rfl) ?_ ?_
              rotate_left
              · (intro w hw; (try have hcs := hcells w hw); (try go_split_ands); go_simp <;> with_reducible rfl)
              (try simp only [Act.put, qA, qB, qC])
              refine QK.take HK ?_ (by rfl) ?_ ?_
              rotate_left
              · (intro w hw; (try have hcs := hcells w hw); (try go_split_ands); go_simp <;> with_reducible rfl)
              (try simp only [Act.put, qA, qB, qC])
              refine QK.take HK ?_ (by rfl) ?_ ?_
              rotate_left
              · (intro w hw; (try have hcs := hcells w hw); (try go_split_ands); go_simp <;> with_reducible rfl)
              (try simp only [Act.put, qA, qB, qC])
              refine QK.skip HK (by rfl) ?_
              (try simp only [Act.put, qA, qB, qC])
              refine QK.skip HK (by rfl) ?_
              (try simp only [Act.put, qA, qB, qC])
              refine QK.skip HK (by rfl) ?_
              (try simp only [Act.put, qA, qB, qC])
              refine QK.skip HK (by rfl) ?_
              (try simp only [Act.put, qA, qB, qC])
              refine QK.skip HK (by rfl) ?_
              (try simp only [Act.put, qA, qB, qC])
              refine QK.skip HK (by rfl) ?_
              (try simp only [Act.put, qA, qB, qC])
              refine QK.skip HK (by rfl) ?_
              (try simp only [Act.put, qA, qB, qC])
              refine QK.take HK ?_ (by rfl) ?_ ?_
              rotate_left
              · (intro w hw; (try have hcs := hcells w hw); (try go_split_ands); go_simp <;> with_reducible rfl)
              (try simp only [Act.put, qA, qB, qC])
              refine QK.nil HK ?_
              clear HK K
              intro wq hq
              have hg9 := hgr wq hq
              clear hcells hin hcl hgr hq
              go_wp2
              go_meet
              case rel => exact ⟨by simp, hg9⟩
            case rest =>
              obtain ⟨rfl, hgr⟩ := hcut
              obtain ⟨W4, hW9⟩ : ∃ W4, W4 = wc := ⟨_, rfl⟩
              subst hW9
              replace qa : (W4.cell? ⟨w.heap.size, 0, none⟩ = some (.int .i64 a1) ∧ W4.cell? ⟨w.heap.size, 1, none⟩ = some (.int .i64 a2)) := ⟨hgr.cell_at (by omega) qa.1, hgr.cell_at (by omega) qa.2⟩
              replace qb : (W4.cell? ⟨w.heap.size + 1, 0, none⟩ = some (.int .i64 b1) ∧ W4.cell? ⟨w.heap.size + 1, 1, none⟩ = some (.int .i64 b2)) := ⟨hgr.cell_at (by omega) qb.1, hgr.cell_at (by omega) qb.2⟩
              replace qc : (W4.cell? ⟨w.heap.size + 1 + 1, 0, none⟩ = some (.int .i64 c1) ∧ W4.cell? ⟨w.heap.size + 1 + 1, 1, none⟩ = some (.int .i64 c2)) := ⟨hgr.cell_at (by omega) qc.1, hgr.cell_at (by omega) qc.2⟩
              replace qd : (W4.cell? ⟨w.heap.size + 1 + 1 + 1, 0, none⟩ = some (.int .i64 d1) ∧ W4.cell? ⟨w.heap.size + 1 + 1 + 1, 1, none⟩ = some (.int .i64 d2)) := ⟨hgr.cell_at (by omega) qd.1, hgr.cell_at (by omega) qd.2⟩
              replace q8 : (W4.cell? ⟨w.heap.size + 1 + 1 + 1 + 1, 0, none⟩ = some (.int .i64 a1) ∧ W4.cell? ⟨w.heap.size + 1 + 1 + 1 + 1, 1, none⟩ = some (.int .i64 a2) ∧ W4.cell? ⟨w.heap.size + 1 + 1 + 1 + 1, 2, none⟩ = some (.int .i64 b1) ∧ W4.cell? ⟨w.heap.size + 1 + 1 + 1 + 1, 3, none⟩ = some (.int .i64 b2) ∧ W4.cell? ⟨w.heap.size + 1 + 1 + 1 + 1, 4, none⟩ = some (.int .i64 c1) ∧ W4.cell? ⟨w.heap.size + 1 + 1 + 1 + 1, 5, none⟩ = some (.int .i64 c2) ∧ W4.cell? ⟨w.heap.size + 1 + 1 + 1 + 1, 6, none⟩ = some (.int .i64 d1) ∧ W4.cell? ⟨w.heap.size + 1 + 1 + 1 + 1, 7, none⟩ = some (.int .i64 d2)) := ⟨hgr.cell_at (by omega) q8.1, hgr.cell_at (by omega) q8.2.1, hgr.cell_at (by omega) q8.2.2.1, hgr.cell_at (by omega) q8.2.2.2.1, hgr.cell_at (by omega) q8.2.2.2.2.1, hgr.cell_at (by omega) q8.2.2.2.2.2.1, hgr.cell_at (by omega) q8.2.2.2.2.2.2.1, hgr.cell_at (by omega) q8.2.2.2.2.2.2.2⟩
              replace hown := own_gr4 hown hgr
              replace x1' := hgr.cell_at (by omega) x1'
              replace x2' := hgr.cell_at (by omega) x2'
              replace HB : Hid (Below w.heap.size w W4) := HB.out.trans (hgr.below.mono (by omega))
              have hsz := hgr.size
              replace ka : w.heap.size + 5 ≤ W4.heap.size := by omega
              clear hsz hgr
              have HR1 : Hid (runK p (L.drop (k + 1)) (([] : List (Int × Int)) ++ [(x, y)]).head? = T) := by
                unfold Hid; rw [← HR.out, HD.out]; exact (runK_new HPk.out).symm
              clear HR HD HPk hA
              go_upto_region 9 with fail
              go_wp2_with (first | (at_builtin; refine wpList_append_own _ rfl _ _ 29 rfl (w.heap.size + 5) 27 i0 (.agg #[.int .i64 0, .int .i64 0]) 2 16 Try.underlying29 hi hz0 hz1 hz2 rfl (by decide) _ _ _ rfl (hown.alloc _) ⟨W4.heap.size, 0, none⟩ 1 1 (ptCs [(x, y)]) rfl ?c0 ?c1 ?c2 ?c3 ?c4 ?c5 ?_) | go_in)
              case c0 => rfl
              case c1 =>
                intro j u hu
                match j, hu with
                | 0, hu => simp [ptCs] at hu; subst hu; simp [go_sem, addr_add]
                | 1, hu => simp [ptCs] at hu; subst hu; simp [go_sem, addr_add]
                | j + 2, hu => simp [ptCs] at hu
              case c2 => exact ptCs_one _
              case c3 => unfold maxLen; omega
              case c4 => omega
              case c5 => simp; omega
              intro v' w1 hown' hgrow _
              have hbe : Below (w.heap.size + 5) W4 w1 := (Below.alloc (Below.refl _ _) (by omega) _).trans (below_grown hgrow (by simp; omega) (fun k9 e9 => (World.ownsRow.lt hown k9 e9).1))
              have hsz := hbe.size
              have qa9 : (w1.cell? ⟨w.heap.size, 0, none⟩ = some (.int .i64 a1) ∧ w1.cell? ⟨w.heap.size, 1, none⟩ = some (.int .i64 a2)) := ⟨(hbe.cell (p := ⟨w.heap.size, 0, none⟩) (by simp; try omega)).trans qa.1, (hbe.cell (p := ⟨w.heap.size, 1, none⟩) (by simp; try omega)).trans qa.2⟩
              have qb9 : (w1.cell? ⟨w.heap.size + 1, 0, none⟩ = some (.int .i64 b1) ∧ w1.cell? ⟨w.heap.size + 1, 1, none⟩ = some (.int .i64 b2)) := ⟨(hbe.cell (p := ⟨w.heap.size + 1, 0, none⟩) (by simp; try omega)).trans qb.1, (hbe.cell (p := ⟨w.heap.size + 1, 1, none⟩) (by simp; try omega)).trans qb.2⟩
              have qc9 : (w1.cell? ⟨w.heap.size + 1 + 1, 0, none⟩ = some (.int .i64 c1) ∧ w1.cell? ⟨w.heap.size + 1 + 1, 1, none⟩ = some (.int .i64 c2)) := ⟨(hbe.cell (p := ⟨w.heap.size + 1 + 1, 0, none⟩) (by simp; try omega)).trans qc.1, (hbe.cell (p := ⟨w.heap.size + 1 + 1, 1, none⟩) (by simp; try omega)).trans qc.2⟩
              have qd9 : (w1.cell? ⟨w.heap.size + 1 + 1 + 1, 0, none⟩ = some (.int .i64 d1) ∧ w1.cell? ⟨w.heap.size + 1 + 1 + 1, 1, none⟩ = some (.int .i64 d2)) := ⟨(hbe.cell (p := ⟨w.heap.size + 1 + 1 + 1, 0, none⟩) (by simp; try omega)).trans qd.1, (hbe.cell (p := ⟨w.heap.size + 1 + 1 + 1, 1, none⟩) (by simp; try omega)).trans qd.2⟩
              have q89 : (w1.cell? ⟨w.heap.size + 1 + 1 + 1 + 1, 0, none⟩ = some (.int .i64 a1) ∧ w1.cell? ⟨w.heap.size + 1 + 1 + 1 + 1, 1, none⟩ = some (.int .i64 a2) ∧ w1.cell? ⟨w.heap.size + 1 + 1 + 1 + 1, 2, none⟩ = some (.int .i64 b1) ∧ w1.cell? ⟨w.heap.size + 1 + 1 + 1 + 1, 3, none⟩ = some (.int .i64 b2) ∧ w1.cell? ⟨w.heap.size + 1 + 1 + 1 + 1, 4, none⟩ = some (.int .i64 c1) ∧ w1.cell? ⟨w.heap.size + 1 + 1 + 1 + 1, 5, none⟩ = some (.int .i64 c2) ∧ w1.cell? ⟨w.heap.size + 1 + 1 + 1 + 1, 6, none⟩ = some (.int .i64 d1) ∧ w1.cell? ⟨w.heap.size + 1 + 1 + 1 + 1, 7, none⟩ = some (.int .i64 d2)) := ⟨(hbe.cell (p := ⟨w.heap.size + 1 + 1 + 1 + 1, 0, none⟩) (by simp; try omega)).trans q8.1, (hbe.cell (p := ⟨w.heap.size + 1 + 1 + 1 + 1, 1, none⟩) (by simp; try omega)).trans q8.2.1, (hbe.cell (p := ⟨w.heap.size + 1 + 1 + 1 + 1, 2, none⟩) (by simp; try omega)).trans q8.2.2.1, (hbe.cell (p := ⟨w.heap.size + 1 + 1 + 1 + 1, 3, none⟩) (by simp; try omega)).trans q8.2.2.2.1, (hbe.cell (p := ⟨w.heap.size + 1 + 1 + 1 + 1, 4, none⟩) (by simp; try omega)).trans q8.2.2.2.2.1, (hbe.cell (p := ⟨w.heap.size + 1 + 1 + 1 + 1, 5, none⟩) (by simp; try omega)).trans q8.2.2.2.2.2.1, (hbe.cell (p := ⟨w.heap.size + 1 + 1 + 1 + 1, 6, none⟩) (by simp; try omega)).trans q8.2.2.2.2.2.2.1, (hbe.cell (p := ⟨w.heap.size + 1 + 1 + 1 + 1, 7, none⟩) (by simp; try omega)).trans q8.2.2.2.2.2.2.2⟩
              have HB1 : Hid (Below w.heap.size w w1) := HB.out.trans (hbe.mono (by omega))
              have k1 : w.heap.size + 5 ≤ w1.heap.size := by omega
              clear hbe hsz hgrow hown x1' x2' HB qa qb qc qd q8
              rw [← ptCs_append] at hown'
              go_wp2
              go_roundw
              case rel =>
                exact ⟨k + 1, ([] : List (Int × Int)) ++ [(x, y)], by omega, by go_num, by simp, by rw [HR1.out]; exact rfl, by rw [List.length_append, HLn.out]; exact hown', qa9, qb9, qc9, qd9, q89, ⟨k1, HB1.out⟩⟩
              case measure => simp [intOf]; omega
    · obtain rfl : k = 4 := by omega
      have HT4 : Hid (some l.head? = T) := by unfold Hid; rw [← HR.out, HL.out]; rfl
      clear HR HP HL
      obtain ⟨A, n, CC, hv, HLn⟩ : ∃ (A : Option Addr) (n CC : Nat), u10 = .slice A n CC ∧ Hid (l.length = n) := by
        rcases hown.2 with ⟨h1, h2⟩ | ⟨g, cap, cur, h1, hb, h2, _⟩
        · exact ⟨none, 0, 0, h1, h2⟩
        · exact ⟨_, _, _, h1, rfl⟩
      subst hv
      clear hown hlk
      by_cases hn : 0 < n
      · have hd : decide (0 < n) = true := by simp [hn]
        have hd' : (0 : Int) < n := by omega
        have HE : Hid (1 = RK) := by
          unfold Hid
          rw [← HK.out, ← HT4.out]
          match l, HLn with
          | [], h => simp [Hid] at h; omega
          | u :: bs, _ => rfl
        clear HK HT4 HLn
        go_wp2
        go_ret
        exact ⟨ret_int' HE.out, IsGr.of_below HB.out⟩
      · obtain rfl : n = 0 := by omega
        obtain rfl : l = [] := List.length_eq_zero_iff.1 HLn.out
        have HE : Hid ((if f = true then 1 else 0) = RK) := by
          unfold Hid
          rw [← HK.out, ← HT4.out]
          rfl
        clear HK HT4 HLn
        obtain ⟨e1, e2⟩ := qa
        obtain ⟨e3, e4⟩ := qb
        obtain ⟨e5, e6⟩ := qc
        obtain ⟨e7, e8⟩ := qd
        cases f
        · go_wp2_with fail
          refine (CF _).mono ?_
          rintro e w1 ⟨rfl, os1, dr1, rfl⟩
          go_wp2
          go_ret
          exact ⟨ret_int' HE.out, (IsGr.of_below HB.out).trans (by with_reducible repeat (first | exact IsGr.refl _ | refine IsGr.gr ?_ _ _ | refine IsGr.alloc ?_ _ | refine IsGr.drew ?_ | refine IsGr.drewN ?_ _))⟩
        · go_wp2_with fail
          refine (CF _).mono ?_
          rintro e w1 ⟨rfl, os1, dr1, rfl⟩
          go_wp2
          go_ret
          exact ⟨ret_int' HE.out, (IsGr.of_below HB.out).trans (by with_reducible repeat (first | exact IsGr.refl _ | refine IsGr.gr ?_ _ _ | refine IsGr.alloc ?_ _ | refine IsGr.drew ?_ | refine IsGr.drewN ?_ _))⟩
end Go.Proofs.Ytohhlhoijanjfaa
