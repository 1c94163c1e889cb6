/- Contracts of package avl over the loaded program: sound. -/
import Derived.Test.YtaackkfegkmpkaaE13
namespace Go.Proofs.Ytaackkfegkmpkaa
open Go.RowKit
attribute [local go_sem] Gr.size Gr.cell? Gr.frozen? Gr.setCell Gr.drew Gr.drewN Gr.of_drew Gr.of_drewN Gr.gr Gr.lt_of1 Gr.le_of1 Gr.lt_of2 Gr.le_of2 Gr.lt_of3 Gr.le_of3 Gr.lt_of4 Gr.le_of4 Gr.lt_of5 Gr.le_of5 Gr.lt_of6 Gr.le_of6 Gr.lt_of7 Gr.le_of7 Gr.lt_of8 Gr.le_of8 Gr.lt_of9 Gr.le_of9 Gr.lt_of10 Gr.le_of10 Gr.lt_of11 Gr.le_of11 Gr.lt_of12 Gr.le_of12 Gr.lt_of13 Gr.le_of13 Gr.lt_of14 Gr.le_of14 Gr.lt_of15 Gr.le_of15 Gr.lt_of16 Gr.le_of16 Gr.lt_of17 Gr.le_of17 Gr.lt_of18 Gr.le_of18 Gr.lt_of19 Gr.le_of19 Gr.lt_of20 Gr.le_of20 Gr.lt_of21 Gr.le_of21 Gr.lt_of22 Gr.le_of22 Gr.lt_of23 Gr.le_of23 Gr.lt_of24 Gr.le_of24
set_option maxRecDepth 20000 in set_option maxHeartbeats 1000000 in
theorem sound_nil (w : World) : Calls Try.prog 31 #[.pointer none] w fun e w' => e = .returned (.bool true) ∧ w' = w := by
  go_enter Try.func31, Try.ntmps31
  go_wp2_with fail
  go_ret
  exact ⟨rfl, rfl⟩

set_option maxRecDepth 20000 in set_option maxHeartbeats 1000000 in
theorem sound_any (T : AT) : ∀ w, InT w T → T.ok → T.ht ≤ 900 → Calls Try.prog 31 #[.pointer T.ptr] w fun e w' => e = .returned (.bool true) ∧ IsGr w w' := by
  induction T with
  | nil =>
    intro w _ _ _
    refine (sound_nil w).mono ?_
    rintro e w' ⟨rfl, rfl⟩
    exact ⟨rfl, IsGr.refl _⟩
  | nd b x l r ihl ihr =>
    intro w h ho hh
    obtain ⟨ol, or', k1, k2⟩ := ho
    simp only [AT.ht] at hh
    have CL := fun w' (hg : IsGr w w') => ihl w' (h.2.1.gr hg) ol (by omega)
    have CR := fun w' (hg : IsGr w w') => ihr w' (h.2.2.gr hg) or' (by omega)
    have CM := fun w' (hg : IsGr w w') => measured_any b x _ l r w' (h.1.gr hg) (h.2.1.gr hg) (h.2.2.gr hg) (by omega) (by omega)
    have C0 := fun w' (hg : IsGr w w') => lean0_any b x _ l r w' (h.1.gr hg) (h.2.1.gr hg) (h.2.2.gr hg) (by omega) (by omega)
    have C1 := fun w' (hg : IsGr w w') => lean1_any b x _ l r w' (h.1.gr hg) (h.2.1.gr hg) (h.2.2.gr hg) (by omega) (by omega)
    have hN := h.1
    obtain ⟨e0, he0⟩ : ∃ e0 : Int, (l.ht : Int) - r.ht = e0 := ⟨_, rfl⟩
    obtain ⟨e1, he1⟩ : ∃ e1 : Int, (r.ht : Int) - l.ht = e1 := ⟨_, rfl⟩
    have d0 : decide (e0 ≤ 1) = true := decide_eq_true (by omega)
    have d1 : decide (e1 ≤ 1) = true := decide_eq_true (by omega)
    simp only [he0] at C0
    simp only [he1] at C1
    obtain ⟨m, hm⟩ : ∃ m : Int, (((AT.nd b x l r).ht : Nat) : Int) = m := ⟨_, rfl⟩
    have hm2 : ((1 + max l.ht r.ht : Nat) : Int) = m := hm
    rw [hm] at hN
    simp only [hm2] at CM
    have c1 := hN.c1
    have c2 := fun w' (hg : IsGr w w') => (hN.gr hg).c2
    clear hm hm2 he0 he1 k1 k2 hh ihl ihr h ol or'
    show Calls Try.prog 31 #[.pointer (some ⟨b, 0, none⟩)] w _
    go_enter Try.func31, Try.ntmps31
    go_wp2_with fail
    refine (CL _ (IsGr.refl _)).mono ?_
    rintro e w1 ⟨rfl, hg1⟩
    have c3 := c2 _ hg1
    go_wp2_with fail
    refine (CR _ hg1).mono ?_
    rintro e w2 ⟨rfl, hg2⟩
    have hg := hg1.trans hg2
    go_upto_region 5 with fail
    obtain ⟨C, hin, hcl, hcells, hgr⟩ : ∃ C : World → Prop, (∀ w', IsGr w w' → C w') ∧ (∀ u u', C u → IsGr u u' → C u') ∧ (∀ w', C w' → (w'.cell? ⟨b, 3, none⟩ = some (.int .i64 m))) ∧ (∀ w', C w' → IsGr w w') := ⟨fun w' => IsGr w w', fun _ h => h, fun _ _ h k => h.trans k, fun w' hg => (hN.gr hg).c3, fun _ h => h⟩
    refine wp_region_quietV C (by kernel_rfl) (by kernel_rfl) (hin _ hg.drew) (fun K HK => ?_)
    refine QK.take HK ?_ (by rfl) ?_ ?_
    rotate_left
    · (intro w hw; (try have hcs := hcells w hw); (try go_split_ands); go_simp <;> with_reducible rfl)
    (try simp only [Act.put, List.setIfInBounds_toArray, List.set_cons_zero, List.set_cons_succ])
    refine QK.take HK ?_ (by rfl) ?_ ?_
    rotate_left
    · (intro w hw; (try have hcs := hcells w hw); (try go_split_ands); go_simp <;> with_reducible rfl)
    (try simp only [Act.put, List.setIfInBounds_toArray, List.set_cons_zero, List.set_cons_succ])
    refine QK.take HK ?_ (by rfl) ?_ ?_
    rotate_left
    · (intro w hw; (try have hcs := hcells w hw); (try go_split_ands); go_simp <;> with_reducible rfl)
    (try simp only [Act.put, List.setIfInBounds_toArray, List.set_cons_zero, List.set_cons_succ])
    refine QK.take HK ?_ (by rfl) ?_ ?_
    rotate_left
    · (intro w hw; (try have hcs := hcells w hw); (try go_split_ands); go_simp <;> with_reducible rfl)
    (try simp only [Act.put, List.setIfInBounds_toArray, List.set_cons_zero, List.set_cons_succ])
    refine QK.take HK ?_ (by rfl) ?_ ?_
    rotate_left
    · (intro w hw; (try have hcs := hcells w hw); (try go_split_ands); go_simp <;> with_reducible rfl)
    (try simp only [Act.put, List.setIfInBounds_toArray, List.set_cons_zero, List.set_cons_succ])
    refine QK.callC HK 43 #[.pointer (some ⟨b, 0, none⟩)] (.int .i64 m) hcl (by rfl) (fun w => by go_simp) (fun w hw => CM w (hgr w hw)) ?_
    (try simp only [Act.put, List.setIfInBounds_toArray, List.set_cons_zero, List.set_cons_succ])
    refine QK.take HK ?_ (by rfl) ?_ ?_
    rotate_left
    · (intro w hw; (try have hcs := hcells w hw); (try go_split_ands); go_simp <;> with_reducible rfl)
    (try simp only [Act.put, List.setIfInBounds_toArray, List.set_cons_zero, List.set_cons_succ])
    refine QK.take HK ?_ (by rfl) ?_ ?_
    rotate_left
    · (intro w hw; (try have hcs := hcells w hw); (try go_split_ands); go_simp <;> with_reducible rfl)
    (try simp only [Act.put, List.setIfInBounds_toArray, List.set_cons_zero, List.set_cons_succ])
    refine QK.take HK ?_ (by rfl) ?_ ?_
    rotate_left
    · (intro w hw; (try have hcs := hcells w hw); (try go_split_ands); go_simp <;> with_reducible rfl)
    (try simp only [Act.put, List.setIfInBounds_toArray, List.set_cons_zero, List.set_cons_succ])
    refine QK.callC HK 44 #[.pointer (some ⟨b, 0, none⟩), .int .i64 0] (.int .i64 e0) hcl (by rfl) (fun w => by go_simp) (fun w hw => C0 w (hgr w hw)) ?_
    (try simp only [Act.put, List.setIfInBounds_toArray, List.set_cons_zero, List.set_cons_succ])
    refine QK.take HK ?_ (by rfl) ?_ ?_
    rotate_left
    · (intro w hw; (try have hcs := hcells w hw); (try go_split_ands); go_simp <;> with_reducible rfl)
    (try simp only [Act.put, List.setIfInBounds_toArray, List.set_cons_zero, List.set_cons_succ])
    refine QK.take HK ?_ (by rfl) ?_ ?_
    rotate_left
    · (intro w hw; (try have hcs := hcells w hw); (try go_split_ands); go_simp <;> with_reducible rfl)
    (try simp only [Act.put, List.setIfInBounds_toArray, List.set_cons_zero, List.set_cons_succ])
    refine QK.take HK ?_ (by rfl) ?_ ?_
    rotate_left
    · (intro w hw; (try have hcs := hcells w hw); (try go_split_ands); go_simp <;> with_reducible rfl)
    (try simp only [Act.put, List.setIfInBounds_toArray, List.set_cons_zero, List.set_cons_succ])
    refine QK.take HK ?_ (by rfl) ?_ ?_
    rotate_left
    · (intro w hw; (try have hcs := hcells w hw); (try go_split_ands); go_simp <;> with_reducible rfl)
    (try simp only [Act.put, List.setIfInBounds_toArray, List.set_cons_zero, List.set_cons_succ])
    refine QK.callC HK 44 #[.pointer (some ⟨b, 0, none⟩), .int .i64 1] (.int .i64 e1) hcl (by rfl) (fun w => by go_simp) (fun w hw => C1 w (hgr w hw)) ?_
    (try simp only [Act.put, List.setIfInBounds_toArray, List.set_cons_zero, List.set_cons_succ])
    refine QK.take HK ?_ (by rfl) ?_ ?_
    rotate_left
    · (intro w hw; (try have hcs := hcells w hw); (try go_split_ands); go_simp <;> with_reducible rfl)
    (try simp only [Act.put, List.setIfInBounds_toArray, List.set_cons_zero, List.set_cons_succ])
    refine QK.take HK ?_ (by rfl) ?_ ?_
    rotate_left
    · (intro w hw; (try have hcs := hcells w hw); (try go_split_ands); go_simp <;> with_reducible rfl)
    (try simp only [Act.put, List.setIfInBounds_toArray, List.set_cons_zero, List.set_cons_succ])
    refine QK.take HK ?_ (by rfl) ?_ ?_
    rotate_left
    · (intro w hw; (try have hcs := hcells w hw); (try go_split_ands); go_simp <;> with_reducible rfl)
    (try simp only [Act.put, List.setIfInBounds_toArray, List.set_cons_zero, List.set_cons_succ])
    refine QK.nil HK ?_
    clear HK K
    intro wq hq
    have hgq := hgr wq hq
    clear hcells hin hcl hgr hq
    go_wp2_with fail
    go_ret
    exact ⟨rfl, hgq⟩
end Go.Proofs.Ytaackkfegkmpkaa
