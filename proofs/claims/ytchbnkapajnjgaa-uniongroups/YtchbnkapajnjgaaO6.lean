/- Contracts of package union over the loaded program: Least, Size, Same. -/
import Derived.Test.YtchbnkapajnjgaaO5
import Derived.Deep.CutRange
namespace Go.Proofs.Ytchbnkapajnjgaa
open Go.RowKit Go.Shelf
attribute [local go_sem] Gr.size Gr.cell? Gr.frozen? Gr.setCell Gr.drew Gr.drewN Gr.of_drew Gr.of_drewN Gr.gr Gr.lt_of1 Gr.le_of1 Gr.lt_of2 Gr.le_of2 Gr.lt_of3 Gr.le_of3 Gr.lt_of4 Gr.le_of4 Gr.lt_of5 Gr.le_of5 Gr.lt_of6 Gr.le_of6 Gr.lt_of7 Gr.le_of7 Gr.lt_of8 Gr.le_of8 Gr.lt_of9 Gr.le_of9 Gr.lt_of10 Gr.le_of10 Gr.lt_of11 Gr.le_of11 Gr.lt_of12 Gr.le_of12 Gr.lt_of13 Gr.le_of13 Gr.lt_of14 Gr.le_of14 Gr.lt_of15 Gr.le_of15 Gr.lt_of16 Gr.le_of16 Gr.lt_of17 Gr.le_of17 Gr.lt_of18 Gr.le_of18 Gr.lt_of19 Gr.le_of19 Gr.lt_of20 Gr.le_of20 Gr.lt_of21 Gr.le_of21 Gr.lt_of22 Gr.le_of22 Gr.lt_of23 Gr.le_of23 Gr.lt_of24 Gr.le_of24
theorem Tp.rng {u x : List Int} {i r : Nat} (hr : Tp u x i r) : (r : Int) < x.length := by have := hr.lt; omega
/-- Are two in one set? -/
def smB (x : List Int) (a b : Int) : Bool := wth a x.length && (wth b x.length && decide (x.getD a.toNat 0 = x.getD b.toNat 0))
theorem wth_nat {a n : Nat} (h : a < n) : wth (a : Int) (n : Int) = true := by unfold wth; simp; omega
theorem wth_out {a : Int} {n : Nat} (h : wth a n = true) : ∃ i : Nat, a = i ∧ i < n := by
  unfold wth at h
  simp at h
  exact ⟨a.toNat, by omega, by omega⟩

set_option maxRecDepth 20000 in set_option maxHeartbeats 2000000 in
theorem Least_no {t gu gz gm n : Nat} {k : Int} (a : Int) (w : World) (h : Sb w t gu gz gm n k) (ha : wth a n = false) : Calls Try.prog 16 #[.pointer (some ⟨t, 0, none⟩), .int .i64 a] w fun e w' => e = .returned (.tuple #[.int .i64 (0), .int .i64 11]) ∧ w' = w := by
  have CH := has_any a w h
  rw [ha] at CH
  clear h
  go_enter Try.func16, Try.ntmps16
  go_wp2_with fail
  refine CH.mono ?_
  rintro e w1 ⟨rfl, e1⟩
  obtain rfl := e1.symm
  go_wp2_with fail
  exact bodyPost_ret (v := .tuple #[.int .i64 (0), .int .i64 11]) (by simp [results, Try.results16, go_sem]) rfl ⟨rfl, rfl⟩
set_option maxRecDepth 20000 in set_option maxHeartbeats 2000000 in
theorem Least_yes {base t gu gz gm : Nat} {x : List Int} (i : Nat) (w : World) (h : Un w base t gu gz gm x) (hi : i < x.length) : Calls Try.prog 16 #[.pointer (some ⟨t, 0, none⟩), .int .i64 i] w fun e w' => e = .returned (.tuple #[.int .i64 (x.getD i 0), .int .i64 0]) ∧ IsGr w w' := by
  obtain ⟨u, z, m, hU, hM⟩ := h.tr
  obtain ⟨r, hr⟩ := hU.top hi
  have CH := has_any i w hM.b
  rw [wth_nat hi] at CH
  have CT := fun w' (hg : IsGr w w') => (top_any hU i r w' (hM.gr hg) hi hr).mono (fun e w2 ⟨h1, h2⟩ => (⟨h1, h2 ▸ IsGr.refl _⟩ : e = _ ∧ IsGr w' w2))
  have c2 := hM.b.c2
  obtain ⟨y, hy⟩ : ∃ y, m.getD r 0 = y := ⟨_, rfl⟩
  have cr := hM.rm.cell (i := r) (by rw [hU.lm]; exact hr.lt)
  rw [hy] at cr
  have HV : Hid (x.getD i 0 = y) := by show _ = _; rw [← hy, hU.ls r hr.lt hr.top, hr.same]
  rw [HV.out]
  have hrn := hr.rng
  clear h hU hM hr hi hy
  obtain ⟨n, hn⟩ : ∃ n, x.length = n := ⟨_, rfl⟩
  rw [hn] at hrn c2
  clear hn
  go_enter Try.func16, Try.ntmps16
  go_wp2_with fail
  refine CH.mono ?_
  rintro e w1 ⟨rfl, e1⟩
  obtain rfl := e1.symm
  go_upto_region 3 with fail
  obtain ⟨C, hin, hcl, hcells, hgr⟩ : ∃ C : World → Prop, (∀ w', IsGr w w' → C w') ∧ (∀ u u', C u → IsGr u u' → C u') ∧ (∀ w', C w' → (w'.cell? ⟨t, 2, none⟩ = some (.slice (some ⟨gm, 0, none⟩) n n)) ∧ (w'.cell? ⟨gm, r, none⟩ = some (.int .i64 y))) ∧ (∀ w', C w' → IsGr w w') := ⟨fun w' => IsGr w w', fun _ h => h, fun _ _ h k => h.trans k, fun w' hg => ⟨cellk c2 hg, cellk cr hg⟩, fun _ h => h⟩
  refine wp_region_quietV C (by kernel_rfl) (by kernel_rfl) (hin _ (by with_reducible repeat (first | exact IsGr.refl _ | refine IsGr.gr ?_ _ _ | refine IsGr.alloc ?_ _ | refine IsGr.drew ?_ | refine IsGr.drewN ?_ _))) (fun K HK => ?_)
  refine QK.take HK ?_ (by rfl) ?_ ?_
  rotate_left
  · (intro w hw; (try have hcs := hcells w hw); (try go_split_ands); go_simp <;> with_reducible rfl)
  (try simp only [Act.put, List.setIfInBounds_toArray, List.set_cons_zero, List.set_cons_succ])
  refine QK.take HK ?_ (by rfl) ?_ ?_
  rotate_left
  · (intro w hw; (try have hcs := hcells w hw); (try go_split_ands); go_simp <;> with_reducible rfl)
  (try simp only [Act.put, List.setIfInBounds_toArray, List.set_cons_zero, List.set_cons_succ])
  refine QK.take HK ?_ (by rfl) ?_ ?_
  rotate_left
  · (intro w hw; (try have hcs := hcells w hw); (try go_split_ands); go_simp <;> with_reducible rfl)
  (try simp only [Act.put, List.setIfInBounds_toArray, List.set_cons_zero, List.set_cons_succ])
  refine QK.take HK ?_ (by rfl) ?_ ?_
  rotate_left
  · (intro w hw; (try have hcs := hcells w hw); (try go_split_ands); go_simp <;> with_reducible rfl)
  (try simp only [Act.put, List.setIfInBounds_toArray, List.set_cons_zero, List.set_cons_succ])
  refine QK.take HK ?_ (by rfl) ?_ ?_
  rotate_left
  · (intro w hw; (try have hcs := hcells w hw); (try go_split_ands); go_simp <;> with_reducible rfl)
  (try simp only [Act.put, List.setIfInBounds_toArray, List.set_cons_zero, List.set_cons_succ])
  refine QK.take HK ?_ (by rfl) ?_ ?_
  rotate_left
  · (intro w hw; (try have hcs := hcells w hw); (try go_split_ands); go_simp <;> with_reducible rfl)
  (try simp only [Act.put, List.setIfInBounds_toArray, List.set_cons_zero, List.set_cons_succ])
  refine QK.callC HK 24 #[.pointer (some ⟨t, 0, none⟩), .int .i64 i] (.int .i64 r) hcl (by rfl) (fun w => by go_simp) (fun w hw => CT w (hgr w hw)) ?_
  (try simp only [Act.put, List.setIfInBounds_toArray, List.set_cons_zero, List.set_cons_succ])
  refine QK.take HK ?_ (by rfl) ?_ ?_
  rotate_left
  · (intro w hw; (try have hcs := hcells w hw); (try go_split_ands); go_simp <;> with_reducible rfl)
  (try simp only [Act.put, List.setIfInBounds_toArray, List.set_cons_zero, List.set_cons_succ])
  refine QK.take HK ?_ (by rfl) ?_ ?_
  rotate_left
  · (intro w hw; (try have hcs := hcells w hw); (try go_split_ands); go_simp <;> with_reducible rfl)
  (try simp only [Act.put, List.setIfInBounds_toArray, List.set_cons_zero, List.set_cons_succ])
  refine QK.take HK ?_ (by rfl) ?_ ?_
  rotate_left
  · (intro w hw; (try have hcs := hcells w hw); (try go_split_ands); go_simp <;> with_reducible rfl)
  (try simp only [Act.put, List.setIfInBounds_toArray, List.set_cons_zero, List.set_cons_succ])
  refine QK.take HK ?_ (by rfl) ?_ ?_
  rotate_left
  · (intro w hw; (try have hcs := hcells w hw); (try go_split_ands); go_simp <;> with_reducible rfl)
  (try simp only [Act.put, List.setIfInBounds_toArray, List.set_cons_zero, List.set_cons_succ])
  refine QK.nil HK ?_
  clear HK K
  intro wq hq
  have hgq := hgr wq hq
  clear hq hgr hin hcl hcells CT CH cr c2
  go_wp2_with fail
  exact bodyPost_ret (v := .tuple #[.int .i64 y, .int .i64 0]) (by simp [results, Try.results16, go_sem]) rfl ⟨rfl, hgq⟩

set_option maxRecDepth 20000 in set_option maxHeartbeats 2000000 in
theorem Size_no {t gu gz gm n : Nat} {k : Int} (a : Int) (w : World) (h : Sb w t gu gz gm n k) (ha : wth a n = false) : Calls Try.prog 22 #[.pointer (some ⟨t, 0, none⟩), .int .i64 a] w fun e w' => e = .returned (.int .i64 (0)) ∧ w' = w := by
  have CH := has_any a w h
  rw [ha] at CH
  clear h
  go_enter Try.func22, Try.ntmps22
  go_wp2_with fail
  refine CH.mono ?_
  rintro e w1 ⟨rfl, e1⟩
  obtain rfl := e1.symm
  go_wp2_with fail
  go_ret
  exact ⟨rfl, rfl⟩
set_option maxRecDepth 20000 in set_option maxHeartbeats 2000000 in
theorem Size_yes {base t gu gz gm : Nat} {x : List Int} (i : Nat) (w : World) (h : Un w base t gu gz gm x) (hi : i < x.length) : Calls Try.prog 22 #[.pointer (some ⟨t, 0, none⟩), .int .i64 i] w fun e w' => e = .returned (.int .i64 ((siz x (x.getD i 0) x.length : Nat))) ∧ IsGr w w' := by
  obtain ⟨u, z, m, hU, hM⟩ := h.tr
  obtain ⟨r, hr⟩ := hU.top hi
  have CH := has_any i w hM.b
  rw [wth_nat hi] at CH
  have CT := fun w' (hg : IsGr w w') => (top_any hU i r w' (hM.gr hg) hi hr).mono (fun e w2 ⟨h1, h2⟩ => (⟨h1, h2 ▸ IsGr.refl _⟩ : e = _ ∧ IsGr w' w2))
  have c1 := hM.b.c1
  obtain ⟨y, hy⟩ : ∃ y, z.getD r 0 = y := ⟨_, rfl⟩
  have cr := hM.rz.cell (i := r) (by rw [hU.lz]; exact hr.lt)
  rw [hy] at cr
  have HV : Hid ((siz x (x.getD i 0) x.length : Nat) = y) := by show _ = _; rw [← hy, hU.sz r hr.lt hr.top, hr.same]
  rw [HV.out]
  have hrn := hr.rng
  clear h hU hM hr hi hy
  obtain ⟨n, hn⟩ : ∃ n, x.length = n := ⟨_, rfl⟩
  rw [hn] at hrn c1
  clear hn
  go_enter Try.func22, Try.ntmps22
  go_wp2_with fail
  refine CH.mono ?_
  rintro e w1 ⟨rfl, e1⟩
  obtain rfl := e1.symm
  go_upto_region 3 with fail
  obtain ⟨C, hin, hcl, hcells, hgr⟩ : ∃ C : World → Prop, (∀ w', IsGr w w' → C w') ∧ (∀ u u', C u → IsGr u u' → C u') ∧ (∀ w', C w' → (w'.cell? ⟨t, 1, none⟩ = some (.slice (some ⟨gz, 0, none⟩) n n)) ∧ (w'.cell? ⟨gz, r, none⟩ = some (.int .i64 y))) ∧ (∀ w', C w' → IsGr w w') := ⟨fun w' => IsGr w w', fun _ h => h, fun _ _ h k => h.trans k, fun w' hg => ⟨cellk c1 hg, cellk cr hg⟩, fun _ h => h⟩
  refine wp_region_quietV C (by kernel_rfl) (by kernel_rfl) (hin _ (by with_reducible repeat (first | exact IsGr.refl _ | refine IsGr.gr ?_ _ _ | refine IsGr.alloc ?_ _ | refine IsGr.drew ?_ | refine IsGr.drewN ?_ _))) (fun K HK => ?_)
  refine QK.take HK ?_ (by rfl) ?_ ?_
  rotate_left
  · (intro w hw; (try have hcs := hcells w hw); (try go_split_ands); go_simp <;> with_reducible rfl)
  (try simp only [Act.put, List.setIfInBounds_toArray, List.set_cons_zero, List.set_cons_succ])
  refine QK.take HK ?_ (by rfl) ?_ ?_
  rotate_left
  · (intro w hw; (try have hcs := hcells w hw); (try go_split_ands); go_simp <;> with_reducible rfl)
  (try simp only [Act.put, List.setIfInBounds_toArray, List.set_cons_zero, List.set_cons_succ])
  refine QK.take HK ?_ (by rfl) ?_ ?_
  rotate_left
  · (intro w hw; (try have hcs := hcells w hw); (try go_split_ands); go_simp <;> with_reducible rfl)
  (try simp only [Act.put, List.setIfInBounds_toArray, List.set_cons_zero, List.set_cons_succ])
  refine QK.take HK ?_ (by rfl) ?_ ?_
  rotate_left
  · (intro w hw; (try have hcs := hcells w hw); (try go_split_ands); go_simp <;> with_reducible rfl)
  (try simp only [Act.put, List.setIfInBounds_toArray, List.set_cons_zero, List.set_cons_succ])
  refine QK.take HK ?_ (by rfl) ?_ ?_
  rotate_left
  · (intro w hw; (try have hcs := hcells w hw); (try go_split_ands); go_simp <;> with_reducible rfl)
  (try simp only [Act.put, List.setIfInBounds_toArray, List.set_cons_zero, List.set_cons_succ])
  refine QK.take HK ?_ (by rfl) ?_ ?_
  rotate_left
  · (intro w hw; (try have hcs := hcells w hw); (try go_split_ands); go_simp <;> with_reducible rfl)
  (try simp only [Act.put, List.setIfInBounds_toArray, List.set_cons_zero, List.set_cons_succ])
  refine QK.callC HK 24 #[.pointer (some ⟨t, 0, none⟩), .int .i64 i] (.int .i64 r) hcl (by rfl) (fun w => by go_simp) (fun w hw => CT w (hgr w hw)) ?_
  (try simp only [Act.put, List.setIfInBounds_toArray, List.set_cons_zero, List.set_cons_succ])
  refine QK.take HK ?_ (by rfl) ?_ ?_
  rotate_left
  · (intro w hw; (try have hcs := hcells w hw); (try go_split_ands); go_simp <;> with_reducible rfl)
  (try simp only [Act.put, List.setIfInBounds_toArray, List.set_cons_zero, List.set_cons_succ])
  refine QK.take HK ?_ (by rfl) ?_ ?_
  rotate_left
  · (intro w hw; (try have hcs := hcells w hw); (try go_split_ands); go_simp <;> with_reducible rfl)
  (try simp only [Act.put, List.setIfInBounds_toArray, List.set_cons_zero, List.set_cons_succ])
  refine QK.take HK ?_ (by rfl) ?_ ?_
  rotate_left
  · (intro w hw; (try have hcs := hcells w hw); (try go_split_ands); go_simp <;> with_reducible rfl)
  (try simp only [Act.put, List.setIfInBounds_toArray, List.set_cons_zero, List.set_cons_succ])
  refine QK.nil HK ?_
  clear HK K
  intro wq hq
  have hgq := hgr wq hq
  clear hq hgr hin hcl hcells CT CH cr c1
  go_wp2_with fail
  go_ret
  exact ⟨rfl, hgq⟩
set_option maxRecDepth 20000 in set_option maxHeartbeats 2000000 in
theorem Same_any {base t gu gz gm : Nat} {x : List Int} (a b : Int) (w : World) (h : Un w base t gu gz gm x) : Calls Try.prog 12 #[.pointer (some ⟨t, 0, none⟩), .int .i64 a, .int .i64 b] w fun e w' => e = .returned (.bool (smB x a b)) ∧ w' = w := by
  obtain ⟨u, z, m, hU, hM⟩ := h.tr
  have CA := has_any a w hM.b
  have CB := has_any b w hM.b
  obtain ⟨s, hs⟩ : ∃ s, smB x a b = s := ⟨_, rfl⟩
  rw [hs]
  unfold smB at hs
  cases ha : wth a x.length with
  | false =>
    rw [ha] at hs CA
    obtain rfl : s = false := by rw [← hs]; rfl
    clear h hU hM hs ha CB
    go_enter Try.func12, Try.ntmps12
    go_wp2_with fail
    refine CA.mono ?_
    rintro e w1 ⟨rfl, e1⟩
    obtain rfl := e1.symm
    go_wp2_with fail
    go_ret
    exact ⟨rfl, rfl⟩
  | true =>
    cases hb : wth b x.length with
    | false =>
      rw [ha, hb] at hs
      rw [ha] at CA
      rw [hb] at CB
      obtain rfl : s = false := by rw [← hs]; rfl
      clear h hU hM hs ha hb
      go_enter Try.func12, Try.ntmps12
      go_wp2_with fail
      refine CA.mono ?_
      rintro e w1 ⟨rfl, e1⟩
      obtain rfl := e1.symm
      go_wp2_with fail
      refine CB.mono ?_
      rintro e w1 ⟨rfl, e1⟩
      obtain rfl := e1.symm
      go_wp2_with fail
      go_ret
      exact ⟨rfl, rfl⟩
    | true =>
      rw [ha, hb] at hs
      rw [ha] at CA
      rw [hb] at CB
      obtain ⟨i, rfl, hi⟩ := wth_out ha
      obtain ⟨j, rfl, hj⟩ := wth_out hb
      obtain ⟨r, hr⟩ := hU.top hi
      obtain ⟨q, hq⟩ := hU.top hj
      have CR := top_any hU i r w hM hi hr
      have CQ := top_any hU j q w hM hj hq
      have hrq : ((r : Int) == (q : Int)) = s := by
        rw [← hs]
        simp only [Bool.true_and, Int.toNat_natCast]
        by_cases e : x.getD i 0 = x.getD j 0
        · have := hU.one r q hr.lt hq.lt hr.top hq.top (hr.same.trans (e.trans hq.same.symm))
          rw [decide_eq_true e, this]; simp
        · rw [decide_eq_false e]
          simp only [beq_eq_false_iff_ne, ne_eq]
          intro e2
          have e3 : r = q := by omega
          exact e (by rw [← hr.same, ← hq.same, e3])
      clear h hU hM hs ha hb hr hq hi hj
      go_enter Try.func12, Try.ntmps12
      go_wp2_with fail
      refine CA.mono ?_
      rintro e w1 ⟨rfl, e1⟩
      obtain rfl := e1.symm
      go_wp2_with fail
      refine CB.mono ?_
      rintro e w1 ⟨rfl, e1⟩
      obtain rfl := e1.symm
      go_wp2_with fail
      refine CR.mono ?_
      rintro e w1 ⟨rfl, e1⟩
      obtain rfl := e1.symm
      go_wp2_with fail
      refine CQ.mono ?_
      rintro e w1 ⟨rfl, e1⟩
      obtain rfl := e1.symm
      go_wp2_with fail
      go_ret
      exact ⟨rfl, rfl⟩
end Go.Proofs.Ytchbnkapajnjgaa
