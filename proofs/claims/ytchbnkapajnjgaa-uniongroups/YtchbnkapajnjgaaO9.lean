/- Contracts of package union over the loaded program: Numbers. -/
import Derived.Test.YtchbnkapajnjgaaO8
namespace Go.Proofs.Ytchbnkapajnjgaa
open Go.RowKit Go.Shelf
attribute [local go_sem] Gr.size Gr.cell? Gr.frozen? Gr.setCell Gr.drew Gr.drewN Gr.of_drew Gr.of_drewN Gr.gr Gr.lt_of1 Gr.le_of1 Gr.lt_of2 Gr.le_of2 Gr.lt_of3 Gr.le_of3 Gr.lt_of4 Gr.le_of4 Gr.lt_of5 Gr.le_of5 Gr.lt_of6 Gr.le_of6 Gr.lt_of7 Gr.le_of7 Gr.lt_of8 Gr.le_of8 Gr.lt_of9 Gr.le_of9 Gr.lt_of10 Gr.le_of10 Gr.lt_of11 Gr.le_of11 Gr.lt_of12 Gr.le_of12 Gr.lt_of13 Gr.le_of13 Gr.lt_of14 Gr.le_of14 Gr.lt_of15 Gr.le_of15 Gr.lt_of16 Gr.le_of16 Gr.lt_of17 Gr.le_of17 Gr.lt_of18 Gr.le_of18 Gr.lt_of19 Gr.le_of19 Gr.lt_of20 Gr.le_of20 Gr.lt_of21 Gr.le_of21 Gr.lt_of22 Gr.le_of22 Gr.lt_of23 Gr.le_of23 Gr.lt_of24 Gr.le_of24
/-- What Numbers has laid, the first a of them told. -/
structure Nb (w0 : World) (base t gu gz gm : Nat) (x : List Int) (g a : Nat) (w : World) : Prop where
  un : Un w base t gu gz gm x
  row : Row w g (prt (fun i : Nat => (cntU x (x.getD i 0).toNat : Int)) a x.length)
  low : w0.heap.size ≤ g
  bel : Below w0.heap.size w0 w
theorem Nb.gr {w0 w w' : World} {base t gu gz gm g a : Nat} {x : List Int} (h : Nb w0 base t gu gz gm x g a w) (hg : IsGr w w') : Nb w0 base t gu gz gm x g a w' :=
  ⟨h.un.gr hg, h.row.gr hg, h.low, h.bel.trans (hg.below.mono h.bel.size)⟩
theorem Nb.next {w0 w : World} {base t gu gz gm g a : Nat} {x : List Int} (h : Nb w0 base t gu gz gm x g a w) (hl : ∀ b ∈ [t, gu, gz, gm], b < w0.heap.size) (ha : a < x.length) {v : Int} (hv : v = (cntU x (x.getD a 0).toNat : Int)) :
    Nb w0 base t gu gz gm x g (a + 1) (w.setCell ⟨g, a, none⟩ (.int .i64 v)) := by
  have e1 := prt_set (fun i : Nat => (cntU x (x.getD i 0).toNat : Int)) ha
  refine ⟨h.un.wr (S := [g]) ((Wr.refl _ _).set _ _ _ (Or.inl (by simp))) (fun b hb hm => ?_), ?_, h.low, h.bel.setCell (p := ⟨g, a, none⟩) h.low _⟩
  · have := hl b hm
    have := h.low
    simp at hb
    omega
  · rw [← e1, hv]; exact h.row.set _ _
theorem prt_get (f : Nat → Int) {i a n : Nat} (hi : i < a) (hn : i < n) : (prt f a n).getD i 0 = f i := by
  simp [prt, List.getD, hi, hn]
theorem nums_prt (x : List Int) : prt (fun i : Nat => (cntU x (x.getD i 0).toNat : Int)) x.length x.length = nums x := by
  rw [prt_full]
  apply List.ext_getElem?
  intro i
  by_cases h : i < x.length <;> simp [nums, h, List.getD]

set_option maxRecDepth 20000 in set_option maxHeartbeats 2000000 in
theorem Numbers_any {base t gu gz gm : Nat} {x : List Int} (w : World) (h : Un w base t gu gz gm x) : Calls Try.prog 20 #[.pointer (some ⟨t, 0, none⟩)] w fun e w' => ∃ g, e = .returned (.slice (some ⟨g, 0, none⟩) x.length x.length) ∧ Row w' g (nums x) ∧ w.heap.size ≤ g ∧ Below w.heap.size w w' := by
  obtain ⟨u0, z0, m0, hU0, hM0⟩ := h.tr
  have c0 := hM0.b.c0
  have hmax := h.max
  obtain ⟨n, hn⟩ : ∃ n, x.length = n := ⟨_, rfl⟩
  have HN : Hid (x.length = n ∧ n ≤ 1048576) := ⟨hn, hn ▸ hmax⟩
  have HU : Hid (Un w base t gu gz gm x) := h
  have HLT : Hid (∀ b ∈ [t, gu, gz, gm], b < w.heap.size) := h.lt
  have HX : Hid (Lea x) := h.lea
  rw [hn] at c0 ⊢
  have q1 : (n : Int) ≤ 1048576 := by omega
  clear h hM0 hU0 hn hmax u0 z0 m0
  go_enter Try.func20, Try.ntmps20
  go_wp2_with (at_make; refine wpList_make_row rfl (.tmp 11) rfl n rfl HN.out.2 ?_; intro w1 g HM)
  have HB0 : Hid (Nb w base t gu gz gm x g 0 w1) := by
    obtain ⟨e1, r1, b1⟩ := HM.out
    refine ⟨HU.out.below b1, ?_, by omega, b1⟩
    rw [prt_zero, HN.out.1]; exact r1
  clear HM HU c0
  go_loopg [4, 15] n (fun r p4 p15 wr => ∃ a : Nat, a + r = n ∧ p4 = .int .i64 (cntU x a : Nat) ∧ p15 = .int .i64 a ∧ Hid (Nb w base t gu gz gm x g a wr))
  case atStart => exact ⟨0, by omega, rfl, rfl, HB0.out⟩
  case round =>
    obtain ⟨a, hk, rfl, rfl, HA⟩ := hrel
    clear HB0
    by_cases han : a < n
    · obtain ⟨u, z, m, hU, hM⟩ := HA.out.un.tr
      have han2 : a < x.length := by have := HN.out; omega
      obtain ⟨r, hr⟩ := hU.top han2
      have CT := fun w' (hg : IsGr wr w') => (top_any hU a r w' (hM.gr hg) han2 hr).mono (fun e w2 ⟨h1, h2⟩ => (⟨h1, h2 ▸ IsGr.refl _⟩ : e = _ ∧ IsGr w' w2))
      have c2 := hM.b.c2
      obtain ⟨y, hy, hya, hyy⟩ := HX.out.tail han2
      have cr := hM.rm.cell (i := r) (by rw [hU.lm]; exact hr.lt)
      rw [hU.ls r hr.lt hr.top, hr.same, hy] at cr
      have hrn := hr.rng
      rw [HN.out.1] at c2 hrn
      have HY : Hid (x.getD a 0 = y ∧ y ≤ a ∧ x.getD y 0 = y) := ⟨hy, hya, hyy⟩
      have han' : (a : Int) < n := by omega
      have e1 : IntKind.i64.wrap ((a : Int) + 1) = (a : Int) + 1 := by rw [IntKind.wrap_i64]; omega
      clear hU hM hr hy hyy han2
      go_upto_region 6 with fail
      obtain ⟨C, hin, hcl, hcells, hgr⟩ : ∃ C : World → Prop, (∀ w', IsGr wr w' → C w') ∧ (∀ u u', C u → IsGr u u' → C u') ∧ (∀ w', C w' → (w'.cell? ⟨t, 2, none⟩ = some (.slice (some ⟨gm, 0, none⟩) n n)) ∧ (w'.cell? ⟨gm, r, none⟩ = some (.int .i64 y))) ∧ (∀ w', C w' → IsGr wr w') := ⟨fun w' => IsGr wr w', fun _ h => h, fun _ _ h k => h.trans k, fun w' hg => ⟨cellk c2 hg, cellk cr hg⟩, fun _ h => h⟩
      refine wp_region_quietV C (by kernel_rfl) (by kernel_rfl) (hin _ (by with_reducible repeat (first | exact IsGr.refl _ | refine IsGr.gr ?_ _ _ | refine IsGr.alloc ?_ _ | refine IsGr.drew ?_ | refine IsGr.drewN ?_ _))) (fun K HK => ?_)
      refine QK.take HK ?_ (by rfl) ?_ ?_
      rotate_left
      · (intro w hw; (try have hcs := hcells w hw); (try go_split_ands); go_simp <;> with_reducible rfl)
      (try simp only [Act.put, List.setIfInBounds_toArray, List.set_cons_zero, List.set_cons_succ])
      refine QK.take HK ?_ (by rfl) ?_ ?_
      rotate_left
      · (intro w hw; (try have hcs := hcells w hw); (try go_split_ands); go_simp <;> with_reducible rfl)
      (try simp only [Act.put, List.setIfInBounds_toArray, List.set_cons_zero, List.set_cons_succ])
      refine QK.take HK ?_ (by rfl) ?_ ?_
      rotate_left
      · (intro w hw; (try have hcs := hcells w hw); (try go_split_ands); go_simp <;> with_reducible rfl)
      (try simp only [Act.put, List.setIfInBounds_toArray, List.set_cons_zero, List.set_cons_succ])
      refine QK.take HK ?_ (by rfl) ?_ ?_
      rotate_left
      · (intro w hw; (try have hcs := hcells w hw); (try go_split_ands); go_simp <;> with_reducible rfl)
      (try simp only [Act.put, List.setIfInBounds_toArray, List.set_cons_zero, List.set_cons_succ])
      refine QK.take HK ?_ (by rfl) ?_ ?_
      rotate_left
      · (intro w hw; (try have hcs := hcells w hw); (try go_split_ands); go_simp <;> with_reducible rfl)
      (try simp only [Act.put, List.setIfInBounds_toArray, List.set_cons_zero, List.set_cons_succ])
      refine QK.take HK ?_ (by rfl) ?_ ?_
      rotate_left
      · (intro w hw; (try have hcs := hcells w hw); (try go_split_ands); go_simp <;> with_reducible rfl)
      (try simp only [Act.put, List.setIfInBounds_toArray, List.set_cons_zero, List.set_cons_succ])
      refine QK.callC HK 24 #[.pointer (some ⟨t, 0, none⟩), .int .i64 a] (.int .i64 r) hcl (by rfl) (fun w => by go_simp) (fun w hw => CT w (hgr w hw)) ?_
      (try simp only [Act.put, List.setIfInBounds_toArray, List.set_cons_zero, List.set_cons_succ])
      refine QK.take HK ?_ (by rfl) ?_ ?_
      rotate_left
      · (intro w hw; (try have hcs := hcells w hw); (try go_split_ands); go_simp <;> with_reducible rfl)
      (try simp only [Act.put, List.setIfInBounds_toArray, List.set_cons_zero, List.set_cons_succ])
      refine QK.take HK ?_ (by rfl) ?_ ?_
      rotate_left
      · (intro w hw; (try have hcs := hcells w hw); (try go_split_ands); go_simp <;> with_reducible rfl)
      (try simp only [Act.put, List.setIfInBounds_toArray, List.set_cons_zero, List.set_cons_succ])
      refine QK.take HK ?_ (by rfl) ?_ ?_
      rotate_left
      · (intro w hw; (try have hcs := hcells w hw); (try go_split_ands); go_simp <;> with_reducible rfl)
      (try simp only [Act.put, List.setIfInBounds_toArray, List.set_cons_zero, List.set_cons_succ])
      refine QK.nil HK ?_
      clear HK K
      intro wq hq
      have hgq := hgr wq hq
      clear hq hgr hin hcl hcells CT cr c2 C
      have HA1 : Hid (Nb w base t gu gz gm x g a wq) := HA.out.gr hgq
      have cg := HA1.out.row.cell (i := a) (by rw [prt_len]; have := HN.out; omega)
      have fg := HA1.out.row.fz a
      clear hgq HA hrn
      by_cases hyl : y < a
      · have hyl' : (y : Int) < a := by omega
        have cy := HA1.out.row.cell (i := y) (by rw [prt_len]; have := HN.out; omega)
        rw [prt_get _ hyl (by have := HN.out; omega), HY.out.2.2, Int.toNat_natCast] at cy
        obtain ⟨v, hv⟩ : ∃ v, cntU x y = v := ⟨_, rfl⟩
        rw [hv] at cy
        obtain ⟨c, hc⟩ : ∃ v, cntU x a = v := ⟨_, rfl⟩
        rw [hc]
        have hyn : (y : Int) < n := by omega
        have HB1 : Hid (Nb w base t gu gz gm x g (a + 1) (wq.setCell ⟨g, a, none⟩ (.int .i64 v))) := HA1.out.next HLT.out (by have := HN.out; omega) (by rw [HY.out.1, Int.toNat_natCast, hv])
        have HC : Hid ((c : Int) = (cntU x (a + 1) : Nat)) := by show _ = _; rw [cntU, HY.out.1, if_neg (by omega), hc]; rfl
        clear HA1 hc hv hyl hya
        go_wp2_with fail
        go_roundg (n - (a + 1))
        case measure => omega
        case rel => exact ⟨a + 1, by omega, by rw [← HC.out], by simp, HB1.out⟩
      · have hyl' : ¬ (y : Int) < a := by omega
        obtain ⟨c, hc⟩ : ∃ v, cntU x a = v := ⟨_, rfl⟩
        have hca := cntU_le x a
        rw [hc] at hca ⊢
        have e2 : IntKind.i64.wrap ((c : Int) + 1) = (c : Int) + 1 := by rw [IntKind.wrap_i64]; omega
        have hya2 : y = a := by omega
        have HB1 : Hid (Nb w base t gu gz gm x g (a + 1) (wq.setCell ⟨g, a, none⟩ (.int .i64 c))) := HA1.out.next HLT.out (by have := HN.out; omega) (by rw [HY.out.1, Int.toNat_natCast, hya2, hc])
        have HC : Hid ((c : Int) + 1 = (cntU x (a + 1) : Nat)) := by show _ = _; rw [cntU, HY.out.1, if_pos (by omega), hc]; rfl
        clear HA1 hc hyl hya hca hya2
        go_wp2_with fail
        go_roundg (n - (a + 1))
        case measure => omega
        case rel => exact ⟨a + 1, by omega, by rw [← HC.out], by simp, HB1.out⟩
    · obtain rfl : a = n := by omega
      have han' : ¬ (a : Int) < a := by omega
      have HR : Hid (Row wr g (nums x) ∧ w.heap.size ≤ g ∧ Below w.heap.size w wr) := by
        have h1 := HA.out.row
        have h2 := HN.out.1
        have h3 : prt (fun i : Nat => (cntU x (x.getD i 0).toNat : Int)) a x.length = nums x := by rw [← h2]; exact nums_prt x
        rw [h3] at h1
        exact ⟨h1, HA.out.low, HA.out.bel⟩
      go_wp2_with fail
      go_ret
      exact ⟨g, rfl, HR.out⟩
end Go.Proofs.Ytchbnkapajnjgaa
