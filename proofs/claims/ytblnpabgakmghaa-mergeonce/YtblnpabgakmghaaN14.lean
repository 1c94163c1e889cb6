/- gromaref07 over the loaded program: Once. -/
import Derived.Test.YtblnpabgakmghaaN3
namespace Go.Proofs.Ytblnpabgakmghaa
open Go.RowKit Go.Shelf
attribute [local go_sem] Gr.size Gr.cell? Gr.frozen? Gr.setCell Gr.drew Gr.drewN Gr.of_drew Gr.of_drewN Gr.gr Gr.lt_of1 Gr.le_of1 Gr.lt_of2 Gr.le_of2 Gr.lt_of3 Gr.le_of3 Gr.lt_of4 Gr.le_of4 Gr.lt_of5 Gr.le_of5 Gr.lt_of6 Gr.le_of6 Gr.lt_of7 Gr.le_of7 Gr.lt_of8 Gr.le_of8 Gr.lt_of9 Gr.le_of9 Gr.lt_of10 Gr.le_of10 Gr.lt_of11 Gr.le_of11 Gr.lt_of12 Gr.le_of12 Gr.lt_of13 Gr.le_of13 Gr.lt_of14 Gr.le_of14 Gr.lt_of15 Gr.le_of15 Gr.lt_of16 Gr.le_of16 Gr.lt_of17 Gr.le_of17 Gr.lt_of18 Gr.le_of18 Gr.lt_of19 Gr.le_of19 Gr.lt_of20 Gr.le_of20 Gr.lt_of21 Gr.le_of21 Gr.lt_of22 Gr.le_of22 Gr.lt_of23 Gr.le_of23 Gr.lt_of24 Gr.le_of24
/-- The key of the one ahead of place i. -/
def ahd (s : List Int) (i : Nat) : Option Int := if i = 0 then none else some (tq (s.getD (i - 1) 0))
theorem ahd_succ (s : List Int) (i : Nat) : ahd s (i + 1) = some (tq (s.getD i 0)) := by unfold ahd; rw [if_neg (by omega)]; rfl
theorem Lst.below {w w' : World} {base : Nat} {v : Value} {L : List Int} (h : Lst w base v L) (hb : Below w.heap.size w w') : Lst w' base v L := h.belowN hb (fun g e => (own_block h g e).2)

set_option maxRecDepth 20000 in set_option maxHeartbeats 2000000 in
theorem ROnce_any (v : Value) (l : List Int) (w : World) (h : Rd w v l) (hlen : l.length ≤ 400) :
    Calls Try.prog 19 #[v] w fun e w' => ∃ v', e = .returned v' ∧ Lst w' w.heap.size v' (onc tq none (isort tq l)) ∧ Below w.heap.size w w' := by
  obtain ⟨i0, hi, hz0, hz1, hz2⟩ := info_parts info_int
  have CS := RSort_any v l w h hlen
  obtain ⟨s, hs⟩ : ∃ s, isort tq l = s := ⟨_, rfl⟩
  have hsi : ∀ x ∈ s, I64 x := hs ▸ isort_ints h.ints
  have hsl : s.length ≤ 400 := by rw [← hs, isort_len]; exact hlen
  rw [hs] at CS ⊢
  clear h hs hlen
  go_enter Try.func19, Try.ntmps19
  go_wp2_with fail
  refine CS.mono ?_
  clear CS
  rintro e w1 ⟨v1, rfl, hl1, hb1⟩
  obtain ⟨sa, sc, rfl, -⟩ := hl1.form
  obtain ⟨n, hn⟩ : ∃ n, s.length = n := ⟨_, rfl⟩
  rw [hn] at hl1 hsl ⊢
  have HH : Hid (Lst w1 w.heap.size (.slice sa n sc) s ∧ Below w.heap.size w w1 ∧ s.length = n ∧ (∀ x ∈ s, I64 x)) := ⟨hl1, hb1, hn, hsi⟩
  clear hl1 hb1 hn hsi
  go_wp2_with fail
  go_loopg [3, 5] n (fun r p3 p5 wr => ∃ (i : Nat) (q : List Int), i + r = n ∧ p5 = .int .i64 i ∧ Lst wr w1.heap.size p3 q ∧ Hid (q ++ onc tq (ahd s i) (s.drop i) = onc tq none s) ∧ Hid (Below w1.heap.size w1 wr))
  case atStart => exact ⟨0, [], by omega, rfl, Lst.nil _ _, rfl, Below.refl _ _⟩
  case round =>
    obtain ⟨i, q, hk, rfl, hrow, HE, HB⟩ := hrel
    obtain ⟨qa, qc, rfl, -⟩ := hrow.form
    have HQL : Hid (q.length ≤ 1001) := by
      have h1 := congrArg List.length HE.out
      have h2 := onc_len tq none s
      have h3 := HH.out.2.2.1
      rw [List.length_append] at h1
      show _ ≤ _
      omega
    by_cases hin : i < n
    · obtain ⟨g, o, rfl, -, -, hx64, -, hcx⟩ := ((Rd.of_lst HH.out.1 HH.out.2.2.2).below HB.out).at hin
      have CX := fun W => RTens_any (s.getD i 0) hx64 W
      have hd := drop_at (L := s) (k := i) (by have := HH.out.2.2.1; omega)
      have hR := fun j (hj : j < n) => ((Rd.of_lst HH.out.1 HH.out.2.2.2).below HB.out).at hj
      obtain ⟨x, hx⟩ : ∃ x, s.getD i 0 = x := ⟨_, rfl⟩
      have HX : Hid (s.drop i = x :: s.drop (i + 1) ∧ tq (s.getD i 0) = tq x) := ⟨by rw [← hx]; exact hd, by rw [hx]⟩
      rw [hx] at hcx
      simp only [hx] at CX
      have hin' : (i : Int) < n := by omega
      have e1 : IntKind.i64.wrap ((i : Int) + 1) = (i : Int) + 1 := by rw [IntKind.wrap_i64]; omega
      clear hx hx64 hd
      by_cases hi0 : i = 0
      · have HC : Hid (¬ ahd s i = some (tq x)) := by show ¬ _; unfold ahd; rw [if_pos hi0]; intro e; cases e
        have hi8 : Hid (i = 0) := hi0
        clear hR hi0
        go_upto_region 6 with fail
        have hi9 : ((i : Int) == 0) = true := by simp; exact hi8.out
        obtain ⟨C, hin, hcl, hcells, hgr⟩ : ∃ C : World → Prop, (∀ w', IsGr wr w' → C w') ∧ (∀ u u', C u → IsGr u u' → C u') ∧ (∀ w', C w' → True) ∧ (∀ w', C w' → IsGr wr w') := ⟨fun w' => IsGr wr w', fun _ h => h, fun _ _ h k => h.trans k, fun w' hg => trivial, fun _ h => h⟩
        refine wp_region_quietV C (by kernel_rfl) (by kernel_rfl) (hin _ (by with_reducible repeat (first | exact IsGr.refl _ | refine IsGr.gr ?_ _ _ | refine IsGr.alloc ?_ _ | refine IsGr.drew ?_ | refine IsGr.drewN ?_ _))) (fun K HK => ?_)
        refine QK.take HK ?_ (by rfl) ?_ ?_
        rotate_left
        · (intro w hw; (try have hcs := hcells w hw); (try go_split_ands); go_simp <;> with_reducible rfl)
        (try simp only [Act.put, List.setIfInBounds_toArray, List.set_cons_zero, List.set_cons_succ])
        refine QK.take HK ?_ (by rfl) ?_ ?_
        rotate_left
        · (intro w hw; (try have hcs := hcells w hw); (try go_split_ands); go_simp <;> with_reducible rfl)
        (try simp only [Act.put, List.setIfInBounds_toArray, List.set_cons_zero, List.set_cons_succ])
        refine QK.take HK ?_ (by rfl) ?_ ?_
        rotate_left
        · (intro w hw; (try have hcs := hcells w hw); (try go_split_ands); go_simp <;> with_reducible rfl)
        (try simp only [Act.put, List.setIfInBounds_toArray, List.set_cons_zero, List.set_cons_succ])
        refine QK.skip HK (by rfl) ?_
        (try simp only [Act.put, List.setIfInBounds_toArray, List.set_cons_zero, List.set_cons_succ])
        refine QK.skip HK (by rfl) ?_
        (try simp only [Act.put, List.setIfInBounds_toArray, List.set_cons_zero, List.set_cons_succ])
        refine QK.skip HK (by rfl) ?_
        (try simp only [Act.put, List.setIfInBounds_toArray, List.set_cons_zero, List.set_cons_succ])
        refine QK.skip HK (by rfl) ?_
        (try simp only [Act.put, List.setIfInBounds_toArray, List.set_cons_zero, List.set_cons_succ])
        refine QK.skip HK (by rfl) ?_
        (try simp only [Act.put, List.setIfInBounds_toArray, List.set_cons_zero, List.set_cons_succ])
        refine QK.skip HK (by rfl) ?_
        (try simp only [Act.put, List.setIfInBounds_toArray, List.set_cons_zero, List.set_cons_succ])
        refine QK.skip HK (by rfl) ?_
        (try simp only [Act.put, List.setIfInBounds_toArray, List.set_cons_zero, List.set_cons_succ])
        refine QK.skip HK (by rfl) ?_
        (try simp only [Act.put, List.setIfInBounds_toArray, List.set_cons_zero, List.set_cons_succ])
        refine QK.skip HK (by rfl) ?_
        (try simp only [Act.put, List.setIfInBounds_toArray, List.set_cons_zero, List.set_cons_succ])
        refine QK.skip HK (by rfl) ?_
        (try simp only [Act.put, List.setIfInBounds_toArray, List.set_cons_zero, List.set_cons_succ])
        refine QK.skip HK (by rfl) ?_
        (try simp only [Act.put, List.setIfInBounds_toArray, List.set_cons_zero, List.set_cons_succ])
        refine QK.skip HK (by rfl) ?_
        (try simp only [Act.put, List.setIfInBounds_toArray, List.set_cons_zero, List.set_cons_succ])
        refine QK.take HK ?_ (by rfl) ?_ ?_
        rotate_left
        · (intro w hw; (try have hcs := hcells w hw); (try go_split_ands); go_simp <;> with_reducible rfl)
        (try simp only [Act.put, List.setIfInBounds_toArray, List.set_cons_zero, List.set_cons_succ])
        refine QK.nil HK ?_
        clear HK K
        intro wq hq
        have hgq := hgr wq hq
        clear hcells hin hcl hgr hq hi9
        have hcx := cellk hcx hgq
        have hrow := hrow.gr hgq
        have HB : Hid (Below w1.heap.size w1 wq) := HB.out.trans (hgq.below.mono HB.out.size)
        clear hgq
        go_wp2_with (at_builtin; refine wpList_append_own _ rfl _ _ 22 rfl w1.heap.size 3 i0 (.int .i64 0) 1 8 Try.underlying22 hi hz0 hz1 hz2 rfl (by decide) (.slice qa q.length qc) _ _ rfl (World.ownsRow.alloc hrow _) ⟨wq.heap.size, 0, none⟩ 1 1 [.int .i64 x] rfl rfl (cell_one_new _ _ _) (fun u hu => by simp at hu; subst hu; rfl) (by unfold maxLen; have := HQL.out; omega) (by have := HQL.out; omega) (by have := HB.out.size; simp; omega) ?_; intro v9 w9 h1o h1g _; obtain ⟨g1, cap1, rfl⟩ := ownsRow_succ h1o; have HB1 : Hid (Below w1.heap.size w1 w9) := HB.out.trans (((Below.refl _ wq).alloc HB.out.size _).trans (below_grow h1g (by have := HB.out.size; simp; omega) (fun k hk => (World.ownsRow.lt hrow k hk).1))))
        go_roundg (n - (i + 1))
        case measure => omega
        case rel =>
          refine ⟨i + 1, q ++ [x], by omega, by simp, Lst.snoc h1o, ?_, HB1⟩
          have h1 := HE.out
          rw [HX.out.1, onc, if_neg HC.out] at h1
          show q ++ [x] ++ onc tq (ahd s (i + 1)) (s.drop (i + 1)) = onc tq none s
          rw [ahd_succ, HX.out.2, List.append_assoc]
          exact h1

      · obtain ⟨p, hp⟩ : ∃ p, i - 1 = p := ⟨_, rfl⟩
        obtain ⟨g2, o2, e9, -, -, hy64, -, hcy⟩ := hR p (by omega)
        cases e9
        have CY := fun W => RTens_any (s.getD p 0) hy64 W
        obtain ⟨y, hy⟩ : ∃ y, s.getD p 0 = y := ⟨_, rfl⟩
        rw [hy] at hcy
        simp only [hy] at CY
        have HA : Hid (ahd s i = some (tq y)) := by show _ = _; unfold ahd; rw [if_neg hi0, hp, hy]
        have hip : (i : Int) - 1 = (p : Int) := by omega
        have er : IntKind.i64.wrap ((i : Int) - 1) = (p : Int) := by rw [IntKind.wrap_i64]; omega
        have hpn : (p : Int) < n := by omega
        obtain ⟨kx, hkx⟩ : ∃ z, tq x = z := ⟨_, rfl⟩
        obtain ⟨ky, hky⟩ : ∃ z, tq y = z := ⟨_, rfl⟩
        have HK : Hid (tq x = kx ∧ tq y = ky) := ⟨hkx, hky⟩
        simp only [hkx] at CX
        simp only [hky] at CY
        clear hkx hky hy hp hy64 hR
        by_cases hk : kx = ky

        · have HC : Hid (ahd s i = some (tq x)) := by show _ = _; rw [HA.out, HK.out.1, HK.out.2, hk]
          have hne : (kx != ky) = false := by simp [hk]
          have hk9 : Hid (kx = ky) := hk
          clear hk
          go_upto_region 6 with fail
          have hi9 : ((i : Int) == 0) = false := by simp; omega
          have er3 : IntKind.i64.wrap (p : Int) = (p : Int) := by rw [IntKind.wrap_i64]; omega
          have er5 : IntKind.i64.wrap (i : Int) = (i : Int) := by rw [IntKind.wrap_i64]; omega
          obtain ⟨C, hin, hcl, hcells, hgr⟩ : ∃ C : World → Prop, (∀ w', IsGr wr w' → C w') ∧ (∀ u u', C u → IsGr u u' → C u') ∧ (∀ w', C w' → (w'.cell? ⟨g, o + i, none⟩ = some (.int .i64 x)) ∧ (w'.cell? ⟨g, o + p, none⟩ = some (.int .i64 y))) ∧ (∀ w', C w' → IsGr wr w') := ⟨fun w' => IsGr wr w', fun _ h => h, fun _ _ h k => h.trans k, fun w' hg => ⟨cellk hcx hg, cellk hcy hg⟩, fun _ h => h⟩
          refine wp_region_quietV C (by kernel_rfl) (by kernel_rfl) (hin _ (by with_reducible repeat (first | exact IsGr.refl _ | refine IsGr.gr ?_ _ _ | refine IsGr.alloc ?_ _ | refine IsGr.drew ?_ | refine IsGr.drewN ?_ _))) (fun K HK => ?_)
          refine QK.take HK ?_ (by rfl) ?_ ?_
          rotate_left
          · (intro w hw; (try have hcs := hcells w hw); (try go_split_ands); go_simp <;> with_reducible rfl)
          (try simp only [Act.put, List.setIfInBounds_toArray, List.set_cons_zero, List.set_cons_succ])
          refine QK.take HK ?_ (by rfl) ?_ ?_
          rotate_left
          · (intro w hw; (try have hcs := hcells w hw); (try go_split_ands); go_simp <;> with_reducible rfl)
          (try simp only [Act.put, List.setIfInBounds_toArray, List.set_cons_zero, List.set_cons_succ])
          refine QK.take HK ?_ (by rfl) ?_ ?_
          rotate_left
          · (intro w hw; (try have hcs := hcells w hw); (try go_split_ands); go_simp <;> with_reducible rfl)
          (try simp only [Act.put, List.setIfInBounds_toArray, List.set_cons_zero, List.set_cons_succ])
          refine QK.take HK ?_ (by rfl) ?_ ?_
          rotate_left
          · (intro w hw; (try have hcs := hcells w hw); (try go_split_ands); go_simp <;> with_reducible rfl)
          (try simp only [Act.put, List.setIfInBounds_toArray, List.set_cons_zero, List.set_cons_succ])
          refine QK.take HK ?_ (by rfl) ?_ ?_
          rotate_left
          · (intro w hw; (try have hcs := hcells w hw); (try go_split_ands); go_simp <;> with_reducible rfl)
          (try simp only [Act.put, List.setIfInBounds_toArray, List.set_cons_zero, List.set_cons_succ])
          refine QK.take HK ?_ (by rfl) ?_ ?_
          rotate_left
          · (intro w hw; (try have hcs := hcells w hw); (try go_split_ands); go_simp <;> with_reducible rfl)
          (try simp only [Act.put, List.setIfInBounds_toArray, List.set_cons_zero, List.set_cons_succ])
          refine QK.take HK ?_ (by rfl) ?_ ?_
          rotate_left
          · (intro w hw; (try have hcs := hcells w hw); (try go_split_ands); go_simp <;> with_reducible rfl)
          (try simp only [Act.put, List.setIfInBounds_toArray, List.set_cons_zero, List.set_cons_succ])
          refine QK.call HK 24 #[.int .i64 x] (.int .i64 kx) hcl (by rfl) (fun w => by go_simp) (fun w => (CX w).mono fun _ _ ⟨h1, h2⟩ => ⟨h1, h2 ▸ IsGr.refl _⟩) ?_
          (try simp only [Act.put, List.setIfInBounds_toArray, List.set_cons_zero, List.set_cons_succ])
          refine QK.take HK ?_ (by rfl) ?_ ?_
          rotate_left
          · (intro w hw; (try have hcs := hcells w hw); (try go_split_ands); go_simp <;> with_reducible rfl)
          (try simp only [Act.put, List.setIfInBounds_toArray, List.set_cons_zero, List.set_cons_succ])
          refine QK.take HK ?_ (by rfl) ?_ ?_
          rotate_left
          · (intro w hw; (try have hcs := hcells w hw); (try go_split_ands); go_simp <;> with_reducible rfl)
          (try simp only [Act.put, List.setIfInBounds_toArray, List.set_cons_zero, List.set_cons_succ])
          refine QK.take HK ?_ (by rfl) ?_ ?_
          rotate_left
          · (intro w hw; (try have hcs := hcells w hw); (try go_split_ands); go_simp <;> with_reducible rfl)
          (try simp only [Act.put, List.setIfInBounds_toArray, List.set_cons_zero, List.set_cons_succ])
          refine QK.take HK ?_ (by rfl) ?_ ?_
          rotate_left
          · (intro w hw; (try have hcs := hcells w hw); (try go_split_ands); go_simp <;> with_reducible rfl)
          (try simp only [Act.put, List.setIfInBounds_toArray, List.set_cons_zero, List.set_cons_succ])
          refine QK.take HK ?_ (by rfl) ?_ ?_
          rotate_left
          · (intro w hw; (try have hcs := hcells w hw); (try go_split_ands); go_simp <;> with_reducible rfl)
          (try simp only [Act.put, List.setIfInBounds_toArray, List.set_cons_zero, List.set_cons_succ])
          refine QK.call HK 24 #[.int .i64 y] (.int .i64 ky) hcl (by rfl) (fun w => by go_simp) (fun w => (CY w).mono fun _ _ ⟨h1, h2⟩ => ⟨h1, h2 ▸ IsGr.refl _⟩) ?_
          (try simp only [Act.put, List.setIfInBounds_toArray, List.set_cons_zero, List.set_cons_succ])
          refine QK.take HK ?_ (by rfl) ?_ ?_
          rotate_left
          · (intro w hw; (try have hcs := hcells w hw); (try go_split_ands); go_simp <;> with_reducible rfl)
          (try simp only [Act.put, List.setIfInBounds_toArray, List.set_cons_zero, List.set_cons_succ])
          refine QK.take HK ?_ (by rfl) ?_ ?_
          rotate_left
          · (intro w hw; (try have hcs := hcells w hw); (try go_split_ands); go_simp <;> with_reducible rfl)
          (try simp only [Act.put, List.setIfInBounds_toArray, List.set_cons_zero, List.set_cons_succ])
          refine QK.nil HK ?_
          clear HK K
          intro wq hq
          have hgq := hgr wq hq
          clear hcells hin hcl hgr hq hcy hi9 er3 er5 er hip CX CY
          have hcx := cellk hcx hgq
          have hrow := hrow.gr hgq
          have HB : Hid (Below w1.heap.size w1 wq) := HB.out.trans (hgq.below.mono HB.out.size)
          clear hgq
          go_wp2_with fail
          go_roundg (n - (i + 1))
          case measure => omega
          case rel =>
            refine ⟨i + 1, q, by omega, by simp, hrow, ?_, HB⟩
            have h1 := HE.out
            rw [HX.out.1, onc, if_pos HC.out] at h1
            show q ++ onc tq (ahd s (i + 1)) (s.drop (i + 1)) = onc tq none s
            rw [ahd_succ, HX.out.2]
            exact h1

        · have HC : Hid (¬ ahd s i = some (tq x)) := by show ¬ _; rw [HA.out, HK.out.1, HK.out.2]; intro e; exact hk (Option.some.inj e).symm
          have hne : (kx != ky) = true := by simpa using hk
          have hk9 : Hid (¬ kx = ky) := hk
          clear hk
          go_upto_region 6 with fail
          have hi9 : ((i : Int) == 0) = false := by simp; omega
          have er3 : IntKind.i64.wrap (p : Int) = (p : Int) := by rw [IntKind.wrap_i64]; omega
          have er5 : IntKind.i64.wrap (i : Int) = (i : Int) := by rw [IntKind.wrap_i64]; omega
          obtain ⟨C, hin, hcl, hcells, hgr⟩ : ∃ C : World → Prop, (∀ w', IsGr wr w' → C w') ∧ (∀ u u', C u → IsGr u u' → C u') ∧ (∀ w', C w' → (w'.cell? ⟨g, o + i, none⟩ = some (.int .i64 x)) ∧ (w'.cell? ⟨g, o + p, none⟩ = some (.int .i64 y))) ∧ (∀ w', C w' → IsGr wr w') := ⟨fun w' => IsGr wr w', fun _ h => h, fun _ _ h k => h.trans k, fun w' hg => ⟨cellk hcx hg, cellk hcy hg⟩, fun _ h => h⟩
          refine wp_region_quietV C (by kernel_rfl) (by kernel_rfl) (hin _ (by with_reducible repeat (first | exact IsGr.refl _ | refine IsGr.gr ?_ _ _ | refine IsGr.alloc ?_ _ | refine IsGr.drew ?_ | refine IsGr.drewN ?_ _))) (fun K HK => ?_)
          refine QK.take HK ?_ (by rfl) ?_ ?_
          rotate_left
          · (intro w hw; (try have hcs := hcells w hw); (try go_split_ands); go_simp <;> with_reducible rfl)
          (try simp only [Act.put, List.setIfInBounds_toArray, List.set_cons_zero, List.set_cons_succ])
          refine QK.take HK ?_ (by rfl) ?_ ?_
          rotate_left
          · (intro w hw; (try have hcs := hcells w hw); (try go_split_ands); go_simp <;> with_reducible rfl)
          (try simp only [Act.put, List.setIfInBounds_toArray, List.set_cons_zero, List.set_cons_succ])
          refine QK.take HK ?_ (by rfl) ?_ ?_
          rotate_left
          · (intro w hw; (try have hcs := hcells w hw); (try go_split_ands); go_simp <;> with_reducible rfl)
          (try simp only [Act.put, List.setIfInBounds_toArray, List.set_cons_zero, List.set_cons_succ])
          refine QK.take HK ?_ (by rfl) ?_ ?_
          rotate_left
          · (intro w hw; (try have hcs := hcells w hw); (try go_split_ands); go_simp <;> with_reducible rfl)
          (try simp only [Act.put, List.setIfInBounds_toArray, List.set_cons_zero, List.set_cons_succ])
          refine QK.take HK ?_ (by rfl) ?_ ?_
          rotate_left
          · (intro w hw; (try have hcs := hcells w hw); (try go_split_ands); go_simp <;> with_reducible rfl)
          (try simp only [Act.put, List.setIfInBounds_toArray, List.set_cons_zero, List.set_cons_succ])
          refine QK.take HK ?_ (by rfl) ?_ ?_
          rotate_left
          · (intro w hw; (try have hcs := hcells w hw); (try go_split_ands); go_simp <;> with_reducible rfl)
          (try simp only [Act.put, List.setIfInBounds_toArray, List.set_cons_zero, List.set_cons_succ])
          refine QK.take HK ?_ (by rfl) ?_ ?_
          rotate_left
          · (intro w hw; (try have hcs := hcells w hw); (try go_split_ands); go_simp <;> with_reducible rfl)
          (try simp only [Act.put, List.setIfInBounds_toArray, List.set_cons_zero, List.set_cons_succ])
          refine QK.call HK 24 #[.int .i64 x] (.int .i64 kx) hcl (by rfl) (fun w => by go_simp) (fun w => (CX w).mono fun _ _ ⟨h1, h2⟩ => ⟨h1, h2 ▸ IsGr.refl _⟩) ?_
          (try simp only [Act.put, List.setIfInBounds_toArray, List.set_cons_zero, List.set_cons_succ])
          refine QK.take HK ?_ (by rfl) ?_ ?_
          rotate_left
          · (intro w hw; (try have hcs := hcells w hw); (try go_split_ands); go_simp <;> with_reducible rfl)
          (try simp only [Act.put, List.setIfInBounds_toArray, List.set_cons_zero, List.set_cons_succ])
          refine QK.take HK ?_ (by rfl) ?_ ?_
          rotate_left
          · (intro w hw; (try have hcs := hcells w hw); (try go_split_ands); go_simp <;> with_reducible rfl)
          (try simp only [Act.put, List.setIfInBounds_toArray, List.set_cons_zero, List.set_cons_succ])
          refine QK.take HK ?_ (by rfl) ?_ ?_
          rotate_left
          · (intro w hw; (try have hcs := hcells w hw); (try go_split_ands); go_simp <;> with_reducible rfl)
          (try simp only [Act.put, List.setIfInBounds_toArray, List.set_cons_zero, List.set_cons_succ])
          refine QK.take HK ?_ (by rfl) ?_ ?_
          rotate_left
          · (intro w hw; (try have hcs := hcells w hw); (try go_split_ands); go_simp <;> with_reducible rfl)
          (try simp only [Act.put, List.setIfInBounds_toArray, List.set_cons_zero, List.set_cons_succ])
          refine QK.take HK ?_ (by rfl) ?_ ?_
          rotate_left
          · (intro w hw; (try have hcs := hcells w hw); (try go_split_ands); go_simp <;> with_reducible rfl)
          (try simp only [Act.put, List.setIfInBounds_toArray, List.set_cons_zero, List.set_cons_succ])
          refine QK.call HK 24 #[.int .i64 y] (.int .i64 ky) hcl (by rfl) (fun w => by go_simp) (fun w => (CY w).mono fun _ _ ⟨h1, h2⟩ => ⟨h1, h2 ▸ IsGr.refl _⟩) ?_
          (try simp only [Act.put, List.setIfInBounds_toArray, List.set_cons_zero, List.set_cons_succ])
          refine QK.take HK ?_ (by rfl) ?_ ?_
          rotate_left
          · (intro w hw; (try have hcs := hcells w hw); (try go_split_ands); go_simp <;> with_reducible rfl)
          (try simp only [Act.put, List.setIfInBounds_toArray, List.set_cons_zero, List.set_cons_succ])
          refine QK.take HK ?_ (by rfl) ?_ ?_
          rotate_left
          · (intro w hw; (try have hcs := hcells w hw); (try go_split_ands); go_simp <;> with_reducible rfl)
          (try simp only [Act.put, List.setIfInBounds_toArray, List.set_cons_zero, List.set_cons_succ])
          refine QK.nil HK ?_
          clear HK K
          intro wq hq
          have hgq := hgr wq hq
          clear hcells hin hcl hgr hq hcy hi9 er3 er5 er hip CX CY
          have hcx := cellk hcx hgq
          have hrow := hrow.gr hgq
          have HB : Hid (Below w1.heap.size w1 wq) := HB.out.trans (hgq.below.mono HB.out.size)
          clear hgq
          go_wp2_with (at_builtin; refine wpList_append_own _ rfl _ _ 22 rfl w1.heap.size 3 i0 (.int .i64 0) 1 8 Try.underlying22 hi hz0 hz1 hz2 rfl (by decide) (.slice qa q.length qc) _ _ rfl (World.ownsRow.alloc hrow _) ⟨wq.heap.size, 0, none⟩ 1 1 [.int .i64 x] rfl rfl (cell_one_new _ _ _) (fun u hu => by simp at hu; subst hu; rfl) (by unfold maxLen; have := HQL.out; omega) (by have := HQL.out; omega) (by have := HB.out.size; simp; omega) ?_; intro v9 w9 h1o h1g _; obtain ⟨g1, cap1, rfl⟩ := ownsRow_succ h1o; have HB1 : Hid (Below w1.heap.size w1 w9) := HB.out.trans (((Below.refl _ wq).alloc HB.out.size _).trans (below_grow h1g (by have := HB.out.size; simp; omega) (fun k hk => (World.ownsRow.lt hrow k hk).1))))
          go_roundg (n - (i + 1))
          case measure => omega
          case rel =>
            refine ⟨i + 1, q ++ [x], by omega, by simp, Lst.snoc h1o, ?_, HB1⟩
            have h1 := HE.out
            rw [HX.out.1, onc, if_neg HC.out] at h1
            show q ++ [x] ++ onc tq (ahd s (i + 1)) (s.drop (i + 1)) = onc tq none s
            rw [ahd_succ, HX.out.2, List.append_assoc]
            exact h1

    · have hin' : ¬ (i : Int) < n := by omega
      have HF : Hid (q = onc tq none s) := by
        show q = _
        have := HE.out
        rw [List.drop_eq_nil_of_le (by have := HH.out.2.2.1; omega)] at this
        simpa [onc] using this
      go_wp2_with fail
      go_ret
      exact ⟨_, rfl, HF.out ▸ hrow.mono HH.out.2.1.size, HH.out.2.1.trans (HB.out.mono HH.out.2.1.size)⟩
end Go.Proofs.Ytblnpabgakmghaa
