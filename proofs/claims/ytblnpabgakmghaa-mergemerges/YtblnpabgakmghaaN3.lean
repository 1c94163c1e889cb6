/- gromaref07 over the loaded program: Sort. -/
import Derived.Test.YtblnpabgakmghaaN2
import Derived.Test.YtblnpabgakmghaaN1
import Derived.Test.YtblnpabgakmghaaH2b
import Derived.Deep.CutRange
import Derived.Laws.AppendOwnNone
namespace Go.Proofs.Ytblnpabgakmghaa
open Go.RowKit Go.Shelf
attribute [local go_sem] Gr.size Gr.cell? Gr.frozen? Gr.setCell Gr.drew Gr.drewN Gr.of_drew Gr.of_drewN Gr.gr Gr.lt_of1 Gr.le_of1 Gr.lt_of2 Gr.le_of2 Gr.lt_of3 Gr.le_of3 Gr.lt_of4 Gr.le_of4 Gr.lt_of5 Gr.le_of5 Gr.lt_of6 Gr.le_of6 Gr.lt_of7 Gr.le_of7 Gr.lt_of8 Gr.le_of8 Gr.lt_of9 Gr.le_of9 Gr.lt_of10 Gr.le_of10 Gr.lt_of11 Gr.le_of11 Gr.lt_of12 Gr.le_of12 Gr.lt_of13 Gr.le_of13 Gr.lt_of14 Gr.le_of14 Gr.lt_of15 Gr.le_of15 Gr.lt_of16 Gr.le_of16 Gr.lt_of17 Gr.le_of17 Gr.lt_of18 Gr.le_of18 Gr.lt_of19 Gr.le_of19 Gr.lt_of20 Gr.le_of20 Gr.lt_of21 Gr.le_of21 Gr.lt_of22 Gr.le_of22 Gr.lt_of23 Gr.le_of23 Gr.lt_of24 Gr.le_of24
theorem inb_split {k : Int → Int} {x : Int} : ∀ {o : List Int} {a : Nat}, a ≤ o.length → (∀ j, a ≤ j → j < o.length → k x < k (o.getD j 0)) → (∀ j, j < a → k (o.getD j 0) ≤ k x) → inb k x o = o.take a ++ x :: o.drop a
  | [], a, h, _, _ => by simp at h; simp [h, inb]
  | y :: o, 0, _, h1, _ => by
    have := h1 0 (by omega) (by simp)
    simp only [List.getD_cons_zero] at this
    simp [inb, this]
  | y :: o, a + 1, h, h1, h2 => by
    have h0 := h2 0 (by omega)
    simp only [List.getD_cons_zero] at h0
    have := @inb_split k x o a (by simpa using h) (fun j h3 h4 => by simpa using h1 (j + 1) (by omega) (by simp; omega)) (fun j h3 => by simpa using h2 (j + 1) (by omega))
    simp only [inb]
    rw [if_neg (by omega), this]
    rfl
theorem srt_le {k : Int → Int} {o : List Int} (h : Srt k o) {i j : Nat} (hij : i ≤ j) (hj : j < o.length) : k (o.getD i 0) ≤ k (o.getD j 0) := by
  rcases Nat.eq_or_lt_of_le hij with e | e
  · rw [e]; exact Int.le_refl _
  · have := List.pairwise_iff_getElem.1 h i j (by omega) hj e
    simpa [List.getD, hj, (by omega : i < o.length)] using this
theorem take_snoc {l : List Int} {i : Nat} (h : i < l.length) : l.take (i + 1) = l.take i ++ [l.getD i 0] := by
  rw [List.take_add_one, List.getElem?_eq_getElem h]; simp [List.getD, h]
theorem isort_ints {k : Int → Int} {l : List Int} (h : ∀ x ∈ l, I64 x) : ∀ x ∈ isort k l, I64 x := fun x hx => h x ((isort_perm k l).subset hx)
theorem take_ints {l : List Int} (h : ∀ x ∈ l, I64 x) (i : Nat) : ∀ x ∈ l.take i, I64 x := fun x hx => h x (List.mem_of_mem_take hx)

set_option maxRecDepth 20000 in set_option maxHeartbeats 2000000 in
theorem RSort_any (v : Value) (l : List Int) (w : World) (h : Rd w v l) (hlen : l.length ≤ 400) :
    Calls Try.prog 12 #[v] w fun e w' => ∃ v', e = .returned v' ∧ Lst w' w.heap.size v' (isort tq l) ∧ Below w.heap.size w w' := by
  obtain ⟨i0, hi, hz0, hz1, hz2⟩ := info_parts info_int
  obtain ⟨a, c, rfl⟩ := h.form
  obtain ⟨m, hm⟩ : ∃ m, l.length = m := ⟨_, rfl⟩
  rw [hm] at hlen h ⊢
  have HH : Hid (Rd w (.slice a m c) l ∧ l.length = m) := ⟨h, hm⟩
  clear h hm
  have hm' : (m : Int) ≤ 400 := by omega
  go_enter Try.func12, Try.ntmps12
  go_wp2_with fail
  go_loopg [3, 4] m (fun r p3 p4 wr => ∃ (i : Nat) (o : List Int), i + r = m ∧ p4 = .int .i64 i ∧ Lst wr w.heap.size p3 o ∧ Hid (o = isort tq (l.take i) ∧ Below w.heap.size w wr))
  case atStart => exact ⟨0, [], by omega, rfl, Lst.nil _ _, rfl, Below.refl _ _⟩
  case round =>
    obtain ⟨i, o, hk, rfl, hrow, HO⟩ := hrel
    obtain ⟨oa, oc, rfl, _⟩ := hrow.form
    have HI : Hid (∀ x ∈ l, I64 x) := HH.out.1.ints
    by_cases him : i < m
    · have HL : Hid (o.length ≤ 400 ∧ o.length ≤ i) := by
        have e := HO.out.1
        have := congrArg List.length e
        rw [isort_len, List.length_take, HH.out.2] at this
        show _ ∧ _
        omega
      have HS : Hid (Srt tq o) := by rw [HO.out.1]; exact isort_srt _ _
      have HOI : Hid (∀ x ∈ o, I64 x) := by rw [HO.out.1]; exact isort_ints (take_ints HI.out i)
      have hRd := fun W (hB : Below w.heap.size w W) => (HH.out.1.below hB).at him
      obtain ⟨g, p, rfl, -, -, hx64, -, hcx⟩ := hRd _ HO.out.2
      have hcX : ∀ W, Below w.heap.size w W → W.cell? ⟨g, p + i, none⟩ = some (.int .i64 (l.getD i 0)) := fun W hB => by
        obtain ⟨g2, p2, e, _, _, _, _, h2⟩ := hRd W hB
        injection e with e
        injection e with e1 e2
        subst e1 e2
        exact h2
      have hcO : ∀ W j, Lst W w.heap.size (.slice oa o.length oc) o → j < o.length → ∃ g, oa = some ⟨g, 0, none⟩ ∧ W.cell? ⟨g, j, none⟩ = some (.int .i64 (o.getD j 0)) := fun W j hL hj => by
        obtain ⟨a', c', e, hf⟩ := hL.form
        injection e with e1 e2 e3
        subst e1
        rcases hf with hf | ⟨g, e, _, _, h3⟩
        · rw [hf] at hj; simp at hj
        · exact ⟨g, e, h3 j hj⟩
      have CX := fun W => RTens_any (l.getD i 0) hx64 W
      have CO := fun W j (hj : j < o.length) => RTens_any (o.getD j 0) (getD_ints HOI.out hj) W
      have e1 : IntKind.i64.wrap ((i : Int) + 1) = (i : Int) + 1 := by rw [IntKind.wrap_i64]; omega
      have HX : Hid (l.take (i + 1) = l.take i ++ [l.getD i 0]) := take_snoc (by have := HH.out.2; omega)
      obtain ⟨x, hx⟩ : ∃ x, l.getD i 0 = x := ⟨_, rfl⟩
      rw [hx] at hcx HX
      simp only [hx] at CX hcX
      clear hx hRd hx64
      obtain ⟨N, hN⟩ : ∃ N, o.length = N := ⟨_, rfl⟩
      have HN : Hid (o.length = N) := hN
      have hN2 : N ≤ 400 := hN ▸ HL.out.1
      rw [hN]
      obtain ⟨wO, hwO⟩ : ∃ W, W = wr := ⟨_, rfl⟩
      subst hwO
      obtain ⟨gO, hgO⟩ : ∃ g, g = gk := ⟨_, rfl⟩
      subst hgO
      go_wp2_with fail
      go_loopg [5] N (fun r p5 w2 => p5 = .int .i64 r ∧ r ≤ N ∧ Hid (IsGr wO w2 ∧ ∀ j, r ≤ j → j < o.length → tq x < tq (o.getD j 0)))
      case atStart => exact ⟨rfl, Nat.le_refl _, IsGr.refl _, fun j h1 h2 => by omega⟩
      case round =>
        obtain ⟨rfl, hr, HR⟩ := hrel
        obtain ⟨t, ht⟩ : ∃ t, t = gk := ⟨_, rfl⟩
        subst ht
        by_cases hr0 : t = 0
        · have hA : Hid (inb tq x o = o.take t ++ x :: o.drop t) := inb_split (by omega) HR.out.2 (fun j hj => by omega)
          go_upto_region 6 with fail
          have hd1 : decide (0 < t) = false := decide_eq_false (by omega)
          obtain ⟨C, hin, hcl, hcells, hgr⟩ : ∃ C : World → Prop, (∀ w', IsGr wr w' → C w') ∧ (∀ u u', C u → IsGr u u' → C u') ∧ (∀ w', C w' → True) ∧ (∀ w', C w' → IsGr wr w') := ⟨fun w' => IsGr wr w', fun _ h => h, fun _ _ h k => h.trans k, fun w' hg => trivial, fun _ h => h⟩
          refine wp_region_quietV C (by kernel_rfl) (by kernel_rfl) (hin _ (by with_reducible repeat (first | exact IsGr.refl _ | refine IsGr.gr ?_ _ _ | refine IsGr.alloc ?_ _ | refine IsGr.drew ?_ | refine IsGr.drewN ?_ _))) (fun K HK => ?_)
          refine QK.take HK ?_ (by rfl) ?_ ?_
          rotate_left
          · (intro w hw; (try have hcs := hcells w hw); (try go_split_ands); go_simp <;> with_reducible rfl)
          (try simp only [Act.put, List.setIfInBounds_toArray, List.set_cons_zero, List.set_cons_succ])
          refine QK.take HK ?_ (by rfl) ?_ ?_
          rotate_left
          · (intro w hw; (try have hcs := hcells w hw); (try go_split_ands); go_simp <;> with_reducible rfl)
          (try simp only [Act.put, List.setIfInBounds_toArray, List.set_cons_zero, List.set_cons_succ])
          refine QK.take HK ?_ (by rfl) ?_ ?_
          rotate_left
          · (intro w hw; (try have hcs := hcells w hw); (try go_split_ands); go_simp <;> with_reducible rfl)
          (try simp only [Act.put, List.setIfInBounds_toArray, List.set_cons_zero, List.set_cons_succ])
          refine QK.skip HK (by rfl) ?_
          (try simp only [Act.put, List.setIfInBounds_toArray, List.set_cons_zero, List.set_cons_succ])
          refine QK.skip HK (by rfl) ?_
          (try simp only [Act.put, List.setIfInBounds_toArray, List.set_cons_zero, List.set_cons_succ])
          refine QK.skip HK (by rfl) ?_
          (try simp only [Act.put, List.setIfInBounds_toArray, List.set_cons_zero, List.set_cons_succ])
          refine QK.skip HK (by rfl) ?_
          (try simp only [Act.put, List.setIfInBounds_toArray, List.set_cons_zero, List.set_cons_succ])
          refine QK.skip HK (by rfl) ?_
          (try simp only [Act.put, List.setIfInBounds_toArray, List.set_cons_zero, List.set_cons_succ])
          refine QK.skip HK (by rfl) ?_
          (try simp only [Act.put, List.setIfInBounds_toArray, List.set_cons_zero, List.set_cons_succ])
          refine QK.skip HK (by rfl) ?_
          (try simp only [Act.put, List.setIfInBounds_toArray, List.set_cons_zero, List.set_cons_succ])
          refine QK.skip HK (by rfl) ?_
          (try simp only [Act.put, List.setIfInBounds_toArray, List.set_cons_zero, List.set_cons_succ])
          refine QK.skip HK (by rfl) ?_
          (try simp only [Act.put, List.setIfInBounds_toArray, List.set_cons_zero, List.set_cons_succ])
          refine QK.skip HK (by rfl) ?_
          (try simp only [Act.put, List.setIfInBounds_toArray, List.set_cons_zero, List.set_cons_succ])
          refine QK.skip HK (by rfl) ?_
          (try simp only [Act.put, List.setIfInBounds_toArray, List.set_cons_zero, List.set_cons_succ])
          refine QK.skip HK (by rfl) ?_
          (try simp only [Act.put, List.setIfInBounds_toArray, List.set_cons_zero, List.set_cons_succ])
          refine QK.take HK ?_ (by rfl) ?_ ?_
          rotate_left
          · (intro w hw; (try have hcs := hcells w hw); (try go_split_ands); go_simp <;> with_reducible rfl)
          (try simp only [Act.put, List.setIfInBounds_toArray, List.set_cons_zero, List.set_cons_succ])
          refine QK.nil HK ?_
          clear HK K
          intro wq hq
          have hgq := hgr wq hq
          clear hcells hin hcl hgr hq hd1
          obtain ⟨w2, hw2⟩ : ∃ W, W = wq := ⟨_, rfl⟩
          subst hw2
          have HG : Hid (IsGr wO w2) := HR.out.1.trans hgq
          have hr9 : t ≤ N := hr
          clear hgq HR hcx hr hr0
          have hM : Hid (∀ W, Below w2.heap.size w2 W → Lst W w.heap.size (.slice oa o.length oc) o ∧ Below w.heap.size w W) := fun W hB => ⟨(hrow.gr HG.out).belowN hB (fun g e => (own_block (hrow.gr HG.out) g e).2), (HO.out.2.trans (HG.out.below.mono HO.out.2.size)).trans (hB.mono (Nat.le_trans HO.out.2.size HG.out.size))⟩
          clear hrow
          go_wp2_with fail
          go_loopg [6, 7] t (fun r p6 p7 w3 => ∃ k : Nat, k + r = t ∧ p7 = .int .i64 k ∧ Lst w3 w2.heap.size p6 (o.take k) ∧ Hid (Below w2.heap.size w2 w3))
          case atStart => exact ⟨0, by omega, rfl, Lst.nil _ _, Below.refl _ _⟩
          case round =>
            obtain ⟨k, hk3, rfl, hq1, HB⟩ := hrel
            obtain ⟨q1, hq2⟩ : ∃ q, o.take k = q := ⟨_, rfl⟩
            have HQ1 : Hid (o.take k = q1) := hq2
            rw [hq2] at hq1
            have hrow := hq1
            obtain ⟨qa, qc, rfl, -⟩ := hrow.form
            have HQL : Hid (q1.length ≤ 1001) := by show _ ≤ _; rw [← hq2, List.length_take]; have := HN.out; omega
            clear hq1 hq2
            by_cases hkt : k < t
            · obtain ⟨g3, e3, hck⟩ := hcO wr k (hM.out wr HB.out).1 (by have := HN.out; omega)
              cases e3
              have HT : Hid (o.take (k + 1) = q1 ++ [o.getD k 0]) := by show _ = _; rw [take_snoc (by have := HN.out; omega), HQ1.out]
              obtain ⟨y, hy⟩ : ∃ y, o.getD k 0 = y := ⟨_, rfl⟩
              rw [hy] at hck HT
              have hkt' : (k : Int) < t := by omega
              have hkN : (k : Int) < N := by omega
              have e2 : IntKind.i64.wrap ((k : Int) + 1) = (k : Int) + 1 := by rw [IntKind.wrap_i64]; omega
              have hbs : w2.heap.size ≤ wr.heap.size := HB.out.size
              clear hy hcO
              go_wp2_with (at_builtin; refine wpList_append_own _ rfl _ _ 22 rfl w2.heap.size 3 i0 (.int .i64 0) 1 8 Try.underlying22 hi hz0 hz1 hz2 rfl (by decide) (.slice qa q1.length qc) _ _ rfl (World.ownsRow.alloc hrow _) ⟨wr.heap.size, 0, none⟩ 1 1 [.int .i64 y] rfl rfl (cell_one_new _ _ _) (fun u hu => by simp at hu; subst hu; rfl) (by unfold maxLen; have := HQL.out; omega) (by have := HQL.out; omega) (by have := HB.out.size; simp; omega) ?_; intro v1 w1 h1o h1g _; obtain ⟨g1, cap1, rfl⟩ := ownsRow_succ h1o; have HB1 : Hid (Below w2.heap.size w2 w1) := HB.out.trans (((Below.refl _ wr).alloc HB.out.size _).trans (below_grow h1g (by have := HB.out.size; simp; omega) (fun k hk => (World.ownsRow.lt hrow k hk).1))))
              go_roundg (t - (k + 1))
              case measure => omega
              case rel => exact ⟨k + 1, by omega, by simp, by rw [HT.out]; exact Lst.snoc h1o, HB1⟩
            · have hkt' : ¬ (k : Int) < t := by omega
              have HT : Hid (k = t ∧ q1 = o.take t) := ⟨by omega, by rw [← HQ1.out]; congr 1; omega⟩
              have hcx := hcX wr (hM.out wr HB.out).2
              have e9 : (i : Int) < m := by omega
              go_wp2_with (at_builtin; refine wpList_append_own _ rfl _ _ 22 rfl w2.heap.size 3 i0 (.int .i64 0) 1 8 Try.underlying22 hi hz0 hz1 hz2 rfl (by decide) (.slice qa q1.length qc) _ _ rfl (World.ownsRow.alloc hrow _) ⟨wr.heap.size, 0, none⟩ 1 1 [.int .i64 x] rfl rfl (cell_one_new _ _ _) (fun u hu => by simp at hu; subst hu; rfl) (by unfold maxLen; have := HQL.out; omega) (by have := HQL.out; omega) (by have := HB.out.size; simp; omega) ?_; intro v1 w1 h1o h1g _; obtain ⟨g1, cap1, rfl⟩ := ownsRow_succ h1o; have HB1 : Hid (Below w2.heap.size w2 w1) := HB.out.trans (((Below.refl _ wr).alloc HB.out.size _).trans (below_grow h1g (by have := HB.out.size; simp; omega) (fun k hk => (World.ownsRow.lt hrow k hk).1))))
              go_loopg [6, 8] (N - t) (fun r p6 p8 w4 => ∃ (k : Nat) (q : List Int), t ≤ k ∧ k + r = N ∧ p8 = .int .i64 k ∧ Lst w4 w2.heap.size p6 q ∧ Hid (q ++ o.drop k = inb tq x o ∧ Below w2.heap.size w2 w4))
              case atStart => exact ⟨t, _, Nat.le_refl _, by omega, rfl, Lst.snoc h1o, by rw [hA.out, HT.out.2]; simp, HB1.out⟩
              case round =>
                clear h1o HB1 HB HQL
                obtain ⟨k2, q2, hk4, hk5, rfl, hrow2, HB2⟩ := hrel
                obtain ⟨qa, qc, rfl, -⟩ := hrow2.form
                by_cases hkN : k2 < N
                · obtain ⟨g3, e3, hck⟩ := hcO wr k2 (hM.out wr HB2.out.2).1 (by have := HN.out; omega)
                  cases e3
                  have HD : Hid (o.drop k2 = o.getD k2 0 :: o.drop (k2 + 1)) := drop_at (by have := HN.out; omega)
                  obtain ⟨y, hy⟩ : ∃ y, o.getD k2 0 = y := ⟨_, rfl⟩
                  rw [hy] at hck HD
                  have hkN' : (k2 : Int) < N := by omega
                  have HB : Hid (Below w2.heap.size w2 wr) := HB2.out.2
                  have HQL : Hid (q2.length ≤ 1001) := by
                    have := congrArg List.length HB2.out.1
                    rw [List.length_append, inb_len] at this
                    have := HN.out
                    show _ ≤ _
                    omega
                  have e2 : IntKind.i64.wrap ((k2 : Int) + 1) = (k2 : Int) + 1 := by rw [IntKind.wrap_i64]; omega
                  have hbs : w2.heap.size ≤ wr.heap.size := HB.out.size
                  clear hy hcO
                  go_wp2_with (at_builtin; refine wpList_append_own _ rfl _ _ 22 rfl w2.heap.size 3 i0 (.int .i64 0) 1 8 Try.underlying22 hi hz0 hz1 hz2 rfl (by decide) (.slice qa q2.length qc) _ _ rfl (World.ownsRow.alloc hrow2 _) ⟨wr.heap.size, 0, none⟩ 1 1 [.int .i64 y] rfl rfl (cell_one_new _ _ _) (fun u hu => by simp at hu; subst hu; rfl) (by unfold maxLen; have := HQL.out; omega) (by have := HQL.out; omega) (by have := HB.out.size; simp; omega) ?_; intro v1 w1 h1o h1g _; obtain ⟨g1, cap1, rfl⟩ := ownsRow_succ h1o; have HB1 : Hid (Below w2.heap.size w2 w1) := HB.out.trans (((Below.refl _ wr).alloc HB.out.size _).trans (below_grow h1g (by have := HB.out.size; simp; omega) (fun k hk => (World.ownsRow.lt hrow2 k hk).1))))
                  go_roundg (N - (k2 + 1))
                  case measure => omega
                  case rel => exact ⟨k2 + 1, _, by omega, by omega, by simp, Lst.snoc h1o, by rw [← HB2.out.1, HD.out]; simp, HB1.out⟩
                · have hkN' : ¬ (k2 : Int) < N := by omega
                  have HE : Hid (q2 = inb tq x o) := by
                    have := HB2.out.1
                    rw [List.drop_eq_nil_of_le (by have := HN.out; omega), List.append_nil] at this
                    exact this
                  go_wp2_with fail
                  go_roundg (m - (i + 1))
                  case measure => omega
                  case rel => exact ⟨i + 1, q2, by omega, by simp, hrow2.mono (Nat.le_trans HO.out.2.size HG.out.size), by rw [HE.out, HO.out.1, HX.out, isort_snoc], (hM.out wr HB2.out.2).2⟩

        · have hr1 : (0 : Int) < t := by omega
          have er : IntKind.i64.wrap ((t : Int) - 1) = ((t - 1 : Nat) : Int) := by rw [IntKind.wrap_i64]; omega
          have hrw : Lst wr w.heap.size (.slice oa o.length oc) o := hrow.gr HR.out.1
          obtain ⟨g2, rfl, hcy⟩ := hcO wr (t - 1) hrw (by omega)
          have CY := fun W => CO W (t - 1) (by omega)
          obtain ⟨y, hy⟩ : ∃ y, o.getD (t - 1) 0 = y := ⟨_, rfl⟩
          have hcx2 := hcX wr (HO.out.2.trans (HR.out.1.below.mono HO.out.2.size))
          rw [hy] at hcy
          simp only [hy] at CY
          have HY : Hid (o.getD (t - 1) 0 = y) := hy
          have er2 : IntKind.i64.wrap ((t : Int) - 1) = (t : Int) - 1 := by rw [IntKind.wrap_i64]; omega
          obtain ⟨q, hq⟩ : ∃ q, t - 1 = q := ⟨_, rfl⟩
          rw [hq] at hcy er
          have HQ : Hid (t - 1 = q ∧ 0 < t) := ⟨hq, by omega⟩
          have hqt : (t : Int) - 1 = (q : Int) := by omega
          obtain ⟨kx, hkx⟩ : ∃ z, tq x = z := ⟨_, rfl⟩
          obtain ⟨ky, hky⟩ : ∃ z, tq y = z := ⟨_, rfl⟩
          have HK : Hid (tq x = kx ∧ tq y = ky) := ⟨hkx, hky⟩
          simp only [hkx] at CX
          simp only [hky] at CY
          clear hkx hky hy hq
          by_cases hlt : kx < ky
          · have hd2 : decide (kx < ky) = true := decide_eq_true hlt
            go_upto_region 6 with fail
            have hd1 : decide (0 < t) = true := decide_eq_true (by omega)
            have er3 : IntKind.i64.wrap (q : Int) = (q : Int) := by rw [IntKind.wrap_i64]; omega
            have er4 : (q : Int) < N := by omega
            have er5 : (i : Int) < m := by omega
            obtain ⟨C, hin, hcl, hcells, hgr⟩ : ∃ C : World → Prop, (∀ w', IsGr wr w' → C w') ∧ (∀ u u', C u → IsGr u u' → C u') ∧ (∀ w', C w' → (w'.cell? ⟨g2, q, none⟩ = some (.int .i64 y)) ∧ (w'.cell? ⟨g, p + i, none⟩ = some (.int .i64 x))) ∧ (∀ w', C w' → IsGr wr w') := ⟨fun w' => IsGr wr w', fun _ h => h, fun _ _ h k => h.trans k, fun w' hg => ⟨cellk hcy hg, cellk hcx2 hg⟩, fun _ h => h⟩
            refine wp_region_quietV C (by kernel_rfl) (by kernel_rfl) (hin _ (by with_reducible repeat (first | exact IsGr.refl _ | refine IsGr.gr ?_ _ _ | refine IsGr.alloc ?_ _ | refine IsGr.drew ?_ | refine IsGr.drewN ?_ _))) (fun K HK => ?_)
            refine QK.take HK ?_ (by rfl) ?_ ?_
            rotate_left
            · (intro w hw; (try have hcs := hcells w hw); (try go_split_ands); go_simp <;> with_reducible rfl)
            (try simp only [Act.put, List.setIfInBounds_toArray, List.set_cons_zero, List.set_cons_succ])
            refine QK.take HK ?_ (by rfl) ?_ ?_
            rotate_left
            · (intro w hw; (try have hcs := hcells w hw); (try go_split_ands); go_simp <;> with_reducible rfl)
            (try simp only [Act.put, List.setIfInBounds_toArray, List.set_cons_zero, List.set_cons_succ])
            refine QK.take HK ?_ (by rfl) ?_ ?_
            rotate_left
            · (intro w hw; (try have hcs := hcells w hw); (try go_split_ands); go_simp <;> with_reducible rfl)
            (try simp only [Act.put, List.setIfInBounds_toArray, List.set_cons_zero, List.set_cons_succ])
            refine QK.take HK ?_ (by rfl) ?_ ?_
            rotate_left
            · (intro w hw; (try have hcs := hcells w hw); (try go_split_ands); go_simp <;> with_reducible rfl)
            (try simp only [Act.put, List.setIfInBounds_toArray, List.set_cons_zero, List.set_cons_succ])
            refine QK.take HK ?_ (by rfl) ?_ ?_
            rotate_left
            · (intro w hw; (try have hcs := hcells w hw); (try go_split_ands); go_simp <;> with_reducible rfl)
            (try simp only [Act.put, List.setIfInBounds_toArray, List.set_cons_zero, List.set_cons_succ])
            refine QK.take HK ?_ (by rfl) ?_ ?_
            rotate_left
            · (intro w hw; (try have hcs := hcells w hw); (try go_split_ands); go_simp <;> with_reducible rfl)
            (try simp only [Act.put, List.setIfInBounds_toArray, List.set_cons_zero, List.set_cons_succ])
            refine QK.take HK ?_ (by rfl) ?_ ?_
            rotate_left
            · (intro w hw; (try have hcs := hcells w hw); (try go_split_ands); go_simp <;> with_reducible rfl)
            (try simp only [Act.put, List.setIfInBounds_toArray, List.set_cons_zero, List.set_cons_succ])
            refine QK.take HK ?_ (by rfl) ?_ ?_
            rotate_left
            · (intro w hw; (try have hcs := hcells w hw); (try go_split_ands); go_simp <;> with_reducible rfl)
            (try simp only [Act.put, List.setIfInBounds_toArray, List.set_cons_zero, List.set_cons_succ])
            refine QK.call HK 24 #[.int .i64 y] (.int .i64 ky) hcl (by rfl) (fun w => by go_simp) (fun w => (CY w).mono fun _ _ ⟨h1, h2⟩ => ⟨h1, h2 ▸ IsGr.refl _⟩) ?_
            (try simp only [Act.put, List.setIfInBounds_toArray, List.set_cons_zero, List.set_cons_succ])
            refine QK.take HK ?_ (by rfl) ?_ ?_
            rotate_left
            · (intro w hw; (try have hcs := hcells w hw); (try go_split_ands); go_simp <;> with_reducible rfl)
            (try simp only [Act.put, List.setIfInBounds_toArray, List.set_cons_zero, List.set_cons_succ])
            refine QK.take HK ?_ (by rfl) ?_ ?_
            rotate_left
            · (intro w hw; (try have hcs := hcells w hw); (try go_split_ands); go_simp <;> with_reducible rfl)
            (try simp only [Act.put, List.setIfInBounds_toArray, List.set_cons_zero, List.set_cons_succ])
            refine QK.take HK ?_ (by rfl) ?_ ?_
            rotate_left
            · (intro w hw; (try have hcs := hcells w hw); (try go_split_ands); go_simp <;> with_reducible rfl)
            (try simp only [Act.put, List.setIfInBounds_toArray, List.set_cons_zero, List.set_cons_succ])
            refine QK.take HK ?_ (by rfl) ?_ ?_
            rotate_left
            · (intro w hw; (try have hcs := hcells w hw); (try go_split_ands); go_simp <;> with_reducible rfl)
            (try simp only [Act.put, List.setIfInBounds_toArray, List.set_cons_zero, List.set_cons_succ])
            refine QK.call HK 24 #[.int .i64 x] (.int .i64 kx) hcl (by rfl) (fun w => by go_simp) (fun w => (CX w).mono fun _ _ ⟨h1, h2⟩ => ⟨h1, h2 ▸ IsGr.refl _⟩) ?_
            (try simp only [Act.put, List.setIfInBounds_toArray, List.set_cons_zero, List.set_cons_succ])
            refine QK.take HK ?_ (by rfl) ?_ ?_
            rotate_left
            · (intro w hw; (try have hcs := hcells w hw); (try go_split_ands); go_simp <;> with_reducible rfl)
            (try simp only [Act.put, List.setIfInBounds_toArray, List.set_cons_zero, List.set_cons_succ])
            refine QK.take HK ?_ (by rfl) ?_ ?_
            rotate_left
            · (intro w hw; (try have hcs := hcells w hw); (try go_split_ands); go_simp <;> with_reducible rfl)
            (try simp only [Act.put, List.setIfInBounds_toArray, List.set_cons_zero, List.set_cons_succ])
            refine QK.nil HK ?_
            clear HK K
            intro wq hq
            have hgq := hgr wq hq
            clear hcells hin hcl hgr hq
            go_wp2_with fail
            go_roundg q
            case measure => have := HQ.out; omega
            case rel =>
              refine ⟨by first | rfl | (rw [← HQ.out.1]; have := HQ.out.2; simp; omega), by have := HQ.out; omega, HR.out.1.trans hgq, fun j h1 h2 => ?_⟩
              by_cases hj : j = q
              · rw [hj, ← HQ.out.1, HY.out, HK.out.1, HK.out.2]; exact hlt
              · exact HR.out.2 j (by have := HQ.out; omega) h2
          · have hd2 : decide (kx < ky) = false := decide_eq_false hlt
            have hA : Hid (inb tq x o = o.take t ++ x :: o.drop t) := inb_split (by have := HN.out; omega) HR.out.2 (fun j hj => by
              have := srt_le HS.out (i := j) (j := t - 1) (by omega) (by have := HN.out; omega)
              rw [HY.out, HK.out.2] at this
              rw [HK.out.1]; omega)
            go_upto_region 6 with fail
            have hd1 : decide (0 < t) = true := decide_eq_true (by omega)
            have er3 : IntKind.i64.wrap (q : Int) = (q : Int) := by rw [IntKind.wrap_i64]; omega
            have er4 : (q : Int) < N := by omega
            have er5 : (i : Int) < m := by omega
            obtain ⟨C, hin, hcl, hcells, hgr⟩ : ∃ C : World → Prop, (∀ w', IsGr wr w' → C w') ∧ (∀ u u', C u → IsGr u u' → C u') ∧ (∀ w', C w' → (w'.cell? ⟨g2, q, none⟩ = some (.int .i64 y)) ∧ (w'.cell? ⟨g, p + i, none⟩ = some (.int .i64 x))) ∧ (∀ w', C w' → IsGr wr w') := ⟨fun w' => IsGr wr w', fun _ h => h, fun _ _ h k => h.trans k, fun w' hg => ⟨cellk hcy hg, cellk hcx2 hg⟩, fun _ h => h⟩
            refine wp_region_quietV C (by kernel_rfl) (by kernel_rfl) (hin _ (by with_reducible repeat (first | exact IsGr.refl _ | refine IsGr.gr ?_ _ _ | refine IsGr.alloc ?_ _ | refine IsGr.drew ?_ | refine IsGr.drewN ?_ _))) (fun K HK => ?_)
            refine QK.take HK ?_ (by rfl) ?_ ?_
            rotate_left
            · (intro w hw; (try have hcs := hcells w hw); (try go_split_ands); go_simp <;> with_reducible rfl)
            (try simp only [Act.put, List.setIfInBounds_toArray, List.set_cons_zero, List.set_cons_succ])
            refine QK.take HK ?_ (by rfl) ?_ ?_
            rotate_left
            · (intro w hw; (try have hcs := hcells w hw); (try go_split_ands); go_simp <;> with_reducible rfl)
            (try simp only [Act.put, List.setIfInBounds_toArray, List.set_cons_zero, List.set_cons_succ])
            refine QK.take HK ?_ (by rfl) ?_ ?_
            rotate_left
            · (intro w hw; (try have hcs := hcells w hw); (try go_split_ands); go_simp <;> with_reducible rfl)
            (try simp only [Act.put, List.setIfInBounds_toArray, List.set_cons_zero, List.set_cons_succ])
            refine QK.take HK ?_ (by rfl) ?_ ?_
            rotate_left
            · (intro w hw; (try have hcs := hcells w hw); (try go_split_ands); go_simp <;> with_reducible rfl)
            (try simp only [Act.put, List.setIfInBounds_toArray, List.set_cons_zero, List.set_cons_succ])
            refine QK.take HK ?_ (by rfl) ?_ ?_
            rotate_left
            · (intro w hw; (try have hcs := hcells w hw); (try go_split_ands); go_simp <;> with_reducible rfl)
            (try simp only [Act.put, List.setIfInBounds_toArray, List.set_cons_zero, List.set_cons_succ])
            refine QK.take HK ?_ (by rfl) ?_ ?_
            rotate_left
            · (intro w hw; (try have hcs := hcells w hw); (try go_split_ands); go_simp <;> with_reducible rfl)
            (try simp only [Act.put, List.setIfInBounds_toArray, List.set_cons_zero, List.set_cons_succ])
            refine QK.take HK ?_ (by rfl) ?_ ?_
            rotate_left
            · (intro w hw; (try have hcs := hcells w hw); (try go_split_ands); go_simp <;> with_reducible rfl)
            (try simp only [Act.put, List.setIfInBounds_toArray, List.set_cons_zero, List.set_cons_succ])
            refine QK.take HK ?_ (by rfl) ?_ ?_
            rotate_left
            · (intro w hw; (try have hcs := hcells w hw); (try go_split_ands); go_simp <;> with_reducible rfl)
            (try simp only [Act.put, List.setIfInBounds_toArray, List.set_cons_zero, List.set_cons_succ])
            refine QK.call HK 24 #[.int .i64 y] (.int .i64 ky) hcl (by rfl) (fun w => by go_simp) (fun w => (CY w).mono fun _ _ ⟨h1, h2⟩ => ⟨h1, h2 ▸ IsGr.refl _⟩) ?_
            (try simp only [Act.put, List.setIfInBounds_toArray, List.set_cons_zero, List.set_cons_succ])
            refine QK.take HK ?_ (by rfl) ?_ ?_
            rotate_left
            · (intro w hw; (try have hcs := hcells w hw); (try go_split_ands); go_simp <;> with_reducible rfl)
            (try simp only [Act.put, List.setIfInBounds_toArray, List.set_cons_zero, List.set_cons_succ])
            refine QK.take HK ?_ (by rfl) ?_ ?_
            rotate_left
            · (intro w hw; (try have hcs := hcells w hw); (try go_split_ands); go_simp <;> with_reducible rfl)
            (try simp only [Act.put, List.setIfInBounds_toArray, List.set_cons_zero, List.set_cons_succ])
            refine QK.take HK ?_ (by rfl) ?_ ?_
            rotate_left
            · (intro w hw; (try have hcs := hcells w hw); (try go_split_ands); go_simp <;> with_reducible rfl)
            (try simp only [Act.put, List.setIfInBounds_toArray, List.set_cons_zero, List.set_cons_succ])
            refine QK.take HK ?_ (by rfl) ?_ ?_
            rotate_left
            · (intro w hw; (try have hcs := hcells w hw); (try go_split_ands); go_simp <;> with_reducible rfl)
            (try simp only [Act.put, List.setIfInBounds_toArray, List.set_cons_zero, List.set_cons_succ])
            refine QK.call HK 24 #[.int .i64 x] (.int .i64 kx) hcl (by rfl) (fun w => by go_simp) (fun w => (CX w).mono fun _ _ ⟨h1, h2⟩ => ⟨h1, h2 ▸ IsGr.refl _⟩) ?_
            (try simp only [Act.put, List.setIfInBounds_toArray, List.set_cons_zero, List.set_cons_succ])
            refine QK.take HK ?_ (by rfl) ?_ ?_
            rotate_left
            · (intro w hw; (try have hcs := hcells w hw); (try go_split_ands); go_simp <;> with_reducible rfl)
            (try simp only [Act.put, List.setIfInBounds_toArray, List.set_cons_zero, List.set_cons_succ])
            refine QK.take HK ?_ (by rfl) ?_ ?_
            rotate_left
            · (intro w hw; (try have hcs := hcells w hw); (try go_split_ands); go_simp <;> with_reducible rfl)
            (try simp only [Act.put, List.setIfInBounds_toArray, List.set_cons_zero, List.set_cons_succ])
            refine QK.nil HK ?_
            clear HK K
            intro wq hq
            have hgq := hgr wq hq
            clear hcells hin hcl hgr hq hd1 hd2 hcy hcx2 er er2 er3 er4 CY hqt
            obtain ⟨w2, hw2⟩ : ∃ W, W = wq := ⟨_, rfl⟩
            subst hw2
            have HG : Hid (IsGr wO w2) := HR.out.1.trans hgq
            have hr9 : t ≤ N := hr
            clear hgq HR hcx hr hr0
            have hM : Hid (∀ W, Below w2.heap.size w2 W → Lst W w.heap.size (.slice (some ⟨g2, 0, none⟩) o.length oc) o ∧ Below w.heap.size w W) := fun W hB => ⟨(hrow.gr HG.out).belowN hB (fun g e => (own_block (hrow.gr HG.out) g e).2), (HO.out.2.trans (HG.out.below.mono HO.out.2.size)).trans (hB.mono (Nat.le_trans HO.out.2.size HG.out.size))⟩
            clear hrow
            go_wp2_with fail
            go_loopg [6, 7] t (fun r p6 p7 w3 => ∃ k : Nat, k + r = t ∧ p7 = .int .i64 k ∧ Lst w3 w2.heap.size p6 (o.take k) ∧ Hid (Below w2.heap.size w2 w3))
            case atStart => exact ⟨0, by omega, rfl, Lst.nil _ _, Below.refl _ _⟩
            case round =>
              obtain ⟨k, hk3, rfl, hq1, HB⟩ := hrel
              obtain ⟨q1, hq2⟩ : ∃ q, o.take k = q := ⟨_, rfl⟩
              have HQ1 : Hid (o.take k = q1) := hq2
              rw [hq2] at hq1
              have hrow := hq1
              obtain ⟨qa, qc, rfl, -⟩ := hrow.form
              have HQL : Hid (q1.length ≤ 1001) := by show _ ≤ _; rw [← hq2, List.length_take]; have := HN.out; omega
              clear hq1 hq2
              by_cases hkt : k < t
              · obtain ⟨g3, e3, hck⟩ := hcO wr k (hM.out wr HB.out).1 (by have := HN.out; omega)
                cases e3
                have HT : Hid (o.take (k + 1) = q1 ++ [o.getD k 0]) := by show _ = _; rw [take_snoc (by have := HN.out; omega), HQ1.out]
                obtain ⟨y, hy⟩ : ∃ y, o.getD k 0 = y := ⟨_, rfl⟩
                rw [hy] at hck HT
                have hkt' : (k : Int) < t := by omega
                have hkN : (k : Int) < N := by omega
                have e2 : IntKind.i64.wrap ((k : Int) + 1) = (k : Int) + 1 := by rw [IntKind.wrap_i64]; omega
                have hbs : w2.heap.size ≤ wr.heap.size := HB.out.size
                clear hy hcO
                go_wp2_with (at_builtin; refine wpList_append_own _ rfl _ _ 22 rfl w2.heap.size 3 i0 (.int .i64 0) 1 8 Try.underlying22 hi hz0 hz1 hz2 rfl (by decide) (.slice qa q1.length qc) _ _ rfl (World.ownsRow.alloc hrow _) ⟨wr.heap.size, 0, none⟩ 1 1 [.int .i64 y] rfl rfl (cell_one_new _ _ _) (fun u hu => by simp at hu; subst hu; rfl) (by unfold maxLen; have := HQL.out; omega) (by have := HQL.out; omega) (by have := HB.out.size; simp; omega) ?_; intro v1 w1 h1o h1g _; obtain ⟨g1, cap1, rfl⟩ := ownsRow_succ h1o; have HB1 : Hid (Below w2.heap.size w2 w1) := HB.out.trans (((Below.refl _ wr).alloc HB.out.size _).trans (below_grow h1g (by have := HB.out.size; simp; omega) (fun k hk => (World.ownsRow.lt hrow k hk).1))))
                go_roundg (t - (k + 1))
                case measure => omega
                case rel => exact ⟨k + 1, by omega, by simp, by rw [HT.out]; exact Lst.snoc h1o, HB1⟩
              · have hkt' : ¬ (k : Int) < t := by omega
                have HT : Hid (k = t ∧ q1 = o.take t) := ⟨by omega, by rw [← HQ1.out]; congr 1; omega⟩
                have hcx := hcX wr (hM.out wr HB.out).2
                have e9 : (i : Int) < m := by omega
                go_wp2_with (at_builtin; refine wpList_append_own _ rfl _ _ 22 rfl w2.heap.size 3 i0 (.int .i64 0) 1 8 Try.underlying22 hi hz0 hz1 hz2 rfl (by decide) (.slice qa q1.length qc) _ _ rfl (World.ownsRow.alloc hrow _) ⟨wr.heap.size, 0, none⟩ 1 1 [.int .i64 x] rfl rfl (cell_one_new _ _ _) (fun u hu => by simp at hu; subst hu; rfl) (by unfold maxLen; have := HQL.out; omega) (by have := HQL.out; omega) (by have := HB.out.size; simp; omega) ?_; intro v1 w1 h1o h1g _; obtain ⟨g1, cap1, rfl⟩ := ownsRow_succ h1o; have HB1 : Hid (Below w2.heap.size w2 w1) := HB.out.trans (((Below.refl _ wr).alloc HB.out.size _).trans (below_grow h1g (by have := HB.out.size; simp; omega) (fun k hk => (World.ownsRow.lt hrow k hk).1))))
                go_loopg [6, 8] (N - t) (fun r p6 p8 w4 => ∃ (k : Nat) (q : List Int), t ≤ k ∧ k + r = N ∧ p8 = .int .i64 k ∧ Lst w4 w2.heap.size p6 q ∧ Hid (q ++ o.drop k = inb tq x o ∧ Below w2.heap.size w2 w4))
                case atStart => exact ⟨t, _, Nat.le_refl _, by omega, rfl, Lst.snoc h1o, by rw [hA.out, HT.out.2]; simp, HB1.out⟩
                case round =>
                  clear h1o HB1 HB HQL
                  obtain ⟨k2, q2, hk4, hk5, rfl, hrow2, HB2⟩ := hrel
                  obtain ⟨qa, qc, rfl, -⟩ := hrow2.form
                  by_cases hkN : k2 < N
                  · obtain ⟨g3, e3, hck⟩ := hcO wr k2 (hM.out wr HB2.out.2).1 (by have := HN.out; omega)
                    cases e3
                    have HD : Hid (o.drop k2 = o.getD k2 0 :: o.drop (k2 + 1)) := drop_at (by have := HN.out; omega)
                    obtain ⟨y, hy⟩ : ∃ y, o.getD k2 0 = y := ⟨_, rfl⟩
                    rw [hy] at hck HD
                    have hkN' : (k2 : Int) < N := by omega
                    have HB : Hid (Below w2.heap.size w2 wr) := HB2.out.2
                    have HQL : Hid (q2.length ≤ 1001) := by
                      have := congrArg List.length HB2.out.1
                      rw [List.length_append, inb_len] at this
                      have := HN.out
                      show _ ≤ _
                      omega
                    have e2 : IntKind.i64.wrap ((k2 : Int) + 1) = (k2 : Int) + 1 := by rw [IntKind.wrap_i64]; omega
                    have hbs : w2.heap.size ≤ wr.heap.size := HB.out.size
                    clear hy hcO
                    go_wp2_with (at_builtin; refine wpList_append_own _ rfl _ _ 22 rfl w2.heap.size 3 i0 (.int .i64 0) 1 8 Try.underlying22 hi hz0 hz1 hz2 rfl (by decide) (.slice qa q2.length qc) _ _ rfl (World.ownsRow.alloc hrow2 _) ⟨wr.heap.size, 0, none⟩ 1 1 [.int .i64 y] rfl rfl (cell_one_new _ _ _) (fun u hu => by simp at hu; subst hu; rfl) (by unfold maxLen; have := HQL.out; omega) (by have := HQL.out; omega) (by have := HB.out.size; simp; omega) ?_; intro v1 w1 h1o h1g _; obtain ⟨g1, cap1, rfl⟩ := ownsRow_succ h1o; have HB1 : Hid (Below w2.heap.size w2 w1) := HB.out.trans (((Below.refl _ wr).alloc HB.out.size _).trans (below_grow h1g (by have := HB.out.size; simp; omega) (fun k hk => (World.ownsRow.lt hrow2 k hk).1))))
                    go_roundg (N - (k2 + 1))
                    case measure => omega
                    case rel => exact ⟨k2 + 1, _, by omega, by omega, by simp, Lst.snoc h1o, by rw [← HB2.out.1, HD.out]; simp, HB1.out⟩
                  · have hkN' : ¬ (k2 : Int) < N := by omega
                    have HE : Hid (q2 = inb tq x o) := by
                      have := HB2.out.1
                      rw [List.drop_eq_nil_of_le (by have := HN.out; omega), List.append_nil] at this
                      exact this
                    go_wp2_with fail
                    go_roundg (m - (i + 1))
                    case measure => omega
                    case rel => exact ⟨i + 1, q2, by omega, by simp, hrow2.mono (Nat.le_trans HO.out.2.size HG.out.size), by rw [HE.out, HO.out.1, HX.out, isort_snoc], (hM.out wr HB2.out.2).2⟩

    · have him' : ¬ (i : Int) < m := by omega
      obtain rfl : i = m := by omega
      go_wp2_with fail
      go_ret
      refine ⟨_, rfl, ?_, HO.out.2⟩
      have e := HO.out.1
      rw [List.take_of_length_le (by have := HH.out.2; omega)] at e
      rw [← e]
      exact hrow
end Go.Proofs.Ytblnpabgakmghaa
