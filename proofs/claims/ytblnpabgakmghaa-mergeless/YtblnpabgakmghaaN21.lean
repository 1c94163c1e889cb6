/- gromalaw07 over the loaded program: MergeLess' law. -/
import Derived.Test.YtblnpabgakmghaaN10
import Derived.Test.YtblnpabgakmghaaN13
namespace Go.Proofs.Ytblnpabgakmghaa
open Go.RowKit Go.Shelf
attribute [local go_sem] Gr.size Gr.cell? Gr.frozen? Gr.setCell Gr.drew Gr.drewN Gr.of_drew Gr.of_drewN Gr.gr Gr.lt_of1 Gr.le_of1 Gr.lt_of2 Gr.le_of2 Gr.lt_of3 Gr.le_of3 Gr.lt_of4 Gr.le_of4 Gr.lt_of5 Gr.le_of5 Gr.lt_of6 Gr.le_of6 Gr.lt_of7 Gr.le_of7 Gr.lt_of8 Gr.le_of8 Gr.lt_of9 Gr.le_of9 Gr.lt_of10 Gr.le_of10 Gr.lt_of11 Gr.le_of11 Gr.lt_of12 Gr.le_of12 Gr.lt_of13 Gr.le_of13 Gr.lt_of14 Gr.le_of14 Gr.lt_of15 Gr.le_of15 Gr.lt_of16 Gr.le_of16 Gr.lt_of17 Gr.le_of17 Gr.lt_of18 Gr.le_of18 Gr.lt_of19 Gr.le_of19 Gr.lt_of20 Gr.le_of20 Gr.lt_of21 Gr.le_of21 Gr.lt_of22 Gr.le_of22 Gr.lt_of23 Gr.le_of23 Gr.lt_of24 Gr.le_of24
set_option maxRecDepth 20000 in set_option maxHeartbeats 2000000 in
theorem law_less_many (a : Option Addr) (n c : Nat) (a2 : Option Addr) (n2 c2 : Nat) (w : World) (h : ¬ (n ≤ 150 ∧ n2 ≤ 150)) : Calls Try.prog 8 #[.slice a n c, .slice a2 n2 c2] w fun e w' => e = .returned (.bool true) ∧ Below w.heap.size w w' := by
  have h1 : (150 : Int) < n ∨ (n : Int) ≤ 150 ∧ (150 : Int) < n2 := by omega
  clear h
  have CA := awake_any w
  rcases h1 with h1 | ⟨h1, h2⟩
  · go_enter Try.func8, Try.ntmps8
    go_wp2_with fail
    refine CA.mono ?_
    rintro e w2 ⟨rfl, hb⟩
    go_wp2_with fail
    go_ret
    exact ⟨rfl, hb⟩
  · have h3 : ¬ (150 : Int) < n := by omega
    go_enter Try.func8, Try.ntmps8
    go_wp2_with fail
    refine CA.mono ?_
    rintro e w2 ⟨rfl, hb⟩
    go_wp2_with fail
    go_ret
    exact ⟨rfl, hb⟩
theorem les_snoc (k : Int → Int) (g l : List Int) (x : Int) : les k g (l ++ [x]) = if g.any (fun y => k y == k x) then les k g l else les k g l ++ [x] := by
  unfold les
  rw [List.filter_append]
  by_cases h : g.any (fun y => k y == k x) = true
  · rw [if_pos h, List.filter_cons_of_neg (by simp [h])]; simp
  · rw [if_neg h, List.filter_cons_of_pos (by simpa using h)]; simp
theorem any_snoc (p : Int → Bool) (g : List Int) (y : Int) : (g ++ [y]).any p = (g.any p || p y) := by simp

set_option maxRecDepth 20000 in set_option maxHeartbeats 2000000 in
theorem law_less_few (a : Option Addr) (n c : Nat) (l : List Int) (a2 : Option Addr) (n2 c2 : Nat) (l2 : List Int) (w : World) (h : Rd w (.slice a n c) l) (h2 : Rd w (.slice a2 n2 c2) l2) (hn : n ≤ 150) (hn2 : n2 ≤ 150) :
    Calls Try.prog 8 #[.slice a n c, .slice a2 n2 c2] w fun e w' => e = .returned (.bool true) ∧ Below w.heap.size w w' := by
  obtain ⟨i0, hi, hz0, hz1, hz2⟩ := info_parts info_int
  have q1 : ¬ (150 : Int) < n := by omega
  have q2 : ¬ (150 : Int) < n2 := by omega
  have q3 : (n : Int) ≤ 150 := by omega
  have q4 : (n2 : Int) ≤ 150 := by omega
  have HR : Hid (∀ W, Below w.heap.size w W → Rd W (.slice a n c) l ∧ Rd W (.slice a2 n2 c2) l2) := fun W hB => ⟨h.below hB, h2.below hB⟩
  have HN : Hid (l.length ≤ 150 ∧ l2.length ≤ 150 ∧ (∀ x ∈ l, I64 x) ∧ ∀ x ∈ l2, I64 x) := ⟨h.len.1 ▸ hn, h2.len.1 ▸ hn2, h.ints, h2.ints⟩
  have C1 := fun W (hB : Below w.heap.size w W) => RSort_any _ l W (HR.out W hB).1 (by have := HN.out; omega)
  have C2 := fun W (hB : Below w.heap.size w W) => RSort_any _ l2 W (HR.out W hB).2 (by have := HN.out; omega)
  obtain ⟨X, hX⟩ : ∃ s, isort tq l = s := ⟨_, rfl⟩
  obtain ⟨Y, hY⟩ : ∃ s, isort tq l2 = s := ⟨_, rfl⟩
  simp only [hX] at C1
  simp only [hY] at C2
  have HX : Hid (X.length ≤ 150 ∧ Y.length ≤ 150 ∧ (∀ x ∈ X, I64 x) ∧ (∀ x ∈ Y, I64 x) ∧ Srt tq X ∧ Srt tq Y) :=
    ⟨by rw [← hX, isort_len]; exact HN.out.1, by rw [← hY, isort_len]; exact HN.out.2.1, hX ▸ isort_ints HN.out.2.2.1, hY ▸ isort_ints HN.out.2.2.2, hX ▸ isort_srt _ _, hY ▸ isort_srt _ _⟩
  clear h h2 hX hY
  go_enter Try.func8, Try.ntmps8
  go_wp2_with fail
  refine (C1 _ (Below.refl _ _)).mono ?_
  rintro e w1 ⟨v1, rfl, hl1, hb1⟩
  have H1 : Hid (Lst w1 w.heap.size v1 X ∧ Below w.heap.size w w1) := ⟨hl1, hb1⟩
  clear hl1 hb1
  go_wp2_with fail
  refine (C2 _ H1.out.2).mono ?_
  rintro e w2 ⟨v2, rfl, hl2, hb2⟩
  have s1 := H1.out.2.size
  have H2 : Hid (Lst w2 w.heap.size v1 X ∧ Lst w2 w.heap.size v2 Y ∧ Below w.heap.size w w2) := ⟨H1.out.1.belowN hb2 (fun g e => (own_block H1.out.1 g e).2), hl2.mono s1, H1.out.2.trans (hb2.mono s1)⟩
  have s2 := H2.out.2.2.size
  obtain ⟨xa, xc, rfl, -⟩ := H2.out.1.form
  obtain ⟨ya, yc, rfl, -⟩ := H2.out.2.1.form
  obtain ⟨nx, hnx⟩ : ∃ m, X.length = m := ⟨_, rfl⟩
  obtain ⟨ny, hny⟩ : ∃ m, Y.length = m := ⟨_, rfl⟩
  have HV : Hid ((∀ W, Below w2.heap.size w2 W → Below w.heap.size w W ∧ Rd W (.slice xa nx xc) X ∧ Rd W (.slice ya ny yc) Y) ∧ X.length = nx ∧ Y.length = ny ∧ nx ≤ 150 ∧ ny ≤ 150) := ⟨fun W hB => ⟨H2.out.2.2.trans (hB.mono s2), hnx ▸ (Rd.of_lst H2.out.1 HX.out.2.2.1).below hB, hny ▸ (Rd.of_lst H2.out.2.1 HX.out.2.2.2.1).below hB⟩, hnx, hny, hnx ▸ HX.out.1, hny ▸ HX.out.2.1⟩
  rw [hnx, hny]
  clear hl2 hb2 H1 hnx hny
  go_wp2_with fail
  go_loopg [7, 28] nx (fun r p7 p28 wr => ∃ (i : Nat) (q : List Int), i + r = nx ∧ p28 = .int .i64 i ∧ Lst wr w2.heap.size p7 q ∧ Hid (q = les tq Y (X.take i)) ∧ Hid (Below w2.heap.size w2 wr))
  case atStart => exact ⟨0, [], by omega, rfl, Lst.nil _ _, rfl, Below.refl _ _⟩
  case round =>
    obtain ⟨i, q, hi9, rfl, hrow, HQ, HB⟩ := hrel
    obtain ⟨qa, qc, rfl, -⟩ := hrow.form
    have HQL : Hid (q.length ≤ 1001) := by
      show _ ≤ _
      rw [HQ.out]
      have h1 : (les tq Y (X.take i)).length ≤ (X.take i).length := List.length_filter_le _ _
      rw [List.length_take] at h1
      have := HX.out
      omega
    by_cases hin : i < nx
    · obtain ⟨g, o, rfl, -, -, hx64, -, cx⟩ := (HV.out.1 _ HB.out).2.1.at hin
      obtain ⟨x, hx⟩ : ∃ x, X.getD i 0 = x := ⟨_, rfl⟩
      rw [hx] at cx hx64
      have HT : Hid (X.take (i + 1) = X.take i ++ [x]) := by show _ = _; rw [take_snoc (by have := HV.out; omega), hx]
      have hin' : (i : Int) < nx := by omega
      have e1 : IntKind.i64.wrap ((i : Int) + 1) = (i : Int) + 1 := by rw [IntKind.wrap_i64]; have := HV.out; omega
      obtain ⟨wO, hwO⟩ : ∃ W, W = wr := ⟨_, rfl⟩
      subst hwO
      obtain ⟨gO, hgO⟩ : ∃ G, G = gk := ⟨_, rfl⟩
      subst hgO
      clear hx
      go_wp2_with fail
      go_loopg [10, 34] ny (fun r p10 p34 w3 => ∃ (j : Nat) (fb : Bool), j + r = ny ∧ p34 = .int .i64 j ∧ p10 = .bool fb ∧ w3 = wO ∧ Hid (fb = (Y.take j).any fun y => tq y == tq x))
      case atStart => exact ⟨0, false, by omega, rfl, rfl, rfl, rfl⟩
      case round =>
        obtain ⟨j, fb, hj9, rfl, rfl, hww, HF⟩ := hrel
        obtain rfl := hww.symm
        by_cases hjn : j < ny
        · obtain ⟨g2, o2, rfl, -, -, hy64, -, cy⟩ := (HV.out.1 _ HB.out).2.2.at hjn
          obtain ⟨y, hy⟩ : ∃ y, Y.getD j 0 = y := ⟨_, rfl⟩
          rw [hy] at cy hy64
          have HTY : Hid (Y.take (j + 1) = Y.take j ++ [y]) := by show _ = _; rw [take_snoc (by have := HV.out; omega), hy]
          have CT := fun w => tens_any x y hx64 hy64 w
          have hsg := tensI_sg x y
          obtain ⟨d, hd⟩ : ∃ d, tensI x y = d := ⟨_, rfl⟩
          rw [hd] at hsg
          simp only [hd] at CT
          obtain ⟨bd, hbd⟩ : ∃ b, (d == 0) = b := ⟨_, rfl⟩
          have HD : Hid (bd = (tq y == tq x)) := by
            show _ = _
            rw [← hbd]
            unfold Sg at hsg
            by_cases h : tq y = tq x
            · have : d = 0 := by omega
              simp [this, h]
            · have : ¬ d = 0 := by omega
              have h1 : (d == 0) = false := by simpa using this
              have h2 : (tq y == tq x) = false := by simpa using h
              rw [h1, h2]
          have hjn' : (j : Int) < ny := by omega
          have e2 : IntKind.i64.wrap ((j : Int) + 1) = (j : Int) + 1 := by rw [IntKind.wrap_i64]; have := HV.out; omega
          clear hy hd hsg
          cases fb with
          | true =>
            clear CT hbd
            go_wp2_with fail
            go_roundg (ny - (j + 1))
            case measure => omega
            case rel => exact ⟨j + 1, true, by omega, by simp, rfl, rfl, by show _ = _; rw [HTY.out, any_snoc, ← HF.out]; rfl⟩
          | false =>
            go_wp2_with fail
            refine (CT _).mono ?_
            rintro e w4 ⟨rfl, e4⟩
            obtain rfl := e4.symm
            go_wp2_with fail
            go_roundg (ny - (j + 1))
            case measure => omega
            case rel => exact ⟨j + 1, bd, by omega, by simp, rfl, rfl, by show _ = _; rw [HTY.out, any_snoc, ← HF.out, ← HD.out]; rfl⟩
        · have hjn' : ¬ (j : Int) < ny := by omega
          have HA : Hid (fb = Y.any fun y => tq y == tq x) := by
            have := HF.out
            rw [List.take_of_length_le (by have := HV.out; omega)] at this
            exact this
          have HB9 := HB
          cases fb with
          | true =>
            go_wp2_with fail
            go_roundg (nx - (i + 1))
            case measure => omega
            case rel => exact ⟨i + 1, q, by omega, by simp, hrow, by show _ = _; rw [HT.out, les_snoc, if_pos HA.out.symm, HQ.out], HB⟩
          | false =>
            go_wp2_with (at_builtin; refine wpList_append_own _ rfl _ _ 22 rfl w2.heap.size 3 i0 (.int .i64 0) 1 8 Try.underlying22 hi hz0 hz1 hz2 rfl (by decide) (.slice qa q.length qc) _ _ rfl (World.ownsRow.alloc hrow _) ⟨wO.heap.size, 0, none⟩ 1 1 [.int .i64 x] rfl rfl (cell_one_new _ _ _) (fun u hu => by simp at hu; subst hu; rfl) (by unfold maxLen; have := HQL.out; omega) (by have := HQL.out; omega) (by have := HB.out.size; simp; omega) ?_; intro v9 w9 h1o h1g _; obtain ⟨g1, cap1, rfl⟩ := ownsRow_succ h1o; have HB1 : Hid (Below w2.heap.size w2 w9) := HB.out.trans (((Below.refl _ wO).alloc HB.out.size _).trans (below_grow h1g (by have := HB.out.size; simp; omega) (fun k hk => (World.ownsRow.lt hrow k hk).1))))
            go_roundg (nx - (i + 1))
            case measure => omega
            case rel => exact ⟨i + 1, q ++ [x], by omega, by simp, Lst.snoc h1o, by show _ = _; rw [HT.out, les_snoc, if_neg (by rw [← HA.out]; simp), HQ.out], HB1⟩
    · have hin' : ¬ (i : Int) < nx := by omega
      have HE : Hid (q = les tq Y X) := by
        have := HQ.out
        rw [List.take_of_length_le (by have := HV.out; omega)] at this
        exact this
      have HE2 : Hid ((∀ x ∈ les tq Y X, I64 x) ∧ (les tq Y X).length ≤ 2000) := ⟨fun x hx => HX.out.2.2.1 x (List.mem_filter.1 hx).1, by have h1 : (les tq Y X).length ≤ X.length := List.length_filter_le _ _; have := HX.out; omega⟩
      have CL := Less_any tens_ordr _ _ X Y wr (HV.out.1 _ HB.out).2.1 (HV.out.1 _ HB.out).2.2 HX.out.2.2.2.2.1 HX.out.2.2.2.2.2 (by have := HX.out; omega)
      have HW : Hid (Lst wr w2.heap.size (.slice qa q.length qc) (les tq Y X)) := by have h := hrow; rw [HE.out] at h ⊢; exact h
      obtain ⟨qn, hqn⟩ : ∃ n, q.length = n := ⟨_, rfl⟩
      rw [hqn] at HW ⊢
      obtain ⟨Z, hZ⟩ : ∃ z, les tq Y X = z := ⟨_, rfl⟩
      rw [hZ] at HW CL HE2
      clear hrow hqn hZ
      go_wp2_with fail
      refine CL.mono ?_
      clear CL
      rintro e w5 ⟨v5, rfl, hl5, hb5⟩
      have HB5 : Hid (Below w2.heap.size w2 w5) := HB.out.trans (hb5.mono HB.out.size)
      have E1 := equal_any v5 _ Z Z w5 (Rd.of_lst hl5 HE2.out.1) ((Rd.of_lst HW.out HE2.out.1).below hb5) HE2.out.2
      rw [decide_eq_true rfl] at E1
      clear hl5 hb5
      go_wp2_with fail
      refine E1.mono ?_
      clear E1
      rintro e w6 ⟨rfl, hg6⟩
      have HB6 : Hid (Below w2.heap.size w2 w6) := HB5.out.trans (hg6.below.mono HB5.out.size)
      have D1 := C1 w6 (HV.out.1 w6 HB6.out).1
      clear hg6
      go_wp2_with fail
      refine D1.mono ?_
      clear D1
      rintro e w7 ⟨v7, rfl, hl7, hb7⟩
      have HB7 : Hid (Below w2.heap.size w2 w7) := HB6.out.trans (hb7.mono HB6.out.size)
      have E2 := equal_any _ v7 X X w7 (HV.out.1 w7 HB7.out).2.1 (Rd.of_lst hl7 HX.out.2.2.1) (by have := HX.out; omega)
      rw [decide_eq_true rfl] at E2
      clear hl7 hb7
      go_wp2_with fail
      refine E2.mono ?_
      clear E2
      rintro e w8 ⟨rfl, hg8⟩
      have HB8 : Hid (Below w2.heap.size w2 w8) := HB7.out.trans (hg8.below.mono HB7.out.size)
      have CA := awake_any w8
      clear hg8
      go_wp2_with fail
      refine CA.mono ?_
      clear CA
      rintro e w9 ⟨rfl, hb9⟩
      have HB9 : Hid (Below w2.heap.size w2 w9) := HB8.out.trans (hb9.mono HB8.out.size)
      clear hb9
      go_wp2_with fail
      go_ret
      exact ⟨rfl, (HV.out.1 w9 HB9.out).1⟩
theorem law_less (a : Option Addr) (n c : Nat) (l : List Int) (a2 : Option Addr) (n2 c2 : Nat) (l2 : List Int) (w : World) (h : Rd w (.slice a n c) l ∧ Zn (.slice a n c)) (h2 : Rd w (.slice a2 n2 c2) l2 ∧ Zn (.slice a2 n2 c2)) : Calls Try.prog 8 #[.slice a n c, .slice a2 n2 c2] w fun e w' => e = .returned (.bool true) ∧ Below w.heap.size w w' := by
  by_cases hn : n ≤ 150 ∧ n2 ≤ 150
  · exact law_less_few a n c l a2 n2 c2 l2 w h.1 h2.1 hn.1 hn.2
  · exact law_less_many a n c a2 n2 c2 w hn
end Go.Proofs.Ytblnpabgakmghaa
