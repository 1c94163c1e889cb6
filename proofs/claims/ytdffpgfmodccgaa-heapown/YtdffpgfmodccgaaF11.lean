/- gromalaw06 over the loaded program: HeapOwn's law. -/
import Derived.Test.YtdffpgfmodccgaaF7
import Derived.OwnWalk
namespace Go.Proofs.Ytdffpgfmodccgaa
open Go.RowKit Go.Shelf
attribute [local go_sem] Gr.size Gr.cell? Gr.frozen? Gr.setCell Gr.drew Gr.drewN Gr.of_drew Gr.of_drewN Gr.gr Gr.lt_of1 Gr.le_of1 Gr.lt_of2 Gr.le_of2 Gr.lt_of3 Gr.le_of3 Gr.lt_of4 Gr.le_of4 Gr.lt_of5 Gr.le_of5 Gr.lt_of6 Gr.le_of6 Gr.lt_of7 Gr.le_of7 Gr.lt_of8 Gr.le_of8 Gr.lt_of9 Gr.le_of9 Gr.lt_of10 Gr.le_of10 Gr.lt_of11 Gr.le_of11 Gr.lt_of12 Gr.le_of12 Gr.lt_of13 Gr.le_of13 Gr.lt_of14 Gr.le_of14 Gr.lt_of15 Gr.le_of15 Gr.lt_of16 Gr.le_of16 Gr.lt_of17 Gr.le_of17 Gr.lt_of18 Gr.le_of18 Gr.lt_of19 Gr.le_of19 Gr.lt_of20 Gr.le_of20 Gr.lt_of21 Gr.le_of21 Gr.lt_of22 Gr.le_of22 Gr.lt_of23 Gr.le_of23 Gr.lt_of24 Gr.le_of24
theorem Lst.belowN {w w' : World} {base b : Nat} {v : Value} {L : List Int} (h : Lst w base v L) (hb : Below b w w') (hv : ∀ g, v.ownBlock = some g → g < b) : Lst w' base v L := by
  obtain ⟨h1, h2⟩ := h
  refine ⟨h1, ?_⟩
  rcases h2 with h2 | ⟨g, cap, cur, rfl, h3, h4, h5⟩
  · exact Or.inl h2
  · refine Or.inr ⟨g, cap, cur, rfl, h3, ?_, h5⟩
    rw [hb.block g (hv g rfl)]
    exact h4
theorem Lst.at {w : World} {base g n c : Nat} {L : List Int} (h : Lst w base (.slice (some ⟨g, 0, none⟩) n c) L) {i : Nat} (hi : i < n) : w.cell? ⟨g, i, none⟩ = some (.int .i64 (L.getD i 0)) ∧ w.frozen? ⟨g, i, none⟩ = false := by
  obtain ⟨a', c', e, _⟩ := h.form
  injection e with e1 e2 e3
  subst e2
  refine ⟨?_, World.ownsRow.frozenAt h i⟩
  rw [World.ownsRow.cellAt h i (by omega)]
  simp [hi, List.getD]
theorem Lst.put {w : World} {base g n c : Nat} {L : List Int} (h : Lst w base (.slice (some ⟨g, 0, none⟩) n c) L) (i : Nat) (x : Int) : Lst (w.setCell ⟨g, i, none⟩ (.int .i64 x)) base (.slice (some ⟨g, 0, none⟩) n c) (L.set i x) := by
  obtain ⟨a', c', e, _⟩ := h.form
  injection e with e1 e2 e3
  subst e2
  have := (World.ownsRow.stored h i (.int .i64 x)).1
  unfold Lst
  simpa [List.map_set] using this
theorem adr_add (g o j : Nat) : (⟨g, o, none⟩ : Addr).add j = ⟨g, o + j, none⟩ := by
  unfold Addr.add
  split
  · rename_i h; subst h; rfl
  · rfl
theorem sevens (W : World) (t : TypeId) (j : Nat) (u : Value) (h : [Value.int .i64 7, .int .i64 7, .int .i64 7][j]? = some u) : (W.alloc (.cells #[.int .i64 7, .int .i64 7, .int .i64 7] t)).cell? ((⟨W.heap.size, 0, none⟩ : Addr).add j) = some u := by
  rw [adr_add]
  have hj : j < 3 := by have := (List.getElem?_eq_some_iff.1 h).1; simpa using this
  have : j = 0 ∨ j = 1 ∨ j = 2 := by omega
  rcases this with rfl | rfl | rfl <;> simpa [go_sem] using h
set_option maxRecDepth 20000 in set_option maxHeartbeats 2000000 in
theorem law_own_many (a : Option Addr) (n c : Nat) (a2 : Option Addr) (n2 c2 : Nat) (w : World) (h : ¬ (n ≤ 100 ∧ n2 ≤ 100)) : Calls Try.prog 5 #[.slice a n c, .slice a2 n2 c2] w fun e w' => e = .returned (.bool true) ∧ Below w.heap.size w w' := by
  have h1 : (100 : Int) < n ∨ (n : Int) ≤ 100 ∧ (100 : Int) < n2 := by omega
  clear h
  have CA := awake_any w
  rcases h1 with h1 | ⟨h1, h2⟩
  · go_enter Try.func5, Try.ntmps5
    go_wp2_with fail
    refine CA.mono ?_
    rintro e w2 ⟨rfl, hb⟩
    go_wp2_with fail
    go_ret
    exact ⟨rfl, hb⟩
  · have h3 : ¬ (100 : Int) < n := by omega
    go_enter Try.func5, Try.ntmps5
    go_wp2_with fail
    refine CA.mono ?_
    rintro e w2 ⟨rfl, hb⟩
    go_wp2_with fail
    go_ret
    exact ⟨rfl, hb⟩
set_option maxRecDepth 20000 in set_option maxHeartbeats 2000000 in
theorem law_own_few (a : Option Addr) (n c : Nat) (l : List Int) (a2 : Option Addr) (n2 c2 : Nat) (l2 : List Int) (w : World) (h : Ins w a n l) (hc0 : a = none → c = 0) (h2 : Ins w a2 n2 l2) (hn : n ≤ 100) (hn2 : n2 ≤ 100) :
    Calls Try.prog 5 #[.slice a n c, .slice a2 n2 c2] w fun e w' => e = .returned (.bool true) ∧ Below w.heap.size w w' := by
  obtain ⟨i0, hi, hz0, hz1, hz2⟩ := info_parts info_int
  have q1 : ¬ (100 : Int) < n := by omega
  have q2 : ¬ (100 : Int) < n2 := by omega
  have q3 : (n : Int) ≤ 100 := by omega
  have q4 : (n2 : Int) ≤ 100 := by omega
  have e9 : IntKind.i64.wrap ((n : Int) + 9) = ((n + 9 : Nat) : Int) := by rw [IntKind.wrap_i64]; omega
  have HI : Hid (Ins w a n l) := h
  have H2 : Hid (Ins w a2 n2 l2) := h2
  have N1 : Hid (n ≤ 100) := hn
  have HN : Hid (a = none → n = 0 ∧ c = 0) := fun e => ⟨by obtain ⟨_, _, h3⟩ := h; rcases h3 with h3 | ⟨_, _, h3, _⟩; exact h3; rw [e] at h3; exact absurd h3 (by simp), hc0 e⟩
  have HC : Hid (∀ W, Below w.heap.size w W → ∀ ad, a = some ad → ∀ (j : Nat) (u : Value), (l.map fun x => Value.int .i64 x)[j]? = some u → W.cell? (ad.add j) = some u) := by
    intro W hW ad had j u hu
    have hj : j < l.length := by have := (List.getElem?_eq_some_iff.1 hu).1; simpa using this
    obtain ⟨g, o, e, _, hcs⟩ := h.at (k := j) (by have := h.1; omega)
    rw [had] at e
    have e' := Option.some.inj e
    subst e'
    rw [adr_add, hcs W hW]
    simp [hj] at hu
    simp [List.getD, hj, hu]
  clear h h2 hc0 hn
  go_enter Try.func5, Try.ntmps5
  go_wp2_with (first
    | (at_make; refine wpList_make_own _ rfl _ _ 22 rfl w.heap.size 3 i0 (.int .i64 0) 1 Try.underlying22 hi hz0 hz1 _ _ _ (n + 9) rfl rfl (by first | rfl | omega) (by rw [hz2]; have := N1.out; omega) (by unfold maxLen; have := N1.out; omega) (Nat.le_refl _) ?_; intro w1 h1o h1g; have b1 : Hid (Below w.heap.size w w1) := (Below.refl _ w).grown h1g (Nat.le_refl _) (fun k e => by cases e))
    | (at_builtin; refine wpList_append_fits_any _ rfl _ _ 22 rfl w.heap.size 3 i0 1 Try.underlying22 hi hz1 w.heap.size n (n + 9) (l.map fun x => Value.int .i64 x) rfl (World.ownsRow.alloc h2o _) (some ⟨w2.heap.size, 0, none⟩) 3 3 [.int .i64 7, .int .i64 7, .int .i64 7] rfl rfl (fun e => by cases e) (fun ad e j u hu => by cases e; exact sevens w2 _ j u hu) (fun u hu => by simp at hu; subst hu; rfl) (by omega) ?_; intro w3 h3o h3g)
    | (at_builtin; refine wpList_append_fits_any _ rfl _ _ 22 rfl w.heap.size 3 i0 1 Try.underlying22 hi hz1 w.heap.size 0 (n + 9) [] rfl h1o a n c (l.map fun x => Value.int .i64 x) rfl (by have := HI.out.1; simp; omega) HN.out (HC.out _ b1.out) (fun u hu => by obtain ⟨x, _, rfl⟩ := List.mem_map.1 hu; rfl) (by omega) ?_; intro w2 h2o h2g; clear h1o; rw [Nat.zero_add, List.nil_append] at h2o; have b2 : Hid (Below w.heap.size w w2) := b1.out.grown h2g b1.out.size (fun k e => by cases e; exact Nat.le_refl _)))
  have hnl : n = l.length := HI.out.1
  have LR : Lst w3 w.heap.size (.slice (some ⟨w.heap.size, 0, none⟩) (n + 3) (n + 9)) (l ++ [7, 7, 7]) := by unfold Lst; simpa [hnl] using h3o
  have B3 : Below w.heap.size w w3 := (b2.out.trans (((IsGr.refl w2).alloc _).below.mono b2.out.size)).grown h3g (by have := b2.out.size; simp; omega) (fun k e => by cases e; exact Nat.le_refl _)
  have hg3 : w.heap.size < w3.heap.size := (own_block LR _ rfl).2
  have hI3 : Ins w3 (some ⟨w.heap.size, 0, none⟩) n l := ⟨hnl, HI.out.2.1, Or.inr ⟨_, _, rfl, hg3, fun i hi => by
    rw [Nat.zero_add, (LR.at (by omega)).1]
    simp only [List.getD_eq_getElem?_getD, List.getElem?_append_left (show i < l.length by omega)]⟩⟩
  have CN := New_any cmp_ordr _ n (n + 9) l w3 hI3 (by have := N1.out; omega)
  clear h2o b1 b2 h3o h3g hI3 HN HC h1g h2g
  refine CN.mono ?_
  clear CN
  rintro e w4 ⟨t, hv, L, rfl, ht, hs, hk, hp, hb⟩
  obtain ⟨b, hbb⟩ : ∃ b, w3.heap.size = b := ⟨_, rfl⟩
  rw [hbb] at hs hb ht hg3
  have HH : Hid (b ≤ t ∧ w.heap.size < b ∧ Below w.heap.size w w4 ∧ b ≤ w4.heap.size ∧ Lst w4 w.heap.size (.slice (some ⟨w.heap.size, 0, none⟩) (n + 3) (n + 9)) (l ++ [7, 7, 7]) ∧ Hs w4 b t 9 hv L ∧ Hp id L ∧ L.length = n) :=
    ⟨ht, hg3, B3.trans (hb.mono (by omega)), by have := hb.size; omega, LR.belowN hb (fun g e => by have e' := Option.some.inj e; rw [← e']; exact hg3), hs, hk, by rw [hp.length_eq, hnl]⟩
  have N2 : Hid (n = l.length) := hnl
  clear ht hs hk hp hb hbb B3 LR hg3 hnl
  go_wp2_with fail
  go_loopg [39] n2 (fun r p39 wr => ∃ (k : Nat) (hv : Value) (L : List Int), k + r = n2 ∧ p39 = .int .i64 k ∧ Hid (Hs wr b t 9 hv L ∧ Hp id L ∧ L.length = n ∧ Below b w4 wr))
  case atStart => exact ⟨0, hv, L, by omega, rfl, HH.out.2.2.2.2.2.1, HH.out.2.2.2.2.2.2.1, HH.out.2.2.2.2.2.2.2, Below.refl _ _⟩
  case round =>
    obtain ⟨k, hv', L', hk, rfl, HB⟩ := hrel
    by_cases hkn : k < n2
    · obtain ⟨g, o, rfl, hy, hcs⟩ := H2.out.at hkn
      have B0 : Below w.heap.size w wr := HH.out.2.2.1.trans (HB.out.2.2.2.mono (Nat.le_of_lt HH.out.2.1))
      have hc := hcs _ B0
      have hkn' : (k : Int) < n2 := by omega
      have e1 : IntKind.i64.wrap ((k : Int) + 1) = (k : Int) + 1 := by rw [IntKind.wrap_i64]; omega
      obtain ⟨x, hx⟩ : ∃ x, l2.getD k 0 = x := ⟨_, rfl⟩
      rw [hx] at hc hy
      have HL : Hid (L'.length ≤ 100 ∧ b ≤ wr.heap.size) := ⟨by rw [HB.out.2.2.1]; exact N1.out, Nat.le_trans HH.out.2.2.2.1 HB.out.2.2.2.size⟩
      have CP := Push_any cmp_ordr b t hv' L' x wr HB.out.1 HB.out.2.1 hy (by have := HL.out; omega) HL.out.2
      clear hcs hx B0
      go_wp2_with fail
      refine CP.mono ?_
      clear CP
      rintro e w5 ⟨rfl, hA⟩
      have hB5 := hA.below HB.out.1 HH.out.1 HL.out.2
      obtain ⟨hv5, L5, hs5, hk5, hp5, _, _⟩ := hA
      have hl5 : L5.length = n + 1 := by rw [hp5.length_eq, List.length_cons, HB.out.2.2.1]
      have CQ := Pop_some cmp_ordr b t hv5 L5 w5 hs5 hk5 (by omega) (by rw [hl5]; have := N1.out; omega)
      have H5 : Hid (Hs w5 b t 9 hv5 L5 ∧ Below b w4 w5 ∧ L5.length = n + 1 ∧ b ≤ w5.heap.size) := ⟨hs5, HB.out.2.2.2.trans hB5, hl5, Nat.le_trans HL.out.2 hB5.size⟩
      clear hs5 hk5 hp5 hB5 hl5 HB HL hc
      obtain ⟨z, hz⟩ : ∃ z, L5.getD 0 0 = z := ⟨_, rfl⟩
      rw [hz] at CQ
      clear hz
      go_wp2_with fail
      refine CQ.mono ?_
      clear CQ
      rintro e w6 ⟨rfl, hA⟩
      have hB6 := hA.below H5.out.1 HH.out.1 H5.out.2.2.2
      obtain ⟨hv6, L6, hs6, hk6, hp6, _, _⟩ := hA
      have H6 : Hid (Hs w6 b t 9 hv6 L6 ∧ Hp id L6 ∧ L6.length = n ∧ Below b w4 w6) := ⟨hs6, hk6, by have := hp6.length_eq; rw [List.length_cons, H5.out.2.2.1] at this; omega, H5.out.2.1.trans hB6⟩
      clear hs6 hk6 hp6 hB6 H5
      go_wp2_with fail
      go_roundg (n2 - (k + 1))
      case measure => omega
      case rel => exact ⟨k + 1, hv6, L6, by omega, by simp, H6⟩
    · have hkn' : ¬ (k : Int) < n2 := by omega
      have H1 : Hid (Below w.heap.size w wr ∧ b ≤ wr.heap.size ∧ Lst wr w.heap.size (.slice (some ⟨w.heap.size, 0, none⟩) (n + 3) (n + 9)) (l ++ [7, 7, 7]) ∧ Hs wr b t 9 hv' L' ∧ Hp id L' ∧ L'.length = n) := by
        obtain ⟨h1, h2, h3, h4, h5, _⟩ := HH.out
        obtain ⟨k1, k2, k3, k4⟩ := HB.out
        exact ⟨h3.trans (k4.mono (Nat.le_of_lt h2)), Nat.le_trans h4 k4.size, h5.belowN k4 (fun g e => by have e' := Option.some.inj e; rw [← e']; exact h2), k1, k2, k3⟩
      have H0 : Hid (b ≤ t ∧ w.heap.size < b) := ⟨HH.out.1, HH.out.2.1⟩
      clear HH HB
      go_wp2_with fail
      go_loopg [51] n (fun r p51 wr => ∃ (k : Nat) (R : List Int), k + r = n ∧ p51 = .int .i64 k ∧ Hid (Below w.heap.size w wr ∧ b ≤ wr.heap.size ∧ Lst wr w.heap.size (.slice (some ⟨w.heap.size, 0, none⟩) (n + 3) (n + 9)) R ∧ Hs wr b t 9 hv' L' ∧ (∀ j, k ≤ j → j < n → R.getD j 0 = l.getD j 0) ∧ ∀ j, n ≤ j → j < n + 3 → R.getD j 0 = 7))
      case atStart =>
        refine ⟨0, _, by omega, rfl, H1.out.1, H1.out.2.1, H1.out.2.2.1, H1.out.2.2.2.1, fun j _ hj => ?_, fun j hj hj2 => ?_⟩
        · simp only [List.getD_eq_getElem?_getD, List.getElem?_append_left (show j < l.length by have := N2.out; omega)]
        · have h3 : j - l.length = 0 ∨ j - l.length = 1 ∨ j - l.length = 2 := by have := N2.out; omega
          simp only [List.getD_eq_getElem?_getD]
          rw [List.getElem?_append_right (by have := N2.out; omega)]
          rcases h3 with h3 | h3 | h3 <;> simp [h3]
      case round =>
        have HP : Hid (Hp id L' ∧ L'.length = n) := H1.out.2.2.2.2
        clear H1
        obtain ⟨k, R, hk, rfl, HB⟩ := hrel
        by_cases hkn : k < n
        · obtain ⟨g, o, rfl, hy, hcs⟩ := HI.out.at hkn
          have hc := hcs _ HB.out.1
          obtain ⟨hr, fr⟩ := HB.out.2.2.1.at (i := k) (by omega)
          rw [HB.out.2.2.2.2.1 k (Nat.le_refl _) hkn] at hr
          have hkn' : (k : Int) < n := by omega
          have hkn2 : (k : Int) < (n : Int) + 3 := by omega
          have e1 : IntKind.i64.wrap ((k : Int) + 1) = (k : Int) + 1 := by rw [IntKind.wrap_i64]; omega
          obtain ⟨x, hx⟩ : ∃ x, l.getD k 0 = x := ⟨_, rfl⟩
          obtain ⟨y, hxy⟩ : ∃ y, IntKind.i64.wrap (x + 1) = y := ⟨_, rfl⟩
          rw [hx] at hc hr
          have HB2 : Hid (Below w.heap.size w (wr.setCell ⟨w.heap.size, k, none⟩ (.int .i64 y)) ∧ b ≤ (wr.setCell ⟨w.heap.size, k, none⟩ (.int .i64 y)).heap.size ∧ Lst (wr.setCell ⟨w.heap.size, k, none⟩ (.int .i64 y)) w.heap.size (.slice (some ⟨w.heap.size, 0, none⟩) (n + 3) (n + 9)) (R.set k y) ∧ Hs (wr.setCell ⟨w.heap.size, k, none⟩ (.int .i64 y)) b t 9 hv' L' ∧ (∀ j, k + 1 ≤ j → j < n → (R.set k y).getD j 0 = l.getD j 0) ∧ ∀ j, n ≤ j → j < n + 3 → (R.set k y).getD j 0 = 7) := by
            obtain ⟨k1, k2, k3, k4, k5, k6⟩ := HB.out
            have e : ∀ j, j ≠ k → (R.set k y).getD j 0 = R.getD j 0 := fun j hj => by simp only [List.getD_eq_getElem?_getD, List.getElem?_set, if_neg (Ne.symm hj)]
            refine ⟨k1.setCell (p := ⟨w.heap.size, k, none⟩) (Nat.le_refl _) _, by rw [set_size]; exact k2, k3.put k y, k4.wr (S := [w.heap.size]) ((Wr.refl _ _).set _ _ _ (Or.inl (by simp))) (fun q hq hm => ?_), fun j h1 h2 => by rw [e j (by omega)]; exact k5 j (by omega) h2, fun j h1 h2 => by rw [e j (by omega)]; exact k6 j h1 h2⟩
            have e2 : q = w.heap.size := by simpa using hq
            have := hbs_low k4 H0.out.1 q hm
            have := H0.out.2
            omega
          clear hcs hx HB
          go_wp2_with fail
          go_roundg (n - (k + 1))
          case measure => omega
          case rel => exact ⟨k + 1, R.set k y, by omega, by simp, HB2⟩
        · have hkn' : ¬ (k : Int) < n := by omega
          have H3 : Hid (Below w.heap.size w wr ∧ b ≤ wr.heap.size ∧ Hs wr b t 9 hv' L') := ⟨HB.out.1, HB.out.2.1, HB.out.2.2.2.1⟩
          have hc7 : ∀ j, j < 3 → wr.cell? ⟨w.heap.size, n + j, none⟩ = some (.int .i64 7) := fun j hj => by
            rw [(HB.out.2.2.1.at (i := n + j) (by omega)).1, HB.out.2.2.2.2.2 _ (by omega) (by omega)]
          clear HB
          go_wp2_with fail
          go_loopg [74] 3 (fun r p74 wr' => ∃ k : Nat, k + r = 3 ∧ p74 = .int .i64 k ∧ wr' = wr)
          case atStart => exact ⟨0, by omega, rfl, rfl⟩
          case round =>
            obtain ⟨j, hj, rfl, hww⟩ := hrel
            obtain rfl := hww.symm
            by_cases hj3 : j < 3
            · have hc := hc7 j hj3
              have hj' : (j : Int) < 3 := by omega
              have e1 : IntKind.i64.wrap ((j : Int) + 1) = (j : Int) + 1 := by rw [IntKind.wrap_i64]; omega
              go_wp2_with fail
              go_roundg (3 - (j + 1))
              case measure => omega
              case rel => exact ⟨j + 1, by omega, by simp, rfl⟩
            · have hj' : ¬ (j : Int) < 3 := by omega
              have CC := Check_any cmp_ordr b t hv' L' wr H3.out.2.2 HP.out.1 (by rw [HP.out.2]; have := N1.out; omega)
              clear hc7
              go_wp2_with fail
              refine CC.mono ?_
              clear CC
              rintro e w7 ⟨rfl, hg7⟩
              have CL := Len_any w7 (H3.out.2.2.gr hg7)
              rw [HP.out.2] at CL
              have CA := awake_any w7
              go_wp2_with fail
              refine CL.mono ?_
              rintro e w8 ⟨rfl, e8⟩
              obtain rfl := e8.symm
              go_wp2_with fail
              refine CA.mono ?_
              rintro e w9 ⟨rfl, h9⟩
              go_wp2_with fail
              go_ret
              have B7 := H3.out.1.trans (hg7.below.mono H3.out.1.size)
              exact ⟨rfl, B7.trans (h9.mono B7.size)⟩
theorem law_own (a : Option Addr) (n c : Nat) (l : List Int) (a2 : Option Addr) (n2 c2 : Nat) (l2 : List Int) (w : World) (h : Ins w a n l ∧ (a = none → c = 0)) (h2 : Ins w a2 n2 l2) :
    Calls Try.prog 5 #[.slice a n c, .slice a2 n2 c2] w fun e w' => e = .returned (.bool true) ∧ Below w.heap.size w w' := by
  by_cases hn : n ≤ 100 ∧ n2 ≤ 100
  · exact law_own_few a n c l a2 n2 c2 l2 w h.1 h.2 h2 hn.1 hn.2
  · exact law_own_many a n c a2 n2 c2 w hn
end Go.Proofs.Ytdffpgfmodccgaa
