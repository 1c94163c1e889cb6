/- gromalaw07 over the loaded program: MergeMerges' law. -/
import Derived.Test.YtblnpabgakmghaaN11
namespace Go.Proofs.Ytblnpabgakmghaa
open Go.RowKit Go.Shelf
attribute [local go_sem] Gr.size Gr.cell? Gr.frozen? Gr.setCell Gr.drew Gr.drewN Gr.of_drew Gr.of_drewN Gr.gr Gr.lt_of1 Gr.le_of1 Gr.lt_of2 Gr.le_of2 Gr.lt_of3 Gr.le_of3 Gr.lt_of4 Gr.le_of4 Gr.lt_of5 Gr.le_of5 Gr.lt_of6 Gr.le_of6 Gr.lt_of7 Gr.le_of7 Gr.lt_of8 Gr.le_of8 Gr.lt_of9 Gr.le_of9 Gr.lt_of10 Gr.le_of10 Gr.lt_of11 Gr.le_of11 Gr.lt_of12 Gr.le_of12 Gr.lt_of13 Gr.le_of13 Gr.lt_of14 Gr.le_of14 Gr.lt_of15 Gr.le_of15 Gr.lt_of16 Gr.le_of16 Gr.lt_of17 Gr.le_of17 Gr.lt_of18 Gr.le_of18 Gr.lt_of19 Gr.le_of19 Gr.lt_of20 Gr.le_of20 Gr.lt_of21 Gr.le_of21 Gr.lt_of22 Gr.le_of22 Gr.lt_of23 Gr.le_of23 Gr.lt_of24 Gr.le_of24
set_option maxRecDepth 20000 in set_option maxHeartbeats 2000000 in
theorem law_merges_many (a : Option Addr) (n c : Nat) (a2 : Option Addr) (n2 c2 : Nat) (w : World) (h : ¬ (n ≤ 150 ∧ n2 ≤ 150)) : Calls Try.prog 4 #[.slice a n c, .slice a2 n2 c2] w fun e w' => e = .returned (.bool true) ∧ Below w.heap.size w w' := by
  have h1 : (150 : Int) < n ∨ (n : Int) ≤ 150 ∧ (150 : Int) < n2 := by omega
  clear h
  have CA := awake_any w
  rcases h1 with h1 | ⟨h1, h2⟩
  · go_enter Try.func4, Try.ntmps4
    go_wp2_with fail
    refine CA.mono ?_
    rintro e w2 ⟨rfl, hb⟩
    go_wp2_with fail
    go_ret
    exact ⟨rfl, hb⟩
  · have h3 : ¬ (150 : Int) < n := by omega
    go_enter Try.func4, Try.ntmps4
    go_wp2_with fail
    refine CA.mono ?_
    rintro e w2 ⟨rfl, hb⟩
    go_wp2_with fail
    go_ret
    exact ⟨rfl, hb⟩
set_option maxRecDepth 20000 in set_option maxHeartbeats 2000000 in
theorem law_merges_few (a : Option Addr) (n c : Nat) (l : List Int) (a2 : Option Addr) (n2 c2 : Nat) (l2 : List Int) (w : World) (h : Rd w (.slice a n c) l) (h2 : Rd w (.slice a2 n2 c2) l2) (hn : n ≤ 150) (hn2 : n2 ≤ 150) :
    Calls Try.prog 4 #[.slice a n c, .slice a2 n2 c2] w fun e w' => e = .returned (.bool true) ∧ Below w.heap.size w w' := by
  have q1 : ¬ (150 : Int) < n := by omega
  have q2 : ¬ (150 : Int) < n2 := by omega
  have q3 : (n : Int) ≤ 150 := by omega
  have q4 : (n2 : Int) ≤ 150 := by omega
  have HR : Hid (∀ W, Below w.heap.size w W → Rd W (.slice a n c) l ∧ Rd W (.slice a2 n2 c2) l2) := fun W hB => ⟨h.below hB, h2.below hB⟩
  have HN : Hid (l.length ≤ 150 ∧ l2.length ≤ 150 ∧ (∀ x ∈ l, I64 x) ∧ ∀ x ∈ l2, I64 x) := ⟨h.len.1 ▸ hn, h2.len.1 ▸ hn2, h.ints, h2.ints⟩
  have C1 := fun W (hB : Below w.heap.size w W) => RSort_any _ l W (HR.out W hB).1 (by have := HN.out; omega)
  have C2 := fun W (hB : Below w.heap.size w W) => RSort_any _ l2 W (HR.out W hB).2 (by have := HN.out; omega)
  obtain ⟨X, hX⟩ : ∃ s, isort tq l = s := ⟨_, rfl⟩
  obtain ⟨Y, hY⟩ : ∃ s, isort tq l2 = s := ⟨_, rfl⟩
  simp only [hX] at C1
  simp only [hY] at C2
  have HX : Hid (X.length ≤ 150 ∧ Y.length ≤ 150 ∧ (∀ x ∈ X, I64 x) ∧ (∀ x ∈ Y, I64 x) ∧ mrg tq X Y = isort tq (X ++ Y)) :=
    ⟨by rw [← hX, isort_len]; exact HN.out.1, by rw [← hY, isort_len]; exact HN.out.2.1, hX ▸ isort_ints HN.out.2.2.1, hY ▸ isort_ints HN.out.2.2.2, mrg_eq (hX ▸ isort_srt _ _) (hY ▸ isort_srt _ _)⟩
  clear h h2 hX hY
  go_enter Try.func4, Try.ntmps4
  go_wp2_with fail
  refine (C1 _ (Below.refl _ _)).mono ?_
  rintro e w1 ⟨v1, rfl, hl1, hb1⟩
  have H1 : Hid (Lst w1 w.heap.size v1 X ∧ Below w.heap.size w w1) := ⟨hl1, hb1⟩
  clear hl1 hb1
  go_wp2_with fail
  refine (C2 _ H1.out.2).mono ?_
  rintro e w2 ⟨v2, rfl, hl2, hb2⟩
  have s1 := H1.out.2.size
  have H2 : Hid (Lst w2 w.heap.size v1 X ∧ Lst w2 w.heap.size v2 Y ∧ Below w.heap.size w w2) := ⟨H1.out.1.belowN hb2 (fun g e => (own_block H1.out.1 g e).2), hl2.mono s1, H1.out.2.trans (hb2.mono s1)⟩
  have CM := Merge_any tens_ordr v1 v2 X Y w2 (Rd.of_lst H2.out.1 HX.out.2.2.1) (Rd.of_lst H2.out.2.1 HX.out.2.2.2.1) (fun q e => (own_block H2.out.1 q e).2) (fun q e => (own_block H2.out.2.1 q e).2) (by have := HX.out; omega)
  rw [HX.out.2.2.2.2] at CM
  obtain ⟨M, hM⟩ : ∃ M, isort tq (X ++ Y) = M := ⟨_, rfl⟩
  rw [hM] at CM
  have HM : Hid (isort tq (X ++ Y) = M ∧ (∀ x ∈ M, I64 x) ∧ M.length ≤ 300) := ⟨hM, hM ▸ isort_ints (fun x hx => by rcases List.mem_append.1 hx with h | h; exact HX.out.2.2.1 x h; exact HX.out.2.2.2.1 x h), by rw [← hM, isort_len, List.length_append]; have := HX.out; omega⟩
  clear hl2 hb2 hM
  go_wp2_with fail
  refine CM.mono ?_
  clear CM
  rintro e w3 ⟨v3, rfl, hl3, hb3⟩
  have H3 : Hid (Lst w3 w2.heap.size v3 M ∧ Below w2.heap.size w2 w3) := ⟨hl3, hb3⟩
  have s2 := H2.out.2.2.size
  have HV : Hid (∀ W, Below w2.heap.size w2 W → Below w.heap.size w W ∧ Rd W v1 X ∧ Rd W v2 Y) := fun W hB => ⟨H2.out.2.2.trans (hB.mono s2), (Rd.of_lst H2.out.1 HX.out.2.2.1).below hB, (Rd.of_lst H2.out.2.1 HX.out.2.2.2.1).below hB⟩
  have hX0 := Lst.made0 w3
  have b30 : Below w2.heap.size w2 (w3.alloc (.cells #[] 3)) := hb3.trans (((IsGr.refl w3).alloc _).below.mono hb3.size)
  have r1 := (HV.out _ b30).2.1
  have z1 := H2.out.1.zn
  have z2 := H2.out.2.1.zn
  clear hl3 hb3
  go_wp2_with (first
    | (at_builtin; refine wpList_append_all rfl _ _ rfl w3.heap.size (.slice (some ⟨w3.heap.size, 0, none⟩) 0 0) v1 [] X rfl rfl hX0 r1 z1 (by have := HX.out; simp; omega) (by simp) ?_; intro va wa hla hga; rw [List.nil_append] at hla; have ba : Hid (Below w2.heap.size w2 wa) := b30.grown hga (by have := H3.out.2.size; simp; omega) (fun k e => by cases e; exact H3.out.2.size))
    | (at_builtin; refine wpList_append_all rfl _ _ rfl w3.heap.size va v2 X Y rfl rfl hla (HV.out _ ba.out).2.2 z2 (by have := HX.out; omega) (by have := hla; have := hga.size; simp at this; omega) ?_; intro vb wb hlb hgb))
  have bb : Hid (Below w2.heap.size w2 wb ∧ w3.heap.size ≤ wb.heap.size) := ⟨ba.out.grown hgb ba.out.size (fun k e => by have := (own_block hla k e).1; have := H3.out.2.size; omega), by have := hga.size; have := hgb.size; simp at *; omega⟩
  have HXY : Hid (∀ x ∈ X ++ Y, I64 x) := fun x hx => by rcases List.mem_append.1 hx with h | h; exact HX.out.2.2.1 x h; exact HX.out.2.2.2.1 x h
  have CS := RSort_any vb (X ++ Y) wb (Rd.of_lst hlb HXY.out) (by rw [List.length_append]; have := HX.out; omega)
  rw [HM.out.1] at CS
  have H3b : Hid (Lst wb w2.heap.size v3 M) := by
    refine H3.out.1.wr (S := []) ⟨?_, ?_, ?_, bb.out.2, fun k hk _ => ?_⟩ (by simp)
    · exact hgb.os.trans hga.os
    · exact hgb.tape.trans hga.tape
    · exact hgb.output.trans hga.output
    · have e1 : (w3.alloc (.cells #[] 3)).heap[k]? = w3.heap[k]? := ((IsGr.refl w3).alloc _).below.block k hk
      refine (hgb.block k (by have := hga.size; simp at this; omega) (fun e => by have := (own_block hla k e.symm).1; omega)).trans ((hga.block k (by simp; omega) (fun e => by have e' := Option.some.inj e; simp only at e'; omega)).trans e1)
  clear hla hga hlb hgb hX0 b30 r1 z1 z2 ba
  refine CS.mono ?_
  clear CS
  rintro e w4 ⟨v4, rfl, hl4, hb4⟩
  have H4 : Hid (Lst w4 w2.heap.size v3 M ∧ Below w2.heap.size w2 w4) := ⟨H3b.out.belowN hb4 (fun g e => (own_block H3b.out g e).2), bb.out.1.trans (hb4.mono bb.out.1.size)⟩
  have E1 := equal_any v3 v4 M M w4 (Rd.of_lst H4.out.1 HM.out.2.1) (Rd.of_lst hl4 HM.out.2.1) (by have := HM.out; omega)
  rw [decide_eq_true rfl] at E1
  clear hl4 hb4
  go_wp2_with fail
  refine E1.mono ?_
  clear E1
  rintro e w5 ⟨rfl, hg5⟩
  have H5 : Hid (Lst w5 w2.heap.size v3 M ∧ Below w2.heap.size w2 w5) := ⟨H4.out.1.gr hg5, H4.out.2.trans (hg5.below.mono H4.out.2.size)⟩
  obtain ⟨a3, c3, rfl, hf3⟩ := H5.out.1.form
  obtain ⟨N, hN⟩ : ∃ N, M.length = N := ⟨_, rfl⟩
  have hg3 : 0 < N → ∃ g, a3 = some ⟨g, 0, none⟩ ∧ w2.heap.size ≤ g := fun h => by
    rcases hf3 with h0 | ⟨g, e, h1, _⟩
    · rw [← hN, h0] at h; simp at h
    · exact ⟨g, e, h1⟩
  have HL5 : Hid (Lst w5 w2.heap.size (.slice a3 N c3) M ∧ M.length = N) := ⟨hN ▸ H5.out.1, hN⟩
  have hN9 : N ≤ 300 := by have := HM.out; omega
  rw [hN]
  clear hg5 hf3 hN H1 H3 H3b H4
  go_wp2_with fail
  go_loopg [36] N (fun r p36 wr => ∃ (i : Nat) (M2 : List Int), i + r = N ∧ p36 = .int .i64 i ∧ Hid (Lst wr w2.heap.size (.slice a3 N c3) M2 ∧ Below w2.heap.size w2 wr))
  case atStart => exact ⟨0, M, by omega, rfl, HL5.out.1, H5.out.2⟩
  case round =>
    obtain ⟨i, M2, hi, rfl, H⟩ := hrel
    by_cases hin : i < N
    · obtain ⟨g, rfl, hgw⟩ := hg3 (by omega)
      obtain ⟨c1, f1⟩ := H.out.1.at hin
      have hin' : (i : Int) < N := by omega
      have e1 : IntKind.i64.wrap ((i : Int) + 1) = (i : Int) + 1 := by rw [IntKind.wrap_i64]; omega
      have H6 : Hid (Lst (wr.setCell ⟨g, i, none⟩ (.int .i64 1)) w2.heap.size (.slice (some ⟨g, 0, none⟩) N c3) (M2.set i 1) ∧ Below w2.heap.size w2 (wr.setCell ⟨g, i, none⟩ (.int .i64 1))) := ⟨H.out.1.put i 1, H.out.2.setCell (p := ⟨g, i, none⟩) hgw _⟩
      go_wp2_with fail
      go_roundg (N - (i + 1))
      case measure => omega
      case rel => exact ⟨i + 1, M2.set i 1, by omega, by simp, H6⟩
    · have hin' : ¬ (i : Int) < N := by omega
      have HB : Hid (Below w2.heap.size w2 wr) := H.out.2
      have D1 := C1 wr (HV.out wr HB.out).1
      clear H hg3
      go_wp2_with fail
      refine D1.mono ?_
      clear D1
      rintro e w6 ⟨v6, rfl, hl6, hb6⟩
      have HB6 : Hid (Below w2.heap.size w2 w6) := HB.out.trans (hb6.mono HB.out.size)
      have E2 := equal_any v1 v6 X X w6 (HV.out w6 HB6.out).2.1 (Rd.of_lst hl6 HX.out.2.2.1) (by have := HX.out; omega)
      rw [decide_eq_true rfl] at E2
      clear hl6 hb6
      go_wp2_with fail
      refine E2.mono ?_
      clear E2
      rintro e w7 ⟨rfl, hg7⟩
      have HB7 : Hid (Below w2.heap.size w2 w7) := HB6.out.trans (hg7.below.mono HB6.out.size)
      have D2 := C2 w7 (HV.out w7 HB7.out).1
      clear hg7
      go_wp2_with fail
      refine D2.mono ?_
      clear D2
      rintro e w8 ⟨v8, rfl, hl8, hb8⟩
      have HB8 : Hid (Below w2.heap.size w2 w8) := HB7.out.trans (hb8.mono HB7.out.size)
      have E3 := equal_any v2 v8 Y Y w8 (HV.out w8 HB8.out).2.2 (Rd.of_lst hl8 HX.out.2.2.2.1) (by have := HX.out; omega)
      rw [decide_eq_true rfl] at E3
      clear hl8 hb8
      go_wp2_with fail
      refine E3.mono ?_
      clear E3
      rintro e w9 ⟨rfl, hg9⟩
      have HB9 : Hid (Below w2.heap.size w2 w9) := HB8.out.trans (hg9.below.mono HB8.out.size)
      have CA := awake_any w9
      clear hg9
      go_wp2_with fail
      refine CA.mono ?_
      clear CA
      rintro e w10 ⟨rfl, hb10⟩
      have HB10 : Hid (Below w2.heap.size w2 w10) := HB9.out.trans (hb10.mono HB9.out.size)
      clear hb10
      go_wp2_with fail
      go_ret
      exact ⟨rfl, (HV.out w10 HB10.out).1⟩
theorem law_merges (a : Option Addr) (n c : Nat) (l : List Int) (a2 : Option Addr) (n2 c2 : Nat) (l2 : List Int) (w : World) (h : Rd w (.slice a n c) l ∧ Zn (.slice a n c)) (h2 : Rd w (.slice a2 n2 c2) l2 ∧ Zn (.slice a2 n2 c2)) : Calls Try.prog 4 #[.slice a n c, .slice a2 n2 c2] w fun e w' => e = .returned (.bool true) ∧ Below w.heap.size w w' := by
  by_cases hn : n ≤ 150 ∧ n2 ≤ 150
  · exact law_merges_few a n c l a2 n2 c2 l2 w h.1 h2.1 hn.1 hn.2
  · exact law_merges_many a n c a2 n2 c2 w hn
end Go.Proofs.Ytblnpabgakmghaa
