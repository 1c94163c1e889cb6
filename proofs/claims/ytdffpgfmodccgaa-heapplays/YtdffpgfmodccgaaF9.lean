/- gromalaw06 over the loaded program: HeapPlays' law. -/
import Derived.Test.YtdffpgfmodccgaaF8
namespace Go.Proofs.Ytdffpgfmodccgaa
open Go.RowKit Go.Shelf
attribute [local go_sem] Gr.size Gr.cell? Gr.frozen? Gr.setCell Gr.drew Gr.drewN Gr.of_drew Gr.of_drewN Gr.gr Gr.lt_of1 Gr.le_of1 Gr.lt_of2 Gr.le_of2 Gr.lt_of3 Gr.le_of3 Gr.lt_of4 Gr.le_of4 Gr.lt_of5 Gr.le_of5 Gr.lt_of6 Gr.le_of6 Gr.lt_of7 Gr.le_of7 Gr.lt_of8 Gr.le_of8 Gr.lt_of9 Gr.le_of9 Gr.lt_of10 Gr.le_of10 Gr.lt_of11 Gr.le_of11 Gr.lt_of12 Gr.le_of12 Gr.lt_of13 Gr.le_of13 Gr.lt_of14 Gr.le_of14 Gr.lt_of15 Gr.le_of15 Gr.lt_of16 Gr.le_of16 Gr.lt_of17 Gr.le_of17 Gr.lt_of18 Gr.le_of18 Gr.lt_of19 Gr.le_of19 Gr.lt_of20 Gr.le_of20 Gr.lt_of21 Gr.le_of21 Gr.lt_of22 Gr.le_of22 Gr.lt_of23 Gr.le_of23 Gr.lt_of24 Gr.le_of24
/-- On the way through the numbers that came in: k of them are in the list. -/
structure PreR (w0 : World) (t : Nat) (hv : Value) (L l : List Int) (k : Nat) (v : Value) (l' : List Int) (w : World) : Prop where
  hs : Hs w w0.heap.size t 9 hv L
  rd : Rd w v l'
  perm : l'.Perm (l.take k)
  rise : Rises l'
  apart : ∀ g, v.ownBlock = some g → g ∉ hbs t hv
  below : Below w0.heap.size w0 w
theorem PreR.next {w0 w w1 : World} {t k : Nat} {hv v v' : Value} {L l l' : List Int} (h : PreR w0 t hv L l k v l' w) (hi : ∀ x ∈ l, I64 x) (hk : k < l.length) (hp : Lst w1 w.heap.size v' (pi (l.getD k 0) l')) (hb : Below w.heap.size w w1) :
    PreR w0 t hv L l (k + 1) v' (pi (l.getD k 0) l') w1 := by
  have hl' : ∀ x ∈ l', I64 x := fun x hx => hi x (List.mem_of_mem_take (h.perm.subset hx))
  refine ⟨h.hs.wr (S := []) (Wr.of_below hb) (by simp), Rd.of_lst hp (pi_ints (getD_i64 hi hk) hl'), ?_, pi_rises h.rise, fun g e hm => ?_, h.below.trans (hb.mono h.below.size)⟩
  · have e : l.take (k + 1) = l.take k ++ [l.getD k 0] := by
      rw [List.take_succ_eq_append_getElem hk]; simp [List.getD, hk]
    rw [e]
    exact (pi_perm _ _).trans ((h.perm.cons _).trans (perm_snoc _ _).symm)
  · have e1 := (own_block hp g e).1
    have e2 := h.hs.lt g hm
    omega
set_option maxRecDepth 20000 in set_option maxHeartbeats 2000000 in
theorem law_plays_many (a : Option Addr) (n c : Nat) (a2 : Option Addr) (n2 c2 : Nat) (w : World) (h : ¬ (n ≤ 100 ∧ n2 ≤ 150)) : Calls Try.prog 3 #[.slice a n c, .slice a2 n2 c2] w fun e w' => e = .returned (.bool true) ∧ Below w.heap.size w w' := by
  have h1 : (100 : Int) < n ∨ (n : Int) ≤ 100 ∧ (150 : Int) < n2 := by omega
  clear h
  have CA := awake_any w
  rcases h1 with h1 | ⟨h1, h2⟩
  · go_enter Try.func3, Try.ntmps3
    go_wp2_with fail
    refine CA.mono ?_
    rintro e w2 ⟨rfl, hb⟩
    go_wp2_with fail
    go_ret
    exact ⟨rfl, hb⟩
  · have h3 : ¬ (100 : Int) < n := by omega
    go_enter Try.func3, Try.ntmps3
    go_wp2_with fail
    refine CA.mono ?_
    rintro e w2 ⟨rfl, hb⟩
    go_wp2_with fail
    go_ret
    exact ⟨rfl, hb⟩
set_option maxRecDepth 20000 in set_option maxHeartbeats 2000000 in
theorem law_plays_few (a : Option Addr) (n c : Nat) (l : List Int) (a2 : Option Addr) (n2 c2 : Nat) (l2 : List (Int × Int)) (w : World) (h : Ins w a n l) (h2 : Ops w a2 n2 l2) (hn : n ≤ 100) (hn2 : n2 ≤ 150) :
    Calls Try.prog 3 #[.slice a n c, .slice a2 n2 c2] w fun e w' => e = .returned (.bool true) ∧ Below w.heap.size w w' := by
  have q1 : ¬ (100 : Int) < n := by omega
  have q2 : ¬ (150 : Int) < n2 := by omega
  have q3 : (n : Int) ≤ 100 := by omega
  have q4 : (n2 : Int) ≤ 150 := by omega
  have HI : Hid (Ins w a n l) := h
  have HO : Hid (Ops w a2 n2 l2) := h2
  have CN := New_any cmp_ordr a n c l w h (by omega)
  clear h h2
  go_enter Try.func3, Try.ntmps3
  go_wp2_with fail
  refine CN.mono ?_
  clear CN
  rintro e w1 ⟨t, hv, L, rfl, ht, hs, hk, hp, hb⟩
  have HH : Hid (w.heap.size ≤ t ∧ Hp id L ∧ L.Perm l ∧ PreR w t hv L l 0 (.slice none 0 0) [] w1) :=
    ⟨ht, hk, hp, hs, ⟨none, 0, rfl, Nat.le_refl _, rfl, by simp, Or.inl rfl⟩, by simp, by simp [Rises], fun g e => (by cases e), hb⟩
  clear ht hs hk hp hb
  go_wp2_with fail
  go_loopg [6, 29] n (fun r p6 p29 wr => ∃ (k : Nat) (l' : List Int) (sa : Option Addr) (sc : Nat), k + r = n ∧ p29 = .int .i64 k ∧ p6 = .slice sa l'.length sc ∧ Hid (PreR w t hv L l k (.slice sa l'.length sc) l' wr))
  case atStart => exact ⟨0, [], none, 0, by omega, rfl, rfl, HH.out.2.2.2⟩
  case round =>
    obtain ⟨k, l', sa, sc, hk, rfl, rfl, HB⟩ := hrel
    have hln : n = l.length := HI.out.1
    have hkl : l'.length ≤ n := by have := HB.out.perm.length_eq; rw [List.length_take] at this; omega
    by_cases hkn : k < n
    · obtain ⟨g, o, rfl, hy, hcs⟩ := HI.out.at hkn
      have hc := hcs _ HB.out.below
      have hkn' : (k : Int) < n := by omega
      have e1 : IntKind.i64.wrap ((k : Int) + 1) = (k : Int) + 1 := by rw [IntKind.wrap_i64]; omega
      obtain ⟨_, _, ev, _, hI⟩ := HB.out.rd
      have CP := RPut_any sa l'.length sc l' (l.getD k 0) wr (by injection ev with e1 e2 e3; rw [e1]; exact hI) (by omega)
      obtain ⟨x, hx⟩ : ∃ x, l.getD k 0 = x := ⟨_, rfl⟩
      rw [hx] at hc CP
      have HX : Hid (l.getD k 0 = x) := hx
      have HL : Hid (n = l.length) := hln
      clear hcs hI ev hx hy hln hkl
      go_wp2_with fail
      refine CP.mono ?_
      clear CP
      rintro e w2 ⟨v', rfl, hl2, hb2⟩
      have HB2 : Hid (PreR w t hv L l (k + 1) v' (pi x l') w2) := by
        have := HB.out.next (w1 := w2) (v' := v') HI.out.2.1 (by have := HL.out; omega) (by rw [HX.out]; exact hl2) hb2
        rw [HX.out] at this; exact this
      obtain ⟨sa', sc', rfl, _⟩ := hl2.form
      clear hl2 hb2 HB hc
      go_wp2_with fail
      go_roundg (n - (k + 1))
      case measure => omega
      case rel => exact ⟨k + 1, pi x l', sa', sc', by omega, by simp, rfl, HB2⟩
    · have hkn' : ¬ (k : Int) < n := by omega
      have HB0 : Hid (Both wr w.heap.size t hv L (.slice sa l'.length sc) l' ∧ Below w.heap.size w wr ∧ l'.length ≤ 100) := by
        have := HB.out.perm
        rw [List.take_of_length_le (by omega)] at this
        exact ⟨⟨HB.out.hs, HH.out.2.1, HB.out.rd, HH.out.2.2.1.trans this.symm, HB.out.rise, HB.out.apart, HH.out.1⟩, HB.out.below, by omega⟩
      have CC := Check_any cmp_ordr w.heap.size t hv L wr HB.out.hs HH.out.2.1 (by rw [HB0.out.1.len]; have := HB0.out.2.2; omega)
      clear HB hln hkl hk
      go_wp2_with fail
      refine CC.mono ?_
      clear CC
      rintro e w3 ⟨rfl, hg3⟩
      have HB1 : Hid (Both w3 w.heap.size t hv L (.slice sa l'.length sc) l' ∧ Below w.heap.size w w3 ∧ l'.length ≤ 100) := ⟨HB0.out.1.gr hg3, HB0.out.2.1.trans (hg3.below.mono HB0.out.2.1.size), HB0.out.2.2⟩
      clear HB0 hg3 HH
      go_wp2_with fail
      go_loopg [6, 42] n2 (fun r p6 p42 wr => ∃ (k : Nat) (hv : Value) (L l' : List Int) (sa : Option Addr) (sc : Nat), k + r = n2 ∧ p42 = .int .i64 k ∧ p6 = .slice sa l'.length sc ∧ Hid (Both wr w.heap.size t hv L (.slice sa l'.length sc) l' ∧ Below w.heap.size w wr ∧ l'.length ≤ 100 + k))
      case atStart => exact ⟨0, hv, L, l', sa, sc, by omega, rfl, rfl, HB1.out⟩
      case round =>
        clear HB1
        obtain ⟨k, hv, L, l', sa, sc, hk, rfl, rfl, HB⟩ := hrel
        by_cases hkn : k < n2
        · obtain ⟨g, o, x, y, rfl, hy, hcs⟩ := HO.out.at hkn
          obtain ⟨c1, c2⟩ := hcs _ HB.out.2.1
          have hkn' : (k : Int) < n2 := by omega
          have e1 : IntKind.i64.wrap ((k : Int) + 1) = (k : Int) + 1 := by rw [IntKind.wrap_i64]; omega
          have HA := (IsGr.refl wr).alloc (.cells #[.int .i64 x, .int .i64 y] 30)
          have CS := step_any w.heap.size t hv L _ l' x y _ (HB.out.1.gr HA) (Nat.le_trans HB.out.2.1.size HA.size) (by have := HB.out.2.2; omega) hy
          have HB0 : Hid (Below w.heap.size w (wr.alloc (.cells #[.int .i64 x, .int .i64 y] 30)) ∧ l'.length ≤ 100 + k) := ⟨HB.out.2.1.trans (HA.below.mono HB.out.2.1.size), HB.out.2.2⟩
          clear hcs HB HA
          go_wp2_with fail
          refine CS.mono ?_
          clear CS
          rintro e w2 ⟨hv2, L2, v2, l2', rfl, hB2, hbl, hlen⟩
          obtain ⟨sa', sc', rfl, _⟩ := hB2.rd
          have HB2 : Hid (Both w2 w.heap.size t hv2 L2 (.slice sa' l2'.length sc') l2' ∧ Below w.heap.size w w2 ∧ l2'.length ≤ 100 + (k + 1)) := ⟨hB2, HB0.out.1.trans hbl, by have := HB0.out.2; omega⟩
          have hL2 : L2.length ≤ 900 := by rw [hB2.len]; have := HB2.out.2.2; omega
          have CC := Check_any cmp_ordr w.heap.size t hv2 L2 w2 hB2.hs hB2.hp hL2
          clear HB0 hbl hlen c1 c2 hB2
          go_wp2_with fail
          refine CC.mono ?_
          clear CC
          rintro e w3 ⟨rfl, hg3⟩
          have HB3 : Hid (Both w3 w.heap.size t hv2 L2 (.slice sa' l2'.length sc') l2' ∧ Below w.heap.size w w3 ∧ l2'.length ≤ 100 + (k + 1)) := ⟨HB2.out.1.gr hg3, HB2.out.2.1.trans (hg3.below.mono HB2.out.2.1.size), HB2.out.2.2⟩
          have CL := Len_any w3 HB3.out.1.hs
          rw [HB3.out.1.len] at CL
          obtain ⟨m, hm⟩ : ∃ m, l2'.length = m := ⟨_, rfl⟩
          have HM : Hid (l2'.length = m) := hm
          rw [hm] at HB3 CL ⊢
          clear HB2 hg3 hm
          go_wp2_with fail
          refine CL.mono ?_
          clear CL
          rintro e w4 ⟨rfl, e4⟩
          obtain rfl := e4.symm
          have CF : ∃ z s, ((l2' = [] ∧ z = 0 ∧ s = false) ∨ (0 < l2'.length ∧ z = l2'.getD 0 0 ∧ s = true)) ∧ Calls Try.prog 14 #[.pointer (some ⟨t, 0, none⟩)] w3 (fun e w' => e = .returned (.tuple #[.int .i64 z, .bool s]) ∧ w' = w3) := by
            have h3 := HB3.out.1
            have hlen := h3.len
            rcases Nat.eq_zero_or_pos l2'.length with h0 | h0
            · refine ⟨0, false, Or.inl ⟨List.length_eq_zero_iff.1 h0, rfl, rfl⟩, ?_⟩
              obtain rfl : L2 = [] := List.length_eq_zero_iff.1 (by omega)
              exact First_none w3 h3.hs
            · refine ⟨l2'.getD 0 0, true, Or.inr ⟨h0, rfl, rfl⟩, ?_⟩
              have := First_some w3 h3.hs (by omega)
              rw [head_same h3.hp h3.perm h3.rise] at this
              exact this
          obtain ⟨z, s, hzs, CF⟩ := CF
          have CR := first_any (.slice sa' m sc') l2' z s w3 HB3.out.1.rd hzs
          clear hzs
          go_wp2_with fail
          refine CF.mono ?_
          clear CF
          rintro e w5 ⟨rfl, e4⟩
          obtain rfl := e4.symm
          go_wp2_with fail
          refine CR.mono ?_
          clear CR
          rintro e w5 ⟨rfl, e4⟩
          obtain rfl := e4.symm
          go_wp2_with fail
          go_roundg (n2 - (k + 1))
          case measure => omega
          case rel => exact ⟨k + 1, hv2, L2, l2', sa', sc', by omega, by simp, by rw [HM.out], by rw [HM.out]; exact HB3⟩
        · have hkn' : ¬ (k : Int) < n2 := by omega
          have CA := awake_any wr
          go_wp2_with fail
          refine CA.mono ?_
          rintro e w6 ⟨rfl, h6⟩
          go_wp2_with fail
          go_ret
          exact ⟨rfl, HB.out.2.1.trans (h6.mono HB.out.2.1.size)⟩
theorem law_plays (a : Option Addr) (n c : Nat) (l : List Int) (a2 : Option Addr) (n2 c2 : Nat) (l2 : List (Int × Int)) (w : World) (h : Ins w a n l) (h2 : Ops w a2 n2 l2) :
    Calls Try.prog 3 #[.slice a n c, .slice a2 n2 c2] w fun e w' => e = .returned (.bool true) ∧ Below w.heap.size w w' := by
  by_cases hn : n ≤ 100 ∧ n2 ≤ 150
  · exact law_plays_few a n c l a2 n2 c2 l2 w h h2 hn.1 hn.2
  · exact law_plays_many a n c a2 n2 c2 w hn
end Go.Proofs.Ytdffpgfmodccgaa
