/- gromalaw06 over the loaded program: HeapDrains' law. -/
import Derived.Test.YtdffpgfmodccgaaF14
import Derived.Test.YtdffpgfmodccgaaH2b
import Derived.Sort.CutIn
namespace Go.Proofs.Ytdffpgfmodccgaa
open Go.RowKit Go.Shelf
attribute [local go_sem] Oper.semAt_some
set_option maxRecDepth 100000 in
set_option maxHeartbeats 2000000 in
theorem law_drains_many (a : Option Addr) (n c : Nat) (stop : Int) (w : World) (hn : 150 < n) :
    Calls Try.prog 4 #[.slice a n c, .int .i64 stop] w fun e w' => e = .returned (.bool true) ∧ Below w.heap.size w w' := by
  have hn' : (150 : Int) < n := by omega
  refine (callsIn_wide (n := 9)).1 ?_
  refine callsIn_of_wp_marks Try.func4 rfl trivial ?_ rfl
  simp only [Try.ntmps4, List.size_toArray, List.length_cons, List.length_nil, Nat.reduceAdd, Nat.reduceSub, Array.replicate_succ, Array.replicate_zero, List.push_toArray, List.append_toArray, List.nil_append, List.cons_append]
  have cb := cell_new (w.alloc (.cells #[.int .i64 stop] 3)) (.bool false) 4
  rw [World.size_alloc] at cb
  have B1 : Below w.heap.size w ((w.alloc (.cells #[.int .i64 stop] 3)).alloc (.cells #[.bool false] 4)) := (((IsGr.refl w).alloc _).alloc _).below
  gi_wp2
  refine ⟨trivial, ?_⟩
  refine (callsIn_wide.2 (awake_any _)).mono ?_
  rintro e w2 ⟨rfl, h2⟩
  have cb2 := (h2.cell (p := ⟨w.heap.size + 1, 0, none⟩) (by simp)).trans cb.1
  have fb2 := (h2.frozen (p := ⟨w.heap.size + 1, 0, none⟩) (by simp)).trans cb.2
  clear cb
  gi_wp2
  have hc5 := cell_s (v := .bool true) cb2
  refine ⟨.bool true, ?_, rfl, (B1.trans (h2.mono B1.size)).setCell (p := ⟨w.heap.size + 1, 0, none⟩) (by simp) _⟩
  simp [results, Try.f4, go_sem, hc5]
/-- The law's own boxes: the place to stop, the answer, the list. -/
def Bx3 (b0 bl : Nat) (stop : Int) (v : Value) (W : World) : Prop :=
  W.cell? ⟨b0, 0, none⟩ = some (.int .i64 stop) ∧ (W.cell? ⟨b0 + 1, 0, none⟩ = some (.bool false) ∧ W.frozen? ⟨b0 + 1, 0, none⟩ = false) ∧ W.cell? ⟨bl, 0, none⟩ = some v ∧ W.frozen? ⟨bl, 0, none⟩ = false
theorem Bx3.kept {b0 bl : Nat} {stop : Int} {v : Value} {A B : World} (h : Bx3 b0 bl stop v A) (hb : ∀ k, k = b0 ∨ k = b0 + 1 ∨ k = bl → B.heap[k]? = A.heap[k]?) : Bx3 b0 bl stop v B := by
  obtain ⟨h1, ⟨h2, h3⟩, h4, h5⟩ := h
  have e0 := hb b0 (Or.inl rfl)
  have e1 := hb (b0 + 1) (Or.inr (Or.inl rfl))
  have e2 := hb bl (Or.inr (Or.inr rfl))
  exact ⟨cell_kb e0 _ h1, ⟨cell_kb e1 _ h2, frz_kb e1 h3⟩, cell_kb e2 _ h4, frz_kb e2 h5⟩
theorem Bx3.below {b0 bl : Nat} {stop : Int} {v : Value} {A B : World} (h : Bx3 b0 bl stop v A) (hb : Below A.heap.size A B) (h1 : b0 + 1 < A.heap.size) (h2 : bl < A.heap.size) : Bx3 b0 bl stop v B :=
  h.kept (fun k hk => hb.block k (by omega))
theorem Bx3.put {b0 bl : Nat} {stop : Int} {v : Value} {A : World} (h : Bx3 b0 bl stop v A) (hb : b0 + 1 < bl) (u : Value) : Bx3 b0 bl stop u (A.setCell ⟨bl, 0, none⟩ u) := by
  obtain ⟨h1, ⟨h2, h3⟩, h4, h5⟩ := h
  exact ⟨by rw [cell_o _ _ _ (by omega)]; exact h1, ⟨by rw [cell_o _ _ _ (by omega)]; exact h2, by rw [World.frozen?_setCell]; exact h3⟩, cell_s h4, by rw [World.frozen?_setCell]; exact h5⟩
/-- On the way through the numbers that came in: j of them are in the list. -/
structure LoadR (w0 : World) (t : Nat) (hv : Value) (L l : List Int) (bl : Nat) (stop : Int) (j : Nat) (v : Value) (l' : List Int) (W : World) : Prop where
  hs : Hs W (w0.heap.size + 2) t 9 hv L
  rd : Rd W v l'
  perm : l'.Perm (l.take j)
  rise : Rises l'
  apart : ∀ g, v.ownBlock = some g → g ∉ hbs t hv ∧ g ≠ bl ∧ w0.heap.size + 2 ≤ g ∧ g < W.heap.size
  below : Below w0.heap.size w0 W
  box : Bx3 w0.heap.size bl stop v W
  low : w0.heap.size + 2 ≤ bl
  lt : bl < W.heap.size
  blh : bl ∉ hbs t hv
theorem LoadR.next {w0 w w1 : World} {t bl j : Nat} {hv v v' : Value} {L l l' : List Int} {stop : Int} (h : LoadR w0 t hv L l bl stop j v l' w) (hi : ∀ x ∈ l, I64 x) (hk : j < l.length) (hp : Lst w1 w.heap.size v' (pi (l.getD j 0) l')) (hb : Below w.heap.size w w1) :
    LoadR w0 t hv L l bl stop (j + 1) v' (pi (l.getD j 0) l') (w1.setCell ⟨bl, 0, none⟩ v') := by
  have hl' : ∀ x ∈ l', I64 x := fun x hx => hi x (List.mem_of_mem_take (h.perm.subset hx))
  have hlt := h.lt
  have hlow := h.low
  have hW : Wr [bl] w1 (w1.setCell ⟨bl, 0, none⟩ v') := (Wr.refl _ _).set _ _ _ (Or.inl (by simp))
  have hown := own_block hp
  refine ⟨(h.hs.wr (S := []) (Wr.of_below hb) (by simp)).wr hW (fun b hb1 => ?_), (Rd.of_lst hp (pi_ints (getD_i64 hi hk) hl')).wr hW (fun g e hm => ?_), ?_, pi_rises h.rise, fun g e => ?_, ?_, (h.box.below hb (by omega) hlt).put (by omega) v', hlow, Nat.lt_of_lt_of_le (Nat.lt_of_lt_of_le hlt hb.size) hW.size, h.blh⟩
  · have e : b = bl := by simpa using hb1
    rw [e]; exact h.blh
  · have e1 : g = bl := by simpa using hm
    have := (hown g e).1
    omega
  · have e : l.take (j + 1) = l.take j ++ [l.getD j 0] := by
      rw [List.take_succ_eq_append_getElem hk]; simp [List.getD, hk]
    rw [e]
    exact (pi_perm _ _).trans ((h.perm.cons _).trans (perm_snoc _ _).symm)
  · have e1 := hown g e
    refine ⟨fun hm => ?_, by omega, by omega, by rw [set_size]; exact e1.2⟩
    have e2 := h.hs.lt g hm
    omega
  · exact (h.below.trans (hb.mono h.below.size)).setCell (p := ⟨bl, 0, none⟩) (by simp only; omega) _
theorem rd_drop {w : World} {g o o' m c K : Nat} {l : List Int} (h : Rd w (.slice (some ⟨g, o, none⟩) m c) l) (hK : K ≤ m) (ho : c = K ∧ o' = o ∨ o' = o + K) : Rd w (.slice (some ⟨g, o', none⟩) (m - K) (c - K)) (l.drop K) := by
  obtain ⟨a, c', e, hc, h1, h2, h3⟩ := h
  injection e with e1 e2 e3
  subst e1 e2 e3
  refine ⟨some ⟨g, o', none⟩, c - K, by simp, by simp; omega, by simp, fun x hx => h2 x (List.mem_of_mem_drop hx), ?_⟩
  rcases ho with ⟨rfl, rfl⟩ | rfl
  · left; simp; omega
  · rcases h3 with h3 | ⟨g', o2, e, h4, h5⟩
    · left; simp; omega
    · injection e with e
      injection e with e1 e2
      subst e1 e2
      refine Or.inr ⟨g, o + K, rfl, h4, fun i hi => ?_⟩
      simp at hi
      have := h5 (i + K) (by omega)
      rw [show o + K + i = o + (i + K) by omega, this]
      simp only [List.getD_eq_getElem?_getD, List.getElem?_drop]
      rw [show K + i = i + K by omega]
/-- What the law's last loop keeps: its boxes, the list, how many came. -/
structure DI (w W1 : World) (bl bk : Nat) (stop : Int) (v : Value) (l' : List Int) (k : Nat) (W : World) : Prop where
  box : Bx3 w.heap.size bl stop v W
  rd : Rd W v l'
  cnt : W.cell? ⟨bk, 0, none⟩ = some (.int .i64 k)
  fcnt : W.frozen? ⟨bk, 0, none⟩ = false
  below : Below w.heap.size w W
  size : W1.heap.size ≤ W.heap.size
theorem DI.kept {w W1 A B : World} {bl bk k : Nat} {v : Value} {stop : Int} {l' : List Int} (h : DI w W1 bl bk stop v l' k A) (hb : ∀ q, q = w.heap.size ∨ q = w.heap.size + 1 ∨ q = bl ∨ q = bk ∨ v.ownBlock = some q → B.heap[q]? = A.heap[q]?) (hB : Below w.heap.size A B) : DI w W1 bl bk stop v l' k B := by
  have e := hb bk (Or.inr (Or.inr (Or.inr (Or.inl rfl))))
  refine ⟨h.box.kept (fun q hq => hb q (by rcases hq with h | h | h <;> simp [h])), ?_, cell_kb e _ h.cnt, frz_kb e h.fcnt, h.below.trans hB, Nat.le_trans h.size hB.size⟩
  obtain ⟨a, c, rfl, hc, h1, h2, h3⟩ := h.rd
  refine ⟨a, c, rfl, hc, h1, h2, ?_⟩
  rcases h3 with h3 | ⟨g, o, rfl, h4, h5⟩
  · exact Or.inl h3
  · refine Or.inr ⟨g, o, rfl, Nat.lt_of_lt_of_le h4 hB.size, fun i hi => ?_⟩
    have := h5 i hi
    unfold World.cell? at *
    simp only at *
    rw [hb g (by simp [Value.ownBlock])]
    exact this
/-- What First tells. -/
theorem first_ex {w : World} {base t : Nat} {v : Value} {L l : List Int} (h : Hs w base t 9 v L) (hk : Hp id L) (hp : L.Perm l) (hr : Rises l) :
    ∃ z s, ((l = [] ∧ z = 0 ∧ s = false) ∨ (0 < l.length ∧ z = l.getD 0 0 ∧ s = true)) ∧ Calls Try.prog 14 #[.pointer (some ⟨t, 0, none⟩)] w (fun e w' => e = .returned (.tuple #[.int .i64 z, .bool s]) ∧ w' = w) := by
  have hlen := hp.length_eq
  rcases Nat.eq_zero_or_pos l.length with h0 | h0
  · refine ⟨0, false, Or.inl ⟨List.length_eq_zero_iff.1 h0, rfl, rfl⟩, ?_⟩
    obtain rfl : L = [] := List.length_eq_zero_iff.1 (by omega)
    exact First_none w h
  · refine ⟨l.getD 0 0, true, Or.inr ⟨h0, rfl, rfl⟩, ?_⟩
    have := First_some w h (by omega)
    rw [head_same hk hp hr] at this
    exact this
set_option maxRecDepth 100000 in
set_option maxHeartbeats 4000000 in
theorem law_drains_few (a : Option Addr) (n c : Nat) (l : List Int) (stop : Int) (w : World) (h : Ins w a n l) (hn : n ≤ 150) :
    Calls Try.prog 4 #[.slice a n c, .int .i64 stop] w fun e w' => e = .returned (.bool true) ∧ Below w.heap.size w w' := by
  have hn1 : ¬ (150 : Int) < n := by omega
  have hn2 : (n : Int) ≤ 150 := by omega
  have HI : Hid (Ins w a n l) := h
  refine (callsIn_wide (n := 9)).1 ?_
  refine callsIn_of_wp_marks Try.func4 rfl trivial ?_ rfl
  simp only [Try.ntmps4, List.size_toArray, List.length_cons, List.length_nil, Nat.reduceAdd, Nat.reduceSub, Array.replicate_succ, Array.replicate_zero, List.push_toArray, List.append_toArray, List.nil_append, List.cons_append]
  have hA : IsGr w ((w.alloc (.cells #[.int .i64 stop] 3)).alloc (.cells #[.bool false] 4)) := ((IsGr.refl w).alloc _).alloc _
  have cs := cell_new w (.int .i64 stop) 3
  have cs1 := cell_past (.cells #[.bool false] 4) cs.1
  have cb := cell_new (w.alloc (.cells #[.int .i64 stop] 3)) (.bool false) 4
  rw [World.size_alloc] at cb
  have CN := New_any cmp_ordr a n c l _ (h.wr (S := []) (Wr.of_gr hA) (by simp)) (by omega)
  clear h cs
  gi_wp2
  refine ⟨trivial, ?_⟩
  refine (callsIn_wide.2 CN).mono ?_
  clear CN
  rintro e w1 ⟨t, hv, L, rfl, ht, hs, hk, hp, hb⟩
  simp only [World.size_alloc] at ht hs hb
  have hsz1 : w.heap.size + 2 ≤ w1.heap.size := by have := hb.size; simpa using this
  have HL : Hid (LoadR w t hv L l w1.heap.size stop 0 (.slice none 0 0) [] (w1.alloc (.cells #[.slice none 0 0] 22))) := by
    have hg := (IsGr.refl w1).alloc (.cells #[.slice none 0 0] 22)
    have c1 := cell_new w1 (.slice none 0 0) 22
    refine ⟨hs.gr hg, ⟨none, 0, rfl, Nat.le_refl _, rfl, by simp, Or.inl rfl⟩, by simp, by simp [Rises], fun g e => (by cases e), (hA.below.trans (hb.mono (by omega))).trans (hg.below.mono (by omega)), ⟨cell_past _ ((hb.cell (p := ⟨w.heap.size, 0, none⟩) (by simp; omega)).trans cs1), ⟨cell_past _ ((hb.cell (p := ⟨w.heap.size + 1, 0, none⟩) (by simp)).trans cb.1), frozen_past _ ((hb.cell (p := ⟨w.heap.size + 1, 0, none⟩) (by simp)).trans cb.1) ((hb.frozen (p := ⟨w.heap.size + 1, 0, none⟩) (by simp)).trans cb.2)⟩, c1.1, c1.2⟩, hsz1, by simp, fun hm => by have := hs.lt _ hm; omega⟩
  have HP : Hid (Hp id L ∧ L.Perm l ∧ w.heap.size + 2 ≤ t) := ⟨hk, hp, ht⟩
  clear hs hk hp hb ht cb cs1 hA
  gi_wp2
  gi_loopw [23] (fun p wr => ∃ (j : Nat) (l' : List Int) (sa : Option Addr) (sc : Nat), j ≤ n ∧ p = .int .i64 j ∧ Hid (LoadR w t hv L l w1.heap.size stop j (.slice sa l'.length sc) l' wr ∧ (l' = [] → sa = none ∧ sc = 0)))
    (fun p wr => n - (intOf p).toNat)
  case atStart => exact ⟨0, [], none, 0, by omega, rfl, HL.out, fun _ => ⟨rfl, rfl⟩⟩
  case round =>
    clear HL
    obtain ⟨j, l', sa, sc, hj, rfl, HB⟩ := hrel
    have hln : n = l.length := HI.out.1
    by_cases hjn : j < n
    · obtain ⟨g, o, rfl, h64, hcs⟩ := HI.out.at hjn
      have hc := hcs _ HB.out.1.below
      have hcl := HB.out.1.box.2.2.1
      have hfl := HB.out.1.box.2.2.2
      have e1 : IntKind.i64.wrap ((j : Int) + 1) = (j : Int) + 1 := by rw [IntKind.wrap_i64]; omega
      have hjn' : (j : Int) < n := by omega
      have hlen : l'.length ≤ 150 := by have := HB.out.1.perm.length_eq; rw [List.length_take] at this; omega
      obtain ⟨_, _, ev, _, hI⟩ := HB.out.1.rd
      have CP := RPut_any sa l'.length sc l' (l.getD j 0) wr (by injection ev with e1 e2 e3; rw [e1]; exact hI) (by omega)
      obtain ⟨x, hx⟩ : ∃ x, l.getD j 0 = x := ⟨_, rfl⟩
      rw [hx] at hc h64 CP
      have HX : Hid (l.getD j 0 = x) := hx
      have HLN : Hid (n = l.length) := hln
      clear hx hcs hI ev h64 hln
      gi_wp2
      refine ⟨trivial, ?_⟩
      refine (callsIn_wide.2 CP).mono ?_
      clear CP
      rintro e w3 ⟨v', rfl, hl3, hb3⟩
      have hblt := HB.out.1.lt
      have cl3 := (hb3.cell (p := ⟨w1.heap.size, 0, none⟩) hblt).trans hcl
      have fl3 := (hb3.frozen (p := ⟨w1.heap.size, 0, none⟩) hblt).trans hfl
      have HB3 : Hid (LoadR w t hv L l w1.heap.size stop (j + 1) v' (pi x l') (w3.setCell ⟨w1.heap.size, 0, none⟩ v')) := by
        have := HB.out.1.next (w1 := w3) (v' := v') HI.out.2.1 (by have := HLN.out; omega) (by rw [HX.out]; exact hl3) hb3
        rw [HX.out] at this; exact this
      obtain ⟨sa', sc', rfl, _⟩ := hl3.form
      clear hl3 hb3 HB hc hcl hfl
      gi_wp2
      go_roundw
      case rel => exact ⟨j + 1, pi x l', sa', sc', by omega, by simp, HB3.out, fun e => by have := congrArg List.length e; rw [pi_len] at this; simp at this⟩
      case measure => simp [intOf]; omega
    · have hj2 : j = n := by omega
      subst hj2
      obtain ⟨W1, hW1⟩ : ∃ W1, W1 = wr := ⟨_, rfl⟩
      subst hW1
      have HLN : Hid (j = l.length) := hln
      clear hln
      gi_wp2
      refine ⟨trivial, ?_⟩
      refine (callsIn_wide.2 (Drain_any t _)).mono ?_
      rintro e w' ⟨rfl, e2⟩
      have c2 := cell_new W1 (.int .i64 0) 3
      have c3 := cell_new (W1.alloc (.cells #[.int .i64 0] 3)) (.pointer (some ⟨t, 0, none⟩)) 25
      simp only [World.size_alloc] at c3
      have hg2 : IsGr W1 w' := e2 ▸ ((IsGr.refl W1).alloc _).alloc _
      have hsz : w'.heap.size = W1.heap.size + 2 := by rw [e2]; simp
      have hcn : w'.cell? ⟨W1.heap.size, 0, none⟩ = some (.int .i64 0) ∧ w'.frozen? ⟨W1.heap.size, 0, none⟩ = false := e2 ▸ ⟨cell_past _ c2.1, frozen_past _ c2.1 c2.2⟩
      have hbx : w'.cell? ⟨W1.heap.size + 1, 0, none⟩ = some (.pointer (some ⟨t, 0, none⟩)) := e2 ▸ c3.1
      clear e2 c2 c3
      obtain ⟨W2, hW2⟩ : ∃ W2, W2 = w' := ⟨_, rfl⟩
      subst hW2
      obtain ⟨hHB, hsa⟩ := HB.out
      have hZ1 : ∀ b ∈ hbs t hv, b < W1.heap.size := hHB.hs.lt
      have hZ2 : ∀ b ∈ hbs t hv, w.heap.size + 2 ≤ b := hbs_low hHB.hs HP.out.2.2
      have hbl1 := hHB.low
      have hbl2 := hHB.lt
      have hbl3 := hHB.blh
      have hvo := hHB.apart
      have hBw := hHB.below.size
      have hrise := hHB.rise
      have hperm : L.Perm l' := by
        have := hHB.perm
        rw [List.take_of_length_le (by have := HLN.out; omega)] at this
        exact HP.out.2.1.trans this.symm
      have hLm : L.length = l'.length := hperm.length_eq
      have hm150 : l'.length ≤ 150 := by rw [← hLm, HP.out.2.1.length_eq]; have := HLN.out; omega
      have hI0 : DI w W1 w1.heap.size W1.heap.size stop (.slice sa l'.length sc) l' 0 W2 :=
        ⟨hHB.box.below hg2.below (by omega) hbl2, hHB.rd.gr hg2, hcn.1, hcn.2, hHB.below.trans (hg2.below.mono hBw), hg2.size⟩
      have hkeep : ∀ k A B, DI w W1 w1.heap.size W1.heap.size stop (.slice sa l'.length sc) l' k A → (∀ q, (q < w.heap.size + 2 ∨ q = w1.heap.size ∨ q = W1.heap.size ∨ (Value.slice sa l'.length sc).ownBlock = some q) → q < A.heap.size → B.heap[q]? = A.heap[q]?) → Below w.heap.size A B → DI w W1 w1.heap.size W1.heap.size stop (.slice sa l'.length sc) l' k B := fun k A B h hb hB =>
        h.kept (fun q hq => by
          have h1 := h.size
          have h2 := block_lt h.cnt
          rcases hq with rfl | rfl | rfl | rfl | e
          · exact hb _ (Or.inl (by omega)) (by omega)
          · exact hb _ (Or.inl (by omega)) (by omega)
          · exact hb _ (Or.inr (Or.inl rfl)) (by omega)
          · exact hb _ (Or.inr (Or.inr (Or.inl rfl))) h2
          · exact hb _ (Or.inr (Or.inr (Or.inr e))) (by have := (hvo q e).2.2.2; omega)) hB
      have hR1 : ∀ k A B, DI w W1 w1.heap.size W1.heap.size stop (.slice sa l'.length sc) l' k A → Wr (hbs t hv) A B → DI w W1 w1.heap.size W1.heap.size stop (.slice sa l'.length sc) l' k B := fun k A B h hr =>
        hkeep k A B h (fun q hq hqA => hr.block q hqA (fun hm => by
          have h1 := hZ1 q hm
          have h2 := hZ2 q hm
          rcases hq with e | e | e | e
          · omega
          · exact hbl3 (e ▸ hm)
          · omega
          · exact (hvo q e).1 hm)) (hr.below h.below.size (fun b hb => by have := hZ2 b hb; omega))
      have hO1 : ∀ k A B (row : Option Nat), DI w W1 w1.heap.size W1.heap.size stop (.slice sa l'.length sc) l' k A → A.grownBy B row → (∀ r, row = some r → W2.heap.size ≤ r ∧ ∃ o : Obj, A.heap[r]? = some o ∧ o.isCells = false) → DI w W1 w1.heap.size W1.heap.size stop (.slice sa l'.length sc) l' k B := fun k A B row h hg hr =>
        hkeep k A B h (fun q hq hqA => hg.block q hqA (fun e => by
          have h1 := (hr q e.symm).1
          rcases hq with e | e | e | e
          · omega
          · omega
          · omega
          · have := (hvo q e).2.2.2; omega)) ((Below.refl _ A).grown hg h.below.size (fun k e => by have := (hr k e).1; omega))
      have hnext : ∀ (pre : List I64x) (x : I64x), DrT id L pre x → pre.length < l'.length ∧ l'.getD pre.length 0 = x.1 := fun pre x ⟨L2, hp⟩ => by
        obtain ⟨q1, _⟩ := hp.list hperm hrise
        have q2 := congrArg List.length q1
        simp only [List.length_map, List.length_append, List.length_cons, List.length_nil, List.length_take] at q2
        have q3 : pre.length < l'.length := by omega
        refine ⟨q3, ?_⟩
        have q4 := congrArg (fun z => z.getD pre.length 0) q1
        simp only [List.map_append, List.map_cons, List.map_nil, List.length_append, List.length_map, List.length_cons, List.length_nil] at q4
        simp only [List.getD_eq_getElem?_getD] at q4 ⊢
        rw [List.getElem?_append_right (by simp), List.getElem?_take, if_pos (by omega)] at q4
        simpa using q4.symm
      obtain ⟨m, hm⟩ : ∃ m, l'.length = m := ⟨_, rfl⟩
      have HM : Hid (l'.length = m) := hm
      rw [hm] at hI0 hR1 hO1 hm150 hvo hkeep
      gi_wp2
      refine wpIn_range_turns rfl rfl (by omega) (gf := 25) (lb := #[.pointer (some ⟨W1.heap.size + 1, 0, none⟩)]) rfl trivial (enters_of Try.func25 (by kernel_rfl) rfl)
        (R := Wr (hbs t hv)) (Kp := KpZ ((W1.heap.size + 1) :: hbs t hv)) (T := DrT id L) (S := DrE id (w.heap.size + 2) t 9 L (hbs t hv)) (Sp := DrS id (w.heap.size + 2) t 9 L (hbs t hv))
        (fun o1 o2 => drain_in cmp_ordr (w.heap.size + 2) t (W1.heap.size + 1) _ L (hbs t hv) hv _ (hHB.hs.gr ((hg2.alloc o1).alloc o2)) HP.out.1 (fun b hb => hb) (by omega) (cellk hbx (((IsGr.refl W2).alloc o1).alloc o2)) (fun hm => by have := hZ1 _ hm; omega))
        (fun A B hr k hk hlt => hr.block k hlt (fun hm => by have := hZ1 _ hm; omega)) (fun h1 h2 => h1.trans h2)
        (fun W l o hl => KpZ.putObj (N := W2.heap.size) (fun b hb => by rcases List.mem_cons.1 hb with e | hb; omega; have := hZ1 b hb; omega) W l o hl) (fun _ => rfl)
        (fun pre W => DI w W1 w1.heap.size W1.heap.size stop (.slice sa m sc) l' pre.length W)
        (fun cd pre W => cd = .exit 2 ∧ DI w W1 w1.heap.size W1.heap.size stop (.slice sa m sc) l' pre.length W ∧ (pre.length : Int) = stop)
        (fun s A B row hs hg hr => hO1 _ A B row hs hg hr)
        (fun cd s A B row hs hg hr => ⟨hs.1, hO1 _ A B row hs.2.1 hg hr, hs.2.2⟩) (DrE.own (fun b hb => by have := hZ1 b hb; omega)) (DrS.own (fun b hb => by have := hZ1 b hb; omega))
        (fun s A B hs hr => hR1 _ A B hs hr)
        (fun cd s A B hs hr => ⟨hs.1, hR1 _ A B hs.2.1 hr, hs.2.2⟩) hI0
        ?a1 ?assign ?body ?done ?stop
      case assign =>
        intro lq x W K hK
        gi_wp2
        exact hK
      case body =>
        rintro lq pre x W hI hT hWs
        obtain ⟨hpm, hx⟩ := hnext pre x hT
        have hrd := hI.rd
        obtain ⟨_, _, ev, _, hIn⟩ := hrd
        obtain ⟨g, o, ea, _, hcx⟩ := hIn.at (k := pre.length) hpm
        have hcx := hcx W (Below.refl _ _)
        rw [hx] at hcx
        have ea2 : sa = some ⟨g, o, none⟩ := by injection ev with e1 e2 e3; rw [e1]; exact ea
        obtain ⟨b1, ⟨b2, b2f⟩, b3, b3f⟩ := hI.box
        have cn := hI.cnt
        have fn := hI.fcnt
        have hW1 := hI.size
        have hb0 := hI.below.size
        have WR : ∀ u, Wr [W1.heap.size] W (W.setCell ⟨W1.heap.size, 0, none⟩ u) := fun u => (Wr.refl _ W).set _ _ _ (Or.inl (by simp))
        have FF : Hid ((KeepsOthers W (W.setCell ⟨W1.heap.size, 0, none⟩ (.int .i64 ((pre.length : Int) + 1))) ∧ KpZ ((W1.heap.size + 1) :: hbs t hv) W (W.setCell ⟨W1.heap.size, 0, none⟩ (.int .i64 ((pre.length : Int) + 1)))) ∧ DI w W1 w1.heap.size W1.heap.size stop (.slice sa m sc) l' (pre ++ [x]).length (W.setCell ⟨W1.heap.size, 0, none⟩ (.int .i64 ((pre.length : Int) + 1)))) := by
          refine ⟨⟨KeepsOthers.setCell _ _ _, (WR _).size, fun b hb => (WR _).block b (by rcases List.mem_cons.1 hb with e | hb; omega; have := hZ1 b hb; omega) (fun hm => ?_)⟩, ?_⟩
          · have e : b = W1.heap.size := by simpa using hm
            rcases List.mem_cons.1 hb with e2 | hb
            · omega
            · have := hZ1 b hb; omega
          · have hne : ∀ q, q ≠ W1.heap.size → (W.setCell ⟨W1.heap.size, 0, none⟩ (.int .i64 ((pre.length : Int) + 1))).heap[q]? = W.heap[q]? := fun q hq => set_block _ _ _ _ _ hq
            refine ⟨hI.box.kept (fun q hq => hne q (by omega)), hI.rd.wr (WR _) (fun q hq hm => ?_), ?_, by rw [World.frozen?_setCell]; exact fn, hI.below.trans ((WR _).below hb0 (fun b hb => (by rcases List.mem_cons.1 hb with e | e; omega; cases e))), Nat.le_trans hW1 (WR _).size⟩
            · have e : q = W1.heap.size := by simpa using hm
              have := (hvo q hq).2.2.2
              omega
            · rw [cell_s cn]; simp
        obtain ⟨i, hi⟩ : ∃ i, pre.length = i := ⟨_, rfl⟩
        rw [hi] at hcx cn FF
        subst ea2
        have hpm' : (i : Int) < m := by rw [hm] at hpm; omega
        have him : i < m := by omega
        have e1 : IntKind.i64.wrap ((i : Int) + 1) = (i : Int) + 1 := by rw [IntKind.wrap_i64]; omega
        have HL : Hid ((pre ++ [x]).length = i + 1) := by show _ = _; simp [hi]
        have FK : Hid ((W.setCell ⟨W1.heap.size, 0, none⟩ (.int .i64 ((i : Int) + 1))).cell? ⟨w.heap.size, 0, none⟩ = some (.int .i64 stop)) := by
          show _ = _
          rw [cell_o _ _ _ (by omega)]; exact b1
        have fk := FK.out
        have nb : w.heap.size ≠ W1.heap.size := by omega
        clear hI hT hi ev hIn ea hx hpm WR hnext hR1 hO1 hkeep
        by_cases hst : (i : Int) + 1 = stop
        · subst hst
          gi_wp2
          refine ⟨FF.out.1, rfl, FF.out.2, ?_⟩
          rw [HL.out]; simp
        · gi_wp2
          exact FF.out
      case done =>
        rintro D xs W hD hS hI hK
        have hxl : xs.length = m := by rw [hS.2, hLm]; exact hm
        obtain ⟨⟨vE, LE, hsE, hkE, hpE, _⟩, _⟩ := hS
        obtain ⟨q1, pLE⟩ := hpE.list hperm hrise
        rw [List.length_map, hxl] at pLE
        rw [hxl] at hI
        have hLE : LE.length = 0 := by rw [pLE.length_eq, List.length_drop, hm]; omega
        clear hpE hxl q1
        rcases Nat.eq_zero_or_pos m with hm0 | hm0
        · subst hm0
          have hnil : l' = [] := List.length_eq_zero_iff.1 hm
          obtain ⟨rfl, rfl⟩ := hsa hnil
          by_cases hst : (0 : Int) = stop
          · subst hst
            have HR0 : Rd W (.slice none 0 0) (l'.drop (0)) := (by rw [hnil]; exact hnil ▸ hI.rd)
            have HR : Hid (Rd W (.slice none 0 0) (l'.drop (0))) := HR0
            have HS : Hid (Hs W (w.heap.size + 2) t 9 vE LE ∧ Hp id LE ∧ LE.Perm (l'.drop (0)) ∧ LE.length ≤ 150 ∧ Below w.heap.size w W ∧ W.heap[D]? = some (.deferred (some [])) ∧ w.heap.size + 1 < D) := ⟨hsE, hkE, pLE, by omega, hI.below, hK, by omega⟩
            have k1 := hI.box.1
            have k2 := hI.box.2.2.1
            have k3 := hI.cnt
            have k4 := hI.box.2.1
            have CL : ∀ w', IsGr W w' → Calls Try.prog 13 #[.pointer (some ⟨t, 0, none⟩)] w' fun e w'' => e = .returned (.int .i64 0) ∧ IsGr w' w'' := fun w' hg => (Len_any w' (hsE.gr hg)).mono fun e w'' ⟨h1, h2⟩ => ⟨by rw [h1, hLE]; rfl, h2 ▸ IsGr.refl _⟩
            have CC : ∀ w', IsGr W w' → Calls Try.prog 11 #[.pointer (some ⟨t, 0, none⟩)] w' fun e w'' => e = .returned (.bool true) ∧ IsGr w' w'' := fun w' hg => Check_any cmp_ordr _ t vE LE w' (hsE.gr hg) hkE (by omega)
            clear hI hsE hkE pLE hK hR1 hO1 hkeep hnext hvo HR0
            gi_upto_region 19 with fail
            refine wpIn_wide.2 ?_
            obtain ⟨C, hin, hcl, hcells, hgr⟩ : ∃ C : World → Prop, (∀ w', IsGr W w' → C w') ∧ (∀ u u', C u → IsGr u u' → C u') ∧ (∀ w', C w' → (w'.cell? ⟨w.heap.size, 0, none⟩ = some (.int .i64 0)) ∧ (w'.cell? ⟨w1.heap.size, 0, none⟩ = some (.slice none 0 0)) ∧ (w'.cell? ⟨W1.heap.size, 0, none⟩ = some (.int .i64 0))) ∧ (∀ w', C w' → IsGr W w') := ⟨fun w' => IsGr W w', fun _ h => h, fun _ _ h k => h.trans k, fun w' hg => ⟨cellk k1 hg, cellk k2 hg, cellk k3 hg⟩, fun _ h => h⟩
            refine wp_region_quietV C (by kernel_rfl) (by kernel_rfl) (hin _ (by with_reducible repeat (first | exact IsGr.refl _ | refine IsGr.gr ?_ _ _ | refine IsGr.alloc ?_ _ | refine IsGr.drew ?_ | refine IsGr.drewN ?_ _))) (fun K HK => ?_)
            refine QK.take HK ?_ (by rfl) ?_ ?_
            rotate_left
            · (intro w hw; (try have hcs := hcells w hw); (try go_split_ands); go_simp <;> with_reducible rfl)
            (try simp only [Act.put, List.setIfInBounds_toArray, List.set_cons_zero, List.set_cons_succ])
            refine QK.take HK ?_ (by rfl) ?_ ?_
            rotate_left
            · (intro w hw; (try have hcs := hcells w hw); (try go_split_ands); go_simp <;> with_reducible rfl)
            (try simp only [Act.put, List.setIfInBounds_toArray, List.set_cons_zero, List.set_cons_succ])
            refine QK.take HK ?_ (by rfl) ?_ ?_
            rotate_left
            · (intro w hw; (try have hcs := hcells w hw); (try go_split_ands); go_simp <;> with_reducible rfl)
            (try simp only [Act.put, List.setIfInBounds_toArray, List.set_cons_zero, List.set_cons_succ])
            refine QK.take HK ?_ (by rfl) ?_ ?_
            rotate_left
            · (intro w hw; (try have hcs := hcells w hw); (try go_split_ands); go_simp <;> with_reducible rfl)
            (try simp only [Act.put, List.setIfInBounds_toArray, List.set_cons_zero, List.set_cons_succ])
            refine QK.skip HK (by rfl) ?_
            (try simp only [Act.put, List.setIfInBounds_toArray, List.set_cons_zero, List.set_cons_succ])
            refine QK.skip HK (by rfl) ?_
            (try simp only [Act.put, List.setIfInBounds_toArray, List.set_cons_zero, List.set_cons_succ])
            refine QK.skip HK (by rfl) ?_
            (try simp only [Act.put, List.setIfInBounds_toArray, List.set_cons_zero, List.set_cons_succ])
            refine QK.skip HK (by rfl) ?_
            (try simp only [Act.put, List.setIfInBounds_toArray, List.set_cons_zero, List.set_cons_succ])
            refine QK.take HK ?_ (by rfl) ?_ ?_
            rotate_left
            · (intro w hw; (try have hcs := hcells w hw); (try go_split_ands); go_simp <;> with_reducible rfl)
            (try simp only [Act.put, List.setIfInBounds_toArray, List.set_cons_zero, List.set_cons_succ])
            refine QK.take HK ?_ (by rfl) ?_ ?_
            rotate_left
            · (intro w hw; (try have hcs := hcells w hw); (try go_split_ands); go_simp <;> with_reducible rfl)
            (try simp only [Act.put, List.setIfInBounds_toArray, List.set_cons_zero, List.set_cons_succ])
            refine QK.take HK ?_ (by rfl) ?_ ?_
            rotate_left
            · (intro w hw; (try have hcs := hcells w hw); (try go_split_ands); go_simp <;> with_reducible rfl)
            (try simp only [Act.put, List.setIfInBounds_toArray, List.set_cons_zero, List.set_cons_succ])
            refine QK.callC HK 13 #[.pointer (some ⟨t, 0, none⟩)] (.int .i64 0) hcl (by rfl) (fun w => by go_simp) (fun w hw => CL w (hgr w hw)) ?_
            (try simp only [Act.put, List.setIfInBounds_toArray, List.set_cons_zero, List.set_cons_succ])
            refine QK.take HK ?_ (by rfl) ?_ ?_
            rotate_left
            · (intro w hw; (try have hcs := hcells w hw); (try go_split_ands); go_simp <;> with_reducible rfl)
            (try simp only [Act.put, List.setIfInBounds_toArray, List.set_cons_zero, List.set_cons_succ])
            refine QK.take HK ?_ (by rfl) ?_ ?_
            rotate_left
            · (intro w hw; (try have hcs := hcells w hw); (try go_split_ands); go_simp <;> with_reducible rfl)
            (try simp only [Act.put, List.setIfInBounds_toArray, List.set_cons_zero, List.set_cons_succ])
            refine QK.take HK ?_ (by rfl) ?_ ?_
            rotate_left
            · (intro w hw; (try have hcs := hcells w hw); (try go_split_ands); go_simp <;> with_reducible rfl)
            (try simp only [Act.put, List.setIfInBounds_toArray, List.set_cons_zero, List.set_cons_succ])
            refine QK.take HK ?_ (by rfl) ?_ ?_
            rotate_left
            · (intro w hw; (try have hcs := hcells w hw); (try go_split_ands); go_simp <;> with_reducible rfl)
            (try simp only [Act.put, List.setIfInBounds_toArray, List.set_cons_zero, List.set_cons_succ])
            refine QK.take HK ?_ (by rfl) ?_ ?_
            rotate_left
            · (intro w hw; (try have hcs := hcells w hw); (try go_split_ands); go_simp <;> with_reducible rfl)
            (try simp only [Act.put, List.setIfInBounds_toArray, List.set_cons_zero, List.set_cons_succ])
            refine QK.take HK ?_ (by rfl) ?_ ?_
            rotate_left
            · (intro w hw; (try have hcs := hcells w hw); (try go_split_ands); go_simp <;> with_reducible rfl)
            (try simp only [Act.put, List.setIfInBounds_toArray, List.set_cons_zero, List.set_cons_succ])
            refine QK.take HK ?_ (by rfl) ?_ ?_
            rotate_left
            · (intro w hw; (try have hcs := hcells w hw); (try go_split_ands); go_simp <;> with_reducible rfl)
            (try simp only [Act.put, List.setIfInBounds_toArray, List.set_cons_zero, List.set_cons_succ])
            refine QK.take HK ?_ (by rfl) ?_ ?_
            rotate_left
            · (intro w hw; (try have hcs := hcells w hw); (try go_split_ands); go_simp <;> with_reducible rfl)
            (try simp only [Act.put, List.setIfInBounds_toArray, List.set_cons_zero, List.set_cons_succ])
            refine QK.callC HK 11 #[.pointer (some ⟨t, 0, none⟩)] (.bool true) hcl (by rfl) (fun w => by go_simp) (fun w hw => CC w (hgr w hw)) ?_
            (try simp only [Act.put, List.setIfInBounds_toArray, List.set_cons_zero, List.set_cons_succ])
            refine QK.take HK ?_ (by rfl) ?_ ?_
            rotate_left
            · (intro w hw; (try have hcs := hcells w hw); (try go_split_ands); go_simp <;> with_reducible rfl)
            (try simp only [Act.put, List.setIfInBounds_toArray, List.set_cons_zero, List.set_cons_succ])
            refine QK.take HK ?_ (by rfl) ?_ ?_
            rotate_left
            · (intro w hw; (try have hcs := hcells w hw); (try go_split_ands); go_simp <;> with_reducible rfl)
            (try simp only [Act.put, List.setIfInBounds_toArray, List.set_cons_zero, List.set_cons_succ])
            refine QK.nil HK ?_
            clear HK K
            intro wq hq
            have hgq := hgr _ hq
            have qk2 := cellk k2 hgq
            have qk3 := cellk k3 hgq
            obtain ⟨z, s, hzs, CF⟩ := first_ex (HS.out.1.gr hgq) HS.out.2.1 HS.out.2.2.1 (hrise.sublist (List.drop_sublist _ _))
            have CR := first_any (.slice none 0 0) (l'.drop (0)) z s wq (HR.out.gr hgq) hzs
            have CA := awake_any wq
            have hk4 := And.intro (cellk k4.1 hgq) (frzk k4.1 k4.2 hgq)
            have HW : Hid (Below w.heap.size w wq ∧ wq.heap[D]? = some (.deferred (some []))) := ⟨HS.out.2.2.2.2.1.trans (hgq.below.mono HS.out.2.2.2.2.1.size), (hgq.below.block D (Array.getElem?_eq_some_iff.1 HS.out.2.2.2.2.2.1).1).trans HS.out.2.2.2.2.2.1⟩
            clear hzs k1 k2 k3 k4 CL CC hq hgr hcells hcl hin
            gi_wp2
            refine ⟨trivial, ?_⟩
            refine (callsIn_wide.2 CF).mono ?_
            rintro e w5 ⟨rfl, e5⟩
            obtain rfl := e5.symm
            gi_wp2
            refine ⟨trivial, ?_⟩
            refine (callsIn_wide.2 CR).mono ?_
            rintro e w5 ⟨rfl, e5⟩
            obtain rfl := e5.symm
            gi_wp2
            refine ⟨trivial, ?_⟩
            refine (callsIn_wide.2 CA).mono ?_
            rintro e w6 ⟨rfl, hB6⟩
            have q1 := (hB6.cell (p := ⟨w.heap.size + 1, 0, none⟩) (block_lt hk4.1)).trans hk4.1
            have q2 := (hB6.frozen (p := ⟨w.heap.size + 1, 0, none⟩) (block_lt hk4.1)).trans hk4.2
            have q4 := (hB6.block D (Array.getElem?_eq_some_iff.1 HW.out.2).1).trans HW.out.2
            have q3 := HW.out.1.trans (hB6.mono HW.out.1.size)
            clear hB6 hk4 qk2 qk3
            gi_wp2
            have hK' := (KeepsOthers.setCell w6 ⟨w.heap.size + 1, 0, none⟩ (.bool true)).same D _ q4 rfl
            refine ⟨by simp, .inl ⟨_, _, rfl, run_takeDeferred hK', ?_⟩⟩
            have hc5 := cell_kept (cell_s (v := .bool true) q1) (grownBy_putObj' _ D (.deferred none)) (fun r e => by cases e; exact ⟨_, hK', rfl⟩)
            refine ⟨.bool true, ?_, rfl, (q3.setCell (p := ⟨w.heap.size + 1, 0, none⟩) (by simp) _).trans (belowK_b (w := w) (Nat.le_refl _) _ D _ _ (by have := HS.out.2.2.2.2.2.2; omega) hK' rfl rfl)⟩
            simp [results, Try.f4, go_sem, hc5]

          · have hbe : ((0 : Int) != stop) = true := by simpa using hst
            have HR0 : Rd W (.slice none 0 0) (l'.drop (0)) := (by rw [hnil]; exact hnil ▸ hI.rd)
            have HR : Hid (Rd W (.slice none 0 0) (l'.drop (0))) := HR0
            have HS : Hid (Hs W (w.heap.size + 2) t 9 vE LE ∧ Hp id LE ∧ LE.Perm (l'.drop (0)) ∧ LE.length ≤ 150 ∧ Below w.heap.size w W ∧ W.heap[D]? = some (.deferred (some [])) ∧ w.heap.size + 1 < D) := ⟨hsE, hkE, pLE, by omega, hI.below, hK, by omega⟩
            have k1 := hI.box.1
            have k2 := hI.box.2.2.1
            have k3 := hI.cnt
            have k4 := hI.box.2.1
            have CL : ∀ w', IsGr W w' → Calls Try.prog 13 #[.pointer (some ⟨t, 0, none⟩)] w' fun e w'' => e = .returned (.int .i64 0) ∧ IsGr w' w'' := fun w' hg => (Len_any w' (hsE.gr hg)).mono fun e w'' ⟨h1, h2⟩ => ⟨by rw [h1, hLE]; rfl, h2 ▸ IsGr.refl _⟩
            have CC : ∀ w', IsGr W w' → Calls Try.prog 11 #[.pointer (some ⟨t, 0, none⟩)] w' fun e w'' => e = .returned (.bool true) ∧ IsGr w' w'' := fun w' hg => Check_any cmp_ordr _ t vE LE w' (hsE.gr hg) hkE (by omega)
            clear hI hsE hkE pLE hK hR1 hO1 hkeep hnext hvo HR0
            gi_upto_region 19 with fail
            refine wpIn_wide.2 ?_
            obtain ⟨C, hin, hcl, hcells, hgr⟩ : ∃ C : World → Prop, (∀ w', IsGr W w' → C w') ∧ (∀ u u', C u → IsGr u u' → C u') ∧ (∀ w', C w' → (w'.cell? ⟨w.heap.size, 0, none⟩ = some (.int .i64 stop)) ∧ (w'.cell? ⟨w1.heap.size, 0, none⟩ = some (.slice none 0 0)) ∧ (w'.cell? ⟨W1.heap.size, 0, none⟩ = some (.int .i64 0))) ∧ (∀ w', C w' → IsGr W w') := ⟨fun w' => IsGr W w', fun _ h => h, fun _ _ h k => h.trans k, fun w' hg => ⟨cellk k1 hg, cellk k2 hg, cellk k3 hg⟩, fun _ h => h⟩
            refine wp_region_quietV C (by kernel_rfl) (by kernel_rfl) (hin _ (by with_reducible repeat (first | exact IsGr.refl _ | refine IsGr.gr ?_ _ _ | refine IsGr.alloc ?_ _ | refine IsGr.drew ?_ | refine IsGr.drewN ?_ _))) (fun K HK => ?_)
            refine QK.take HK ?_ (by rfl) ?_ ?_
            rotate_left
            · (intro w hw; (try have hcs := hcells w hw); (try go_split_ands); go_simp <;> with_reducible rfl)
            (try simp only [Act.put, List.setIfInBounds_toArray, List.set_cons_zero, List.set_cons_succ])
            refine QK.take HK ?_ (by rfl) ?_ ?_
            rotate_left
            · (intro w hw; (try have hcs := hcells w hw); (try go_split_ands); go_simp <;> with_reducible rfl)
            (try simp only [Act.put, List.setIfInBounds_toArray, List.set_cons_zero, List.set_cons_succ])
            refine QK.take HK ?_ (by rfl) ?_ ?_
            rotate_left
            · (intro w hw; (try have hcs := hcells w hw); (try go_split_ands); go_simp <;> with_reducible rfl)
            (try simp only [Act.put, List.setIfInBounds_toArray, List.set_cons_zero, List.set_cons_succ])
            refine QK.take HK ?_ (by rfl) ?_ ?_
            rotate_left
            · (intro w hw; (try have hcs := hcells w hw); (try go_split_ands); go_simp <;> with_reducible rfl)
            (try simp only [Act.put, List.setIfInBounds_toArray, List.set_cons_zero, List.set_cons_succ])
            refine QK.take HK ?_ (by rfl) ?_ ?_
            rotate_left
            · (intro w hw; (try have hcs := hcells w hw); (try go_split_ands); go_simp <;> with_reducible rfl)
            (try simp only [Act.put, List.setIfInBounds_toArray, List.set_cons_zero, List.set_cons_succ])
            refine QK.take HK ?_ (by rfl) ?_ ?_
            rotate_left
            · (intro w hw; (try have hcs := hcells w hw); (try go_split_ands); go_simp <;> with_reducible rfl)
            (try simp only [Act.put, List.setIfInBounds_toArray, List.set_cons_zero, List.set_cons_succ])
            refine QK.take HK ?_ (by rfl) ?_ ?_
            rotate_left
            · (intro w hw; (try have hcs := hcells w hw); (try go_split_ands); go_simp <;> with_reducible rfl)
            (try simp only [Act.put, List.setIfInBounds_toArray, List.set_cons_zero, List.set_cons_succ])
            refine QK.take HK ?_ (by rfl) ?_ ?_
            rotate_left
            · (intro w hw; (try have hcs := hcells w hw); (try go_split_ands); go_simp <;> with_reducible rfl)
            (try simp only [Act.put, List.setIfInBounds_toArray, List.set_cons_zero, List.set_cons_succ])
            refine QK.take HK ?_ (by rfl) ?_ ?_
            rotate_left
            · (intro w hw; (try have hcs := hcells w hw); (try go_split_ands); go_simp <;> with_reducible rfl)
            (try simp only [Act.put, List.setIfInBounds_toArray, List.set_cons_zero, List.set_cons_succ])
            refine QK.take HK ?_ (by rfl) ?_ ?_
            rotate_left
            · (intro w hw; (try have hcs := hcells w hw); (try go_split_ands); go_simp <;> with_reducible rfl)
            (try simp only [Act.put, List.setIfInBounds_toArray, List.set_cons_zero, List.set_cons_succ])
            refine QK.take HK ?_ (by rfl) ?_ ?_
            rotate_left
            · (intro w hw; (try have hcs := hcells w hw); (try go_split_ands); go_simp <;> with_reducible rfl)
            (try simp only [Act.put, List.setIfInBounds_toArray, List.set_cons_zero, List.set_cons_succ])
            refine QK.callC HK 13 #[.pointer (some ⟨t, 0, none⟩)] (.int .i64 0) hcl (by rfl) (fun w => by go_simp) (fun w hw => CL w (hgr w hw)) ?_
            (try simp only [Act.put, List.setIfInBounds_toArray, List.set_cons_zero, List.set_cons_succ])
            refine QK.take HK ?_ (by rfl) ?_ ?_
            rotate_left
            · (intro w hw; (try have hcs := hcells w hw); (try go_split_ands); go_simp <;> with_reducible rfl)
            (try simp only [Act.put, List.setIfInBounds_toArray, List.set_cons_zero, List.set_cons_succ])
            refine QK.take HK ?_ (by rfl) ?_ ?_
            rotate_left
            · (intro w hw; (try have hcs := hcells w hw); (try go_split_ands); go_simp <;> with_reducible rfl)
            (try simp only [Act.put, List.setIfInBounds_toArray, List.set_cons_zero, List.set_cons_succ])
            refine QK.take HK ?_ (by rfl) ?_ ?_
            rotate_left
            · (intro w hw; (try have hcs := hcells w hw); (try go_split_ands); go_simp <;> with_reducible rfl)
            (try simp only [Act.put, List.setIfInBounds_toArray, List.set_cons_zero, List.set_cons_succ])
            refine QK.take HK ?_ (by rfl) ?_ ?_
            rotate_left
            · (intro w hw; (try have hcs := hcells w hw); (try go_split_ands); go_simp <;> with_reducible rfl)
            (try simp only [Act.put, List.setIfInBounds_toArray, List.set_cons_zero, List.set_cons_succ])
            refine QK.take HK ?_ (by rfl) ?_ ?_
            rotate_left
            · (intro w hw; (try have hcs := hcells w hw); (try go_split_ands); go_simp <;> with_reducible rfl)
            (try simp only [Act.put, List.setIfInBounds_toArray, List.set_cons_zero, List.set_cons_succ])
            refine QK.take HK ?_ (by rfl) ?_ ?_
            rotate_left
            · (intro w hw; (try have hcs := hcells w hw); (try go_split_ands); go_simp <;> with_reducible rfl)
            (try simp only [Act.put, List.setIfInBounds_toArray, List.set_cons_zero, List.set_cons_succ])
            refine QK.take HK ?_ (by rfl) ?_ ?_
            rotate_left
            · (intro w hw; (try have hcs := hcells w hw); (try go_split_ands); go_simp <;> with_reducible rfl)
            (try simp only [Act.put, List.setIfInBounds_toArray, List.set_cons_zero, List.set_cons_succ])
            refine QK.take HK ?_ (by rfl) ?_ ?_
            rotate_left
            · (intro w hw; (try have hcs := hcells w hw); (try go_split_ands); go_simp <;> with_reducible rfl)
            (try simp only [Act.put, List.setIfInBounds_toArray, List.set_cons_zero, List.set_cons_succ])
            refine QK.callC HK 11 #[.pointer (some ⟨t, 0, none⟩)] (.bool true) hcl (by rfl) (fun w => by go_simp) (fun w hw => CC w (hgr w hw)) ?_
            (try simp only [Act.put, List.setIfInBounds_toArray, List.set_cons_zero, List.set_cons_succ])
            refine QK.take HK ?_ (by rfl) ?_ ?_
            rotate_left
            · (intro w hw; (try have hcs := hcells w hw); (try go_split_ands); go_simp <;> with_reducible rfl)
            (try simp only [Act.put, List.setIfInBounds_toArray, List.set_cons_zero, List.set_cons_succ])
            refine QK.take HK ?_ (by rfl) ?_ ?_
            rotate_left
            · (intro w hw; (try have hcs := hcells w hw); (try go_split_ands); go_simp <;> with_reducible rfl)
            (try simp only [Act.put, List.setIfInBounds_toArray, List.set_cons_zero, List.set_cons_succ])
            refine QK.nil HK ?_
            clear HK K
            intro wq hq
            have hgq := hgr _ hq
            have qk2 := cellk k2 hgq
            have qk3 := cellk k3 hgq
            obtain ⟨z, s, hzs, CF⟩ := first_ex (HS.out.1.gr hgq) HS.out.2.1 HS.out.2.2.1 (hrise.sublist (List.drop_sublist _ _))
            have CR := first_any (.slice none 0 0) (l'.drop (0)) z s wq (HR.out.gr hgq) hzs
            have CA := awake_any wq
            have hk4 := And.intro (cellk k4.1 hgq) (frzk k4.1 k4.2 hgq)
            have HW : Hid (Below w.heap.size w wq ∧ wq.heap[D]? = some (.deferred (some []))) := ⟨HS.out.2.2.2.2.1.trans (hgq.below.mono HS.out.2.2.2.2.1.size), (hgq.below.block D (Array.getElem?_eq_some_iff.1 HS.out.2.2.2.2.2.1).1).trans HS.out.2.2.2.2.2.1⟩
            clear hzs k1 k2 k3 k4 CL CC hq hgr hcells hcl hin
            gi_wp2
            refine ⟨trivial, ?_⟩
            refine (callsIn_wide.2 CF).mono ?_
            rintro e w5 ⟨rfl, e5⟩
            obtain rfl := e5.symm
            gi_wp2
            refine ⟨trivial, ?_⟩
            refine (callsIn_wide.2 CR).mono ?_
            rintro e w5 ⟨rfl, e5⟩
            obtain rfl := e5.symm
            gi_wp2
            refine ⟨trivial, ?_⟩
            refine (callsIn_wide.2 CA).mono ?_
            rintro e w6 ⟨rfl, hB6⟩
            have q1 := (hB6.cell (p := ⟨w.heap.size + 1, 0, none⟩) (block_lt hk4.1)).trans hk4.1
            have q2 := (hB6.frozen (p := ⟨w.heap.size + 1, 0, none⟩) (block_lt hk4.1)).trans hk4.2
            have q4 := (hB6.block D (Array.getElem?_eq_some_iff.1 HW.out.2).1).trans HW.out.2
            have q3 := HW.out.1.trans (hB6.mono HW.out.1.size)
            clear hB6 hk4 qk2 qk3
            gi_wp2
            have hK' := (KeepsOthers.setCell w6 ⟨w.heap.size + 1, 0, none⟩ (.bool true)).same D _ q4 rfl
            refine ⟨by simp, .inl ⟨_, _, rfl, run_takeDeferred hK', ?_⟩⟩
            have hc5 := cell_kept (cell_s (v := .bool true) q1) (grownBy_putObj' _ D (.deferred none)) (fun r e => by cases e; exact ⟨_, hK', rfl⟩)
            refine ⟨.bool true, ?_, rfl, (q3.setCell (p := ⟨w.heap.size + 1, 0, none⟩) (by simp) _).trans (belowK_b (w := w) (Nat.le_refl _) _ D _ _ (by have := HS.out.2.2.2.2.2.2; omega) hK' rfl rfl)⟩
            simp [results, Try.f4, go_sem, hc5]

        · obtain ⟨g, o, rfl⟩ : ∃ g o, sa = some ⟨g, o, none⟩ := by
            obtain ⟨a', _, ev, _, hIn⟩ := hI.rd
            obtain ⟨g, o, ea, _⟩ := hIn.at (k := 0) (by omega)
            injection ev with e1
            exact ⟨g, o, e1.trans ea⟩
          have hmc : m ≤ sc := by obtain ⟨_, _, ev, q, _⟩ := hI.rd; injection ev with e1 e2 e3; omega
          have hm0' : (0 : Int) < m := by omega
          by_cases hc1 : sc = m
          · subst hc1
            by_cases hst : (sc : Int) = stop
            · subst hst
              have HR0 : Rd W (.slice (some ⟨g, o, none⟩) 0 0) (l'.drop (sc)) := (by have := rd_drop (o' := o) hI.rd (Nat.le_refl _) (Or.inl ⟨rfl, rfl⟩); simpa using this)
              have HR : Hid (Rd W (.slice (some ⟨g, o, none⟩) 0 0) (l'.drop (sc))) := HR0
              have HS : Hid (Hs W (w.heap.size + 2) t 9 vE LE ∧ Hp id LE ∧ LE.Perm (l'.drop (sc)) ∧ LE.length ≤ 150 ∧ Below w.heap.size w W ∧ W.heap[D]? = some (.deferred (some [])) ∧ w.heap.size + 1 < D) := ⟨hsE, hkE, pLE, by omega, hI.below, hK, by omega⟩
              have k1 := hI.box.1
              have k2 := hI.box.2.2.1
              have k3 := hI.cnt
              have k4 := hI.box.2.1
              have CL : ∀ w', IsGr W w' → Calls Try.prog 13 #[.pointer (some ⟨t, 0, none⟩)] w' fun e w'' => e = .returned (.int .i64 0) ∧ IsGr w' w'' := fun w' hg => (Len_any w' (hsE.gr hg)).mono fun e w'' ⟨h1, h2⟩ => ⟨by rw [h1, hLE]; rfl, h2 ▸ IsGr.refl _⟩
              have CC : ∀ w', IsGr W w' → Calls Try.prog 11 #[.pointer (some ⟨t, 0, none⟩)] w' fun e w'' => e = .returned (.bool true) ∧ IsGr w' w'' := fun w' hg => Check_any cmp_ordr _ t vE LE w' (hsE.gr hg) hkE (by omega)
              clear hI hsE hkE pLE hK hR1 hO1 hkeep hnext hvo HR0
              gi_upto_region 19 with fail
              refine wpIn_wide.2 ?_
              obtain ⟨C, hin, hcl, hcells, hgr⟩ : ∃ C : World → Prop, (∀ w', IsGr W w' → C w') ∧ (∀ u u', C u → IsGr u u' → C u') ∧ (∀ w', C w' → (w'.cell? ⟨w.heap.size, 0, none⟩ = some (.int .i64 sc)) ∧ (w'.cell? ⟨w1.heap.size, 0, none⟩ = some (.slice (some ⟨g, o, none⟩) sc sc)) ∧ (w'.cell? ⟨W1.heap.size, 0, none⟩ = some (.int .i64 sc))) ∧ (∀ w', C w' → IsGr W w') := ⟨fun w' => IsGr W w', fun _ h => h, fun _ _ h k => h.trans k, fun w' hg => ⟨cellk k1 hg, cellk k2 hg, cellk k3 hg⟩, fun _ h => h⟩
              refine wp_region_quietV C (by kernel_rfl) (by kernel_rfl) (hin _ (by with_reducible repeat (first | exact IsGr.refl _ | refine IsGr.gr ?_ _ _ | refine IsGr.alloc ?_ _ | refine IsGr.drew ?_ | refine IsGr.drewN ?_ _))) (fun K HK => ?_)
              refine QK.take HK ?_ (by rfl) ?_ ?_
              rotate_left
              · (intro w hw; (try have hcs := hcells w hw); (try go_split_ands); go_simp <;> with_reducible rfl)
              (try simp only [Act.put, List.setIfInBounds_toArray, List.set_cons_zero, List.set_cons_succ])
              refine QK.take HK ?_ (by rfl) ?_ ?_
              rotate_left
              · (intro w hw; (try have hcs := hcells w hw); (try go_split_ands); go_simp <;> with_reducible rfl)
              (try simp only [Act.put, List.setIfInBounds_toArray, List.set_cons_zero, List.set_cons_succ])
              refine QK.take HK ?_ (by rfl) ?_ ?_
              rotate_left
              · (intro w hw; (try have hcs := hcells w hw); (try go_split_ands); go_simp <;> with_reducible rfl)
              (try simp only [Act.put, List.setIfInBounds_toArray, List.set_cons_zero, List.set_cons_succ])
              refine QK.take HK ?_ (by rfl) ?_ ?_
              rotate_left
              · (intro w hw; (try have hcs := hcells w hw); (try go_split_ands); go_simp <;> with_reducible rfl)
              (try simp only [Act.put, List.setIfInBounds_toArray, List.set_cons_zero, List.set_cons_succ])
              refine QK.skip HK (by rfl) ?_
              (try simp only [Act.put, List.setIfInBounds_toArray, List.set_cons_zero, List.set_cons_succ])
              refine QK.skip HK (by rfl) ?_
              (try simp only [Act.put, List.setIfInBounds_toArray, List.set_cons_zero, List.set_cons_succ])
              refine QK.skip HK (by rfl) ?_
              (try simp only [Act.put, List.setIfInBounds_toArray, List.set_cons_zero, List.set_cons_succ])
              refine QK.skip HK (by rfl) ?_
              (try simp only [Act.put, List.setIfInBounds_toArray, List.set_cons_zero, List.set_cons_succ])
              refine QK.take HK ?_ (by rfl) ?_ ?_
              rotate_left
              · (intro w hw; (try have hcs := hcells w hw); (try go_split_ands); go_simp <;> with_reducible rfl)
              (try simp only [Act.put, List.setIfInBounds_toArray, List.set_cons_zero, List.set_cons_succ])
              refine QK.take HK ?_ (by rfl) ?_ ?_
              rotate_left
              · (intro w hw; (try have hcs := hcells w hw); (try go_split_ands); go_simp <;> with_reducible rfl)
              (try simp only [Act.put, List.setIfInBounds_toArray, List.set_cons_zero, List.set_cons_succ])
              refine QK.take HK ?_ (by rfl) ?_ ?_
              rotate_left
              · (intro w hw; (try have hcs := hcells w hw); (try go_split_ands); go_simp <;> with_reducible rfl)
              (try simp only [Act.put, List.setIfInBounds_toArray, List.set_cons_zero, List.set_cons_succ])
              refine QK.callC HK 13 #[.pointer (some ⟨t, 0, none⟩)] (.int .i64 0) hcl (by rfl) (fun w => by go_simp) (fun w hw => CL w (hgr w hw)) ?_
              (try simp only [Act.put, List.setIfInBounds_toArray, List.set_cons_zero, List.set_cons_succ])
              refine QK.take HK ?_ (by rfl) ?_ ?_
              rotate_left
              · (intro w hw; (try have hcs := hcells w hw); (try go_split_ands); go_simp <;> with_reducible rfl)
              (try simp only [Act.put, List.setIfInBounds_toArray, List.set_cons_zero, List.set_cons_succ])
              refine QK.take HK ?_ (by rfl) ?_ ?_
              rotate_left
              · (intro w hw; (try have hcs := hcells w hw); (try go_split_ands); go_simp <;> with_reducible rfl)
              (try simp only [Act.put, List.setIfInBounds_toArray, List.set_cons_zero, List.set_cons_succ])
              refine QK.take HK ?_ (by rfl) ?_ ?_
              rotate_left
              · (intro w hw; (try have hcs := hcells w hw); (try go_split_ands); go_simp <;> with_reducible rfl)
              (try simp only [Act.put, List.setIfInBounds_toArray, List.set_cons_zero, List.set_cons_succ])
              refine QK.take HK ?_ (by rfl) ?_ ?_
              rotate_left
              · (intro w hw; (try have hcs := hcells w hw); (try go_split_ands); go_simp <;> with_reducible rfl)
              (try simp only [Act.put, List.setIfInBounds_toArray, List.set_cons_zero, List.set_cons_succ])
              refine QK.take HK ?_ (by rfl) ?_ ?_
              rotate_left
              · (intro w hw; (try have hcs := hcells w hw); (try go_split_ands); go_simp <;> with_reducible rfl)
              (try simp only [Act.put, List.setIfInBounds_toArray, List.set_cons_zero, List.set_cons_succ])
              refine QK.take HK ?_ (by rfl) ?_ ?_
              rotate_left
              · (intro w hw; (try have hcs := hcells w hw); (try go_split_ands); go_simp <;> with_reducible rfl)
              (try simp only [Act.put, List.setIfInBounds_toArray, List.set_cons_zero, List.set_cons_succ])
              refine QK.take HK ?_ (by rfl) ?_ ?_
              rotate_left
              · (intro w hw; (try have hcs := hcells w hw); (try go_split_ands); go_simp <;> with_reducible rfl)
              (try simp only [Act.put, List.setIfInBounds_toArray, List.set_cons_zero, List.set_cons_succ])
              refine QK.take HK ?_ (by rfl) ?_ ?_
              rotate_left
              · (intro w hw; (try have hcs := hcells w hw); (try go_split_ands); go_simp <;> with_reducible rfl)
              (try simp only [Act.put, List.setIfInBounds_toArray, List.set_cons_zero, List.set_cons_succ])
              refine QK.callC HK 11 #[.pointer (some ⟨t, 0, none⟩)] (.bool true) hcl (by rfl) (fun w => by go_simp) (fun w hw => CC w (hgr w hw)) ?_
              (try simp only [Act.put, List.setIfInBounds_toArray, List.set_cons_zero, List.set_cons_succ])
              refine QK.take HK ?_ (by rfl) ?_ ?_
              rotate_left
              · (intro w hw; (try have hcs := hcells w hw); (try go_split_ands); go_simp <;> with_reducible rfl)
              (try simp only [Act.put, List.setIfInBounds_toArray, List.set_cons_zero, List.set_cons_succ])
              refine QK.take HK ?_ (by rfl) ?_ ?_
              rotate_left
              · (intro w hw; (try have hcs := hcells w hw); (try go_split_ands); go_simp <;> with_reducible rfl)
              (try simp only [Act.put, List.setIfInBounds_toArray, List.set_cons_zero, List.set_cons_succ])
              refine QK.nil HK ?_
              clear HK K
              intro wq hq
              have hgq := hgr _ hq
              have qk2 := cellk k2 hgq
              have qk3 := cellk k3 hgq
              obtain ⟨z, s, hzs, CF⟩ := first_ex (HS.out.1.gr hgq) HS.out.2.1 HS.out.2.2.1 (hrise.sublist (List.drop_sublist _ _))
              have CR := first_any (.slice (some ⟨g, o, none⟩) 0 0) (l'.drop (sc)) z s wq (HR.out.gr hgq) hzs
              have CA := awake_any wq
              have hk4 := And.intro (cellk k4.1 hgq) (frzk k4.1 k4.2 hgq)
              have HW : Hid (Below w.heap.size w wq ∧ wq.heap[D]? = some (.deferred (some []))) := ⟨HS.out.2.2.2.2.1.trans (hgq.below.mono HS.out.2.2.2.2.1.size), (hgq.below.block D (Array.getElem?_eq_some_iff.1 HS.out.2.2.2.2.2.1).1).trans HS.out.2.2.2.2.2.1⟩
              clear hzs k1 k2 k3 k4 CL CC hq hgr hcells hcl hin
              gi_wp2
              refine ⟨trivial, ?_⟩
              refine (callsIn_wide.2 CF).mono ?_
              rintro e w5 ⟨rfl, e5⟩
              obtain rfl := e5.symm
              gi_wp2
              refine ⟨trivial, ?_⟩
              refine (callsIn_wide.2 CR).mono ?_
              rintro e w5 ⟨rfl, e5⟩
              obtain rfl := e5.symm
              gi_wp2
              refine ⟨trivial, ?_⟩
              refine (callsIn_wide.2 CA).mono ?_
              rintro e w6 ⟨rfl, hB6⟩
              have q1 := (hB6.cell (p := ⟨w.heap.size + 1, 0, none⟩) (block_lt hk4.1)).trans hk4.1
              have q2 := (hB6.frozen (p := ⟨w.heap.size + 1, 0, none⟩) (block_lt hk4.1)).trans hk4.2
              have q4 := (hB6.block D (Array.getElem?_eq_some_iff.1 HW.out.2).1).trans HW.out.2
              have q3 := HW.out.1.trans (hB6.mono HW.out.1.size)
              clear hB6 hk4 qk2 qk3
              gi_wp2
              have hK' := (KeepsOthers.setCell w6 ⟨w.heap.size + 1, 0, none⟩ (.bool true)).same D _ q4 rfl
              refine ⟨by simp, .inl ⟨_, _, rfl, run_takeDeferred hK', ?_⟩⟩
              have hc5 := cell_kept (cell_s (v := .bool true) q1) (grownBy_putObj' _ D (.deferred none)) (fun r e => by cases e; exact ⟨_, hK', rfl⟩)
              refine ⟨.bool true, ?_, rfl, (q3.setCell (p := ⟨w.heap.size + 1, 0, none⟩) (by simp) _).trans (belowK_b (w := w) (Nat.le_refl _) _ D _ _ (by have := HS.out.2.2.2.2.2.2; omega) hK' rfl rfl)⟩
              simp [results, Try.f4, go_sem, hc5]

            · have hbe : ((sc : Int) != stop) = true := by simpa using hst
              have HR0 : Rd W (.slice (some ⟨g, o, none⟩) 0 0) (l'.drop (sc)) := (by have := rd_drop (o' := o) hI.rd (Nat.le_refl _) (Or.inl ⟨rfl, rfl⟩); simpa using this)
              have HR : Hid (Rd W (.slice (some ⟨g, o, none⟩) 0 0) (l'.drop (sc))) := HR0
              have HS : Hid (Hs W (w.heap.size + 2) t 9 vE LE ∧ Hp id LE ∧ LE.Perm (l'.drop (sc)) ∧ LE.length ≤ 150 ∧ Below w.heap.size w W ∧ W.heap[D]? = some (.deferred (some [])) ∧ w.heap.size + 1 < D) := ⟨hsE, hkE, pLE, by omega, hI.below, hK, by omega⟩
              have k1 := hI.box.1
              have k2 := hI.box.2.2.1
              have k3 := hI.cnt
              have k4 := hI.box.2.1
              have CL : ∀ w', IsGr W w' → Calls Try.prog 13 #[.pointer (some ⟨t, 0, none⟩)] w' fun e w'' => e = .returned (.int .i64 0) ∧ IsGr w' w'' := fun w' hg => (Len_any w' (hsE.gr hg)).mono fun e w'' ⟨h1, h2⟩ => ⟨by rw [h1, hLE]; rfl, h2 ▸ IsGr.refl _⟩
              have CC : ∀ w', IsGr W w' → Calls Try.prog 11 #[.pointer (some ⟨t, 0, none⟩)] w' fun e w'' => e = .returned (.bool true) ∧ IsGr w' w'' := fun w' hg => Check_any cmp_ordr _ t vE LE w' (hsE.gr hg) hkE (by omega)
              clear hI hsE hkE pLE hK hR1 hO1 hkeep hnext hvo HR0
              gi_upto_region 19 with fail
              refine wpIn_wide.2 ?_
              obtain ⟨C, hin, hcl, hcells, hgr⟩ : ∃ C : World → Prop, (∀ w', IsGr W w' → C w') ∧ (∀ u u', C u → IsGr u u' → C u') ∧ (∀ w', C w' → (w'.cell? ⟨w.heap.size, 0, none⟩ = some (.int .i64 stop)) ∧ (w'.cell? ⟨w1.heap.size, 0, none⟩ = some (.slice (some ⟨g, o, none⟩) sc sc)) ∧ (w'.cell? ⟨W1.heap.size, 0, none⟩ = some (.int .i64 sc))) ∧ (∀ w', C w' → IsGr W w') := ⟨fun w' => IsGr W w', fun _ h => h, fun _ _ h k => h.trans k, fun w' hg => ⟨cellk k1 hg, cellk k2 hg, cellk k3 hg⟩, fun _ h => h⟩
              refine wp_region_quietV C (by kernel_rfl) (by kernel_rfl) (hin _ (by with_reducible repeat (first | exact IsGr.refl _ | refine IsGr.gr ?_ _ _ | refine IsGr.alloc ?_ _ | refine IsGr.drew ?_ | refine IsGr.drewN ?_ _))) (fun K HK => ?_)
              refine QK.take HK ?_ (by rfl) ?_ ?_
              rotate_left
              · (intro w hw; (try have hcs := hcells w hw); (try go_split_ands); go_simp <;> with_reducible rfl)
              (try simp only [Act.put, List.setIfInBounds_toArray, List.set_cons_zero, List.set_cons_succ])
              refine QK.take HK ?_ (by rfl) ?_ ?_
              rotate_left
              · (intro w hw; (try have hcs := hcells w hw); (try go_split_ands); go_simp <;> with_reducible rfl)
              (try simp only [Act.put, List.setIfInBounds_toArray, List.set_cons_zero, List.set_cons_succ])
              refine QK.take HK ?_ (by rfl) ?_ ?_
              rotate_left
              · (intro w hw; (try have hcs := hcells w hw); (try go_split_ands); go_simp <;> with_reducible rfl)
              (try simp only [Act.put, List.setIfInBounds_toArray, List.set_cons_zero, List.set_cons_succ])
              refine QK.take HK ?_ (by rfl) ?_ ?_
              rotate_left
              · (intro w hw; (try have hcs := hcells w hw); (try go_split_ands); go_simp <;> with_reducible rfl)
              (try simp only [Act.put, List.setIfInBounds_toArray, List.set_cons_zero, List.set_cons_succ])
              refine QK.take HK ?_ (by rfl) ?_ ?_
              rotate_left
              · (intro w hw; (try have hcs := hcells w hw); (try go_split_ands); go_simp <;> with_reducible rfl)
              (try simp only [Act.put, List.setIfInBounds_toArray, List.set_cons_zero, List.set_cons_succ])
              refine QK.take HK ?_ (by rfl) ?_ ?_
              rotate_left
              · (intro w hw; (try have hcs := hcells w hw); (try go_split_ands); go_simp <;> with_reducible rfl)
              (try simp only [Act.put, List.setIfInBounds_toArray, List.set_cons_zero, List.set_cons_succ])
              refine QK.take HK ?_ (by rfl) ?_ ?_
              rotate_left
              · (intro w hw; (try have hcs := hcells w hw); (try go_split_ands); go_simp <;> with_reducible rfl)
              (try simp only [Act.put, List.setIfInBounds_toArray, List.set_cons_zero, List.set_cons_succ])
              refine QK.take HK ?_ (by rfl) ?_ ?_
              rotate_left
              · (intro w hw; (try have hcs := hcells w hw); (try go_split_ands); go_simp <;> with_reducible rfl)
              (try simp only [Act.put, List.setIfInBounds_toArray, List.set_cons_zero, List.set_cons_succ])
              refine QK.take HK ?_ (by rfl) ?_ ?_
              rotate_left
              · (intro w hw; (try have hcs := hcells w hw); (try go_split_ands); go_simp <;> with_reducible rfl)
              (try simp only [Act.put, List.setIfInBounds_toArray, List.set_cons_zero, List.set_cons_succ])
              refine QK.take HK ?_ (by rfl) ?_ ?_
              rotate_left
              · (intro w hw; (try have hcs := hcells w hw); (try go_split_ands); go_simp <;> with_reducible rfl)
              (try simp only [Act.put, List.setIfInBounds_toArray, List.set_cons_zero, List.set_cons_succ])
              refine QK.take HK ?_ (by rfl) ?_ ?_
              rotate_left
              · (intro w hw; (try have hcs := hcells w hw); (try go_split_ands); go_simp <;> with_reducible rfl)
              (try simp only [Act.put, List.setIfInBounds_toArray, List.set_cons_zero, List.set_cons_succ])
              refine QK.callC HK 13 #[.pointer (some ⟨t, 0, none⟩)] (.int .i64 0) hcl (by rfl) (fun w => by go_simp) (fun w hw => CL w (hgr w hw)) ?_
              (try simp only [Act.put, List.setIfInBounds_toArray, List.set_cons_zero, List.set_cons_succ])
              refine QK.take HK ?_ (by rfl) ?_ ?_
              rotate_left
              · (intro w hw; (try have hcs := hcells w hw); (try go_split_ands); go_simp <;> with_reducible rfl)
              (try simp only [Act.put, List.setIfInBounds_toArray, List.set_cons_zero, List.set_cons_succ])
              refine QK.take HK ?_ (by rfl) ?_ ?_
              rotate_left
              · (intro w hw; (try have hcs := hcells w hw); (try go_split_ands); go_simp <;> with_reducible rfl)
              (try simp only [Act.put, List.setIfInBounds_toArray, List.set_cons_zero, List.set_cons_succ])
              refine QK.take HK ?_ (by rfl) ?_ ?_
              rotate_left
              · (intro w hw; (try have hcs := hcells w hw); (try go_split_ands); go_simp <;> with_reducible rfl)
              (try simp only [Act.put, List.setIfInBounds_toArray, List.set_cons_zero, List.set_cons_succ])
              refine QK.take HK ?_ (by rfl) ?_ ?_
              rotate_left
              · (intro w hw; (try have hcs := hcells w hw); (try go_split_ands); go_simp <;> with_reducible rfl)
              (try simp only [Act.put, List.setIfInBounds_toArray, List.set_cons_zero, List.set_cons_succ])
              refine QK.take HK ?_ (by rfl) ?_ ?_
              rotate_left
              · (intro w hw; (try have hcs := hcells w hw); (try go_split_ands); go_simp <;> with_reducible rfl)
              (try simp only [Act.put, List.setIfInBounds_toArray, List.set_cons_zero, List.set_cons_succ])
              refine QK.take HK ?_ (by rfl) ?_ ?_
              rotate_left
              · (intro w hw; (try have hcs := hcells w hw); (try go_split_ands); go_simp <;> with_reducible rfl)
              (try simp only [Act.put, List.setIfInBounds_toArray, List.set_cons_zero, List.set_cons_succ])
              refine QK.take HK ?_ (by rfl) ?_ ?_
              rotate_left
              · (intro w hw; (try have hcs := hcells w hw); (try go_split_ands); go_simp <;> with_reducible rfl)
              (try simp only [Act.put, List.setIfInBounds_toArray, List.set_cons_zero, List.set_cons_succ])
              refine QK.take HK ?_ (by rfl) ?_ ?_
              rotate_left
              · (intro w hw; (try have hcs := hcells w hw); (try go_split_ands); go_simp <;> with_reducible rfl)
              (try simp only [Act.put, List.setIfInBounds_toArray, List.set_cons_zero, List.set_cons_succ])
              refine QK.callC HK 11 #[.pointer (some ⟨t, 0, none⟩)] (.bool true) hcl (by rfl) (fun w => by go_simp) (fun w hw => CC w (hgr w hw)) ?_
              (try simp only [Act.put, List.setIfInBounds_toArray, List.set_cons_zero, List.set_cons_succ])
              refine QK.take HK ?_ (by rfl) ?_ ?_
              rotate_left
              · (intro w hw; (try have hcs := hcells w hw); (try go_split_ands); go_simp <;> with_reducible rfl)
              (try simp only [Act.put, List.setIfInBounds_toArray, List.set_cons_zero, List.set_cons_succ])
              refine QK.take HK ?_ (by rfl) ?_ ?_
              rotate_left
              · (intro w hw; (try have hcs := hcells w hw); (try go_split_ands); go_simp <;> with_reducible rfl)
              (try simp only [Act.put, List.setIfInBounds_toArray, List.set_cons_zero, List.set_cons_succ])
              refine QK.nil HK ?_
              clear HK K
              intro wq hq
              have hgq := hgr _ hq
              have qk2 := cellk k2 hgq
              have qk3 := cellk k3 hgq
              obtain ⟨z, s, hzs, CF⟩ := first_ex (HS.out.1.gr hgq) HS.out.2.1 HS.out.2.2.1 (hrise.sublist (List.drop_sublist _ _))
              have CR := first_any (.slice (some ⟨g, o, none⟩) 0 0) (l'.drop (sc)) z s wq (HR.out.gr hgq) hzs
              have CA := awake_any wq
              have hk4 := And.intro (cellk k4.1 hgq) (frzk k4.1 k4.2 hgq)
              have HW : Hid (Below w.heap.size w wq ∧ wq.heap[D]? = some (.deferred (some []))) := ⟨HS.out.2.2.2.2.1.trans (hgq.below.mono HS.out.2.2.2.2.1.size), (hgq.below.block D (Array.getElem?_eq_some_iff.1 HS.out.2.2.2.2.2.1).1).trans HS.out.2.2.2.2.2.1⟩
              clear hzs k1 k2 k3 k4 CL CC hq hgr hcells hcl hin
              gi_wp2
              refine ⟨trivial, ?_⟩
              refine (callsIn_wide.2 CF).mono ?_
              rintro e w5 ⟨rfl, e5⟩
              obtain rfl := e5.symm
              gi_wp2
              refine ⟨trivial, ?_⟩
              refine (callsIn_wide.2 CR).mono ?_
              rintro e w5 ⟨rfl, e5⟩
              obtain rfl := e5.symm
              gi_wp2
              refine ⟨trivial, ?_⟩
              refine (callsIn_wide.2 CA).mono ?_
              rintro e w6 ⟨rfl, hB6⟩
              have q1 := (hB6.cell (p := ⟨w.heap.size + 1, 0, none⟩) (block_lt hk4.1)).trans hk4.1
              have q2 := (hB6.frozen (p := ⟨w.heap.size + 1, 0, none⟩) (block_lt hk4.1)).trans hk4.2
              have q4 := (hB6.block D (Array.getElem?_eq_some_iff.1 HW.out.2).1).trans HW.out.2
              have q3 := HW.out.1.trans (hB6.mono HW.out.1.size)
              clear hB6 hk4 qk2 qk3
              gi_wp2
              have hK' := (KeepsOthers.setCell w6 ⟨w.heap.size + 1, 0, none⟩ (.bool true)).same D _ q4 rfl
              refine ⟨by simp, .inl ⟨_, _, rfl, run_takeDeferred hK', ?_⟩⟩
              have hc5 := cell_kept (cell_s (v := .bool true) q1) (grownBy_putObj' _ D (.deferred none)) (fun r e => by cases e; exact ⟨_, hK', rfl⟩)
              refine ⟨.bool true, ?_, rfl, (q3.setCell (p := ⟨w.heap.size + 1, 0, none⟩) (by simp) _).trans (belowK_b (w := w) (Nat.le_refl _) _ D _ _ (by have := HS.out.2.2.2.2.2.2; omega) hK' rfl rfl)⟩
              simp [results, Try.f4, go_sem, hc5]

          · by_cases hst : (m : Int) = stop
            · subst hst
              have HR0 : Rd W (.slice (some ⟨g, o + m, none⟩) 0 (sc - m)) (l'.drop (m)) := (by have := rd_drop (o' := o + m) hI.rd (Nat.le_refl _) (Or.inr rfl); simpa using this)
              have HR : Hid (Rd W (.slice (some ⟨g, o + m, none⟩) 0 (sc - m)) (l'.drop (m))) := HR0
              have HS : Hid (Hs W (w.heap.size + 2) t 9 vE LE ∧ Hp id LE ∧ LE.Perm (l'.drop (m)) ∧ LE.length ≤ 150 ∧ Below w.heap.size w W ∧ W.heap[D]? = some (.deferred (some [])) ∧ w.heap.size + 1 < D) := ⟨hsE, hkE, pLE, by omega, hI.below, hK, by omega⟩
              have k1 := hI.box.1
              have k2 := hI.box.2.2.1
              have k3 := hI.cnt
              have k4 := hI.box.2.1
              have CL : ∀ w', IsGr W w' → Calls Try.prog 13 #[.pointer (some ⟨t, 0, none⟩)] w' fun e w'' => e = .returned (.int .i64 0) ∧ IsGr w' w'' := fun w' hg => (Len_any w' (hsE.gr hg)).mono fun e w'' ⟨h1, h2⟩ => ⟨by rw [h1, hLE]; rfl, h2 ▸ IsGr.refl _⟩
              have CC : ∀ w', IsGr W w' → Calls Try.prog 11 #[.pointer (some ⟨t, 0, none⟩)] w' fun e w'' => e = .returned (.bool true) ∧ IsGr w' w'' := fun w' hg => Check_any cmp_ordr _ t vE LE w' (hsE.gr hg) hkE (by omega)
              clear hI hsE hkE pLE hK hR1 hO1 hkeep hnext hvo HR0
              gi_upto_region 19 with fail
              refine wpIn_wide.2 ?_
              obtain ⟨C, hin, hcl, hcells, hgr⟩ : ∃ C : World → Prop, (∀ w', IsGr W w' → C w') ∧ (∀ u u', C u → IsGr u u' → C u') ∧ (∀ w', C w' → (w'.cell? ⟨w.heap.size, 0, none⟩ = some (.int .i64 m)) ∧ (w'.cell? ⟨w1.heap.size, 0, none⟩ = some (.slice (some ⟨g, o, none⟩) m sc)) ∧ (w'.cell? ⟨W1.heap.size, 0, none⟩ = some (.int .i64 m))) ∧ (∀ w', C w' → IsGr W w') := ⟨fun w' => IsGr W w', fun _ h => h, fun _ _ h k => h.trans k, fun w' hg => ⟨cellk k1 hg, cellk k2 hg, cellk k3 hg⟩, fun _ h => h⟩
              refine wp_region_quietV C (by kernel_rfl) (by kernel_rfl) (hin _ (by with_reducible repeat (first | exact IsGr.refl _ | refine IsGr.gr ?_ _ _ | refine IsGr.alloc ?_ _ | refine IsGr.drew ?_ | refine IsGr.drewN ?_ _))) (fun K HK => ?_)
              refine QK.take HK ?_ (by rfl) ?_ ?_
              rotate_left
              · (intro w hw; (try have hcs := hcells w hw); (try go_split_ands); go_simp <;> with_reducible rfl)
              (try simp only [Act.put, List.setIfInBounds_toArray, List.set_cons_zero, List.set_cons_succ])
              refine QK.take HK ?_ (by rfl) ?_ ?_
              rotate_left
              · (intro w hw; (try have hcs := hcells w hw); (try go_split_ands); go_simp <;> with_reducible rfl)
              (try simp only [Act.put, List.setIfInBounds_toArray, List.set_cons_zero, List.set_cons_succ])
              refine QK.take HK ?_ (by rfl) ?_ ?_
              rotate_left
              · (intro w hw; (try have hcs := hcells w hw); (try go_split_ands); go_simp <;> with_reducible rfl)
              (try simp only [Act.put, List.setIfInBounds_toArray, List.set_cons_zero, List.set_cons_succ])
              refine QK.take HK ?_ (by rfl) ?_ ?_
              rotate_left
              · (intro w hw; (try have hcs := hcells w hw); (try go_split_ands); go_simp <;> with_reducible rfl)
              (try simp only [Act.put, List.setIfInBounds_toArray, List.set_cons_zero, List.set_cons_succ])
              refine QK.skip HK (by rfl) ?_
              (try simp only [Act.put, List.setIfInBounds_toArray, List.set_cons_zero, List.set_cons_succ])
              refine QK.skip HK (by rfl) ?_
              (try simp only [Act.put, List.setIfInBounds_toArray, List.set_cons_zero, List.set_cons_succ])
              refine QK.skip HK (by rfl) ?_
              (try simp only [Act.put, List.setIfInBounds_toArray, List.set_cons_zero, List.set_cons_succ])
              refine QK.skip HK (by rfl) ?_
              (try simp only [Act.put, List.setIfInBounds_toArray, List.set_cons_zero, List.set_cons_succ])
              refine QK.take HK ?_ (by rfl) ?_ ?_
              rotate_left
              · (intro w hw; (try have hcs := hcells w hw); (try go_split_ands); go_simp <;> with_reducible rfl)
              (try simp only [Act.put, List.setIfInBounds_toArray, List.set_cons_zero, List.set_cons_succ])
              refine QK.take HK ?_ (by rfl) ?_ ?_
              rotate_left
              · (intro w hw; (try have hcs := hcells w hw); (try go_split_ands); go_simp <;> with_reducible rfl)
              (try simp only [Act.put, List.setIfInBounds_toArray, List.set_cons_zero, List.set_cons_succ])
              refine QK.take HK ?_ (by rfl) ?_ ?_
              rotate_left
              · (intro w hw; (try have hcs := hcells w hw); (try go_split_ands); go_simp <;> with_reducible rfl)
              (try simp only [Act.put, List.setIfInBounds_toArray, List.set_cons_zero, List.set_cons_succ])
              refine QK.callC HK 13 #[.pointer (some ⟨t, 0, none⟩)] (.int .i64 0) hcl (by rfl) (fun w => by go_simp) (fun w hw => CL w (hgr w hw)) ?_
              (try simp only [Act.put, List.setIfInBounds_toArray, List.set_cons_zero, List.set_cons_succ])
              refine QK.take HK ?_ (by rfl) ?_ ?_
              rotate_left
              · (intro w hw; (try have hcs := hcells w hw); (try go_split_ands); go_simp <;> with_reducible rfl)
              (try simp only [Act.put, List.setIfInBounds_toArray, List.set_cons_zero, List.set_cons_succ])
              refine QK.take HK ?_ (by rfl) ?_ ?_
              rotate_left
              · (intro w hw; (try have hcs := hcells w hw); (try go_split_ands); go_simp <;> with_reducible rfl)
              (try simp only [Act.put, List.setIfInBounds_toArray, List.set_cons_zero, List.set_cons_succ])
              refine QK.take HK ?_ (by rfl) ?_ ?_
              rotate_left
              · (intro w hw; (try have hcs := hcells w hw); (try go_split_ands); go_simp <;> with_reducible rfl)
              (try simp only [Act.put, List.setIfInBounds_toArray, List.set_cons_zero, List.set_cons_succ])
              refine QK.take HK ?_ (by rfl) ?_ ?_
              rotate_left
              · (intro w hw; (try have hcs := hcells w hw); (try go_split_ands); go_simp <;> with_reducible rfl)
              (try simp only [Act.put, List.setIfInBounds_toArray, List.set_cons_zero, List.set_cons_succ])
              refine QK.take HK ?_ (by rfl) ?_ ?_
              rotate_left
              · (intro w hw; (try have hcs := hcells w hw); (try go_split_ands); go_simp <;> with_reducible rfl)
              (try simp only [Act.put, List.setIfInBounds_toArray, List.set_cons_zero, List.set_cons_succ])
              refine QK.take HK ?_ (by rfl) ?_ ?_
              rotate_left
              · (intro w hw; (try have hcs := hcells w hw); (try go_split_ands); go_simp <;> with_reducible rfl)
              (try simp only [Act.put, List.setIfInBounds_toArray, List.set_cons_zero, List.set_cons_succ])
              refine QK.take HK ?_ (by rfl) ?_ ?_
              rotate_left
              · (intro w hw; (try have hcs := hcells w hw); (try go_split_ands); go_simp <;> with_reducible rfl)
              (try simp only [Act.put, List.setIfInBounds_toArray, List.set_cons_zero, List.set_cons_succ])
              refine QK.take HK ?_ (by rfl) ?_ ?_
              rotate_left
              · (intro w hw; (try have hcs := hcells w hw); (try go_split_ands); go_simp <;> with_reducible rfl)
              (try simp only [Act.put, List.setIfInBounds_toArray, List.set_cons_zero, List.set_cons_succ])
              refine QK.callC HK 11 #[.pointer (some ⟨t, 0, none⟩)] (.bool true) hcl (by rfl) (fun w => by go_simp) (fun w hw => CC w (hgr w hw)) ?_
              (try simp only [Act.put, List.setIfInBounds_toArray, List.set_cons_zero, List.set_cons_succ])
              refine QK.take HK ?_ (by rfl) ?_ ?_
              rotate_left
              · (intro w hw; (try have hcs := hcells w hw); (try go_split_ands); go_simp <;> with_reducible rfl)
              (try simp only [Act.put, List.setIfInBounds_toArray, List.set_cons_zero, List.set_cons_succ])
              refine QK.take HK ?_ (by rfl) ?_ ?_
              rotate_left
              · (intro w hw; (try have hcs := hcells w hw); (try go_split_ands); go_simp <;> with_reducible rfl)
              (try simp only [Act.put, List.setIfInBounds_toArray, List.set_cons_zero, List.set_cons_succ])
              refine QK.nil HK ?_
              clear HK K
              intro wq hq
              have hgq := hgr _ hq
              have qk2 := cellk k2 hgq
              have qk3 := cellk k3 hgq
              obtain ⟨z, s, hzs, CF⟩ := first_ex (HS.out.1.gr hgq) HS.out.2.1 HS.out.2.2.1 (hrise.sublist (List.drop_sublist _ _))
              have CR := first_any (.slice (some ⟨g, o + m, none⟩) 0 (sc - m)) (l'.drop (m)) z s wq (HR.out.gr hgq) hzs
              have CA := awake_any wq
              have hk4 := And.intro (cellk k4.1 hgq) (frzk k4.1 k4.2 hgq)
              have HW : Hid (Below w.heap.size w wq ∧ wq.heap[D]? = some (.deferred (some []))) := ⟨HS.out.2.2.2.2.1.trans (hgq.below.mono HS.out.2.2.2.2.1.size), (hgq.below.block D (Array.getElem?_eq_some_iff.1 HS.out.2.2.2.2.2.1).1).trans HS.out.2.2.2.2.2.1⟩
              clear hzs k1 k2 k3 k4 CL CC hq hgr hcells hcl hin
              gi_wp2
              refine ⟨trivial, ?_⟩
              refine (callsIn_wide.2 CF).mono ?_
              rintro e w5 ⟨rfl, e5⟩
              obtain rfl := e5.symm
              gi_wp2
              refine ⟨trivial, ?_⟩
              refine (callsIn_wide.2 CR).mono ?_
              rintro e w5 ⟨rfl, e5⟩
              obtain rfl := e5.symm
              gi_wp2
              refine ⟨trivial, ?_⟩
              refine (callsIn_wide.2 CA).mono ?_
              rintro e w6 ⟨rfl, hB6⟩
              have q1 := (hB6.cell (p := ⟨w.heap.size + 1, 0, none⟩) (block_lt hk4.1)).trans hk4.1
              have q2 := (hB6.frozen (p := ⟨w.heap.size + 1, 0, none⟩) (block_lt hk4.1)).trans hk4.2
              have q4 := (hB6.block D (Array.getElem?_eq_some_iff.1 HW.out.2).1).trans HW.out.2
              have q3 := HW.out.1.trans (hB6.mono HW.out.1.size)
              clear hB6 hk4 qk2 qk3
              gi_wp2
              have hK' := (KeepsOthers.setCell w6 ⟨w.heap.size + 1, 0, none⟩ (.bool true)).same D _ q4 rfl
              refine ⟨by simp, .inl ⟨_, _, rfl, run_takeDeferred hK', ?_⟩⟩
              have hc5 := cell_kept (cell_s (v := .bool true) q1) (grownBy_putObj' _ D (.deferred none)) (fun r e => by cases e; exact ⟨_, hK', rfl⟩)
              refine ⟨.bool true, ?_, rfl, (q3.setCell (p := ⟨w.heap.size + 1, 0, none⟩) (by simp) _).trans (belowK_b (w := w) (Nat.le_refl _) _ D _ _ (by have := HS.out.2.2.2.2.2.2; omega) hK' rfl rfl)⟩
              simp [results, Try.f4, go_sem, hc5]

            · have hbe : ((m : Int) != stop) = true := by simpa using hst
              have HR0 : Rd W (.slice (some ⟨g, o + m, none⟩) 0 (sc - m)) (l'.drop (m)) := (by have := rd_drop (o' := o + m) hI.rd (Nat.le_refl _) (Or.inr rfl); simpa using this)
              have HR : Hid (Rd W (.slice (some ⟨g, o + m, none⟩) 0 (sc - m)) (l'.drop (m))) := HR0
              have HS : Hid (Hs W (w.heap.size + 2) t 9 vE LE ∧ Hp id LE ∧ LE.Perm (l'.drop (m)) ∧ LE.length ≤ 150 ∧ Below w.heap.size w W ∧ W.heap[D]? = some (.deferred (some [])) ∧ w.heap.size + 1 < D) := ⟨hsE, hkE, pLE, by omega, hI.below, hK, by omega⟩
              have k1 := hI.box.1
              have k2 := hI.box.2.2.1
              have k3 := hI.cnt
              have k4 := hI.box.2.1
              have CL : ∀ w', IsGr W w' → Calls Try.prog 13 #[.pointer (some ⟨t, 0, none⟩)] w' fun e w'' => e = .returned (.int .i64 0) ∧ IsGr w' w'' := fun w' hg => (Len_any w' (hsE.gr hg)).mono fun e w'' ⟨h1, h2⟩ => ⟨by rw [h1, hLE]; rfl, h2 ▸ IsGr.refl _⟩
              have CC : ∀ w', IsGr W w' → Calls Try.prog 11 #[.pointer (some ⟨t, 0, none⟩)] w' fun e w'' => e = .returned (.bool true) ∧ IsGr w' w'' := fun w' hg => Check_any cmp_ordr _ t vE LE w' (hsE.gr hg) hkE (by omega)
              clear hI hsE hkE pLE hK hR1 hO1 hkeep hnext hvo HR0
              gi_upto_region 19 with fail
              refine wpIn_wide.2 ?_
              obtain ⟨C, hin, hcl, hcells, hgr⟩ : ∃ C : World → Prop, (∀ w', IsGr W w' → C w') ∧ (∀ u u', C u → IsGr u u' → C u') ∧ (∀ w', C w' → (w'.cell? ⟨w.heap.size, 0, none⟩ = some (.int .i64 stop)) ∧ (w'.cell? ⟨w1.heap.size, 0, none⟩ = some (.slice (some ⟨g, o, none⟩) m sc)) ∧ (w'.cell? ⟨W1.heap.size, 0, none⟩ = some (.int .i64 m))) ∧ (∀ w', C w' → IsGr W w') := ⟨fun w' => IsGr W w', fun _ h => h, fun _ _ h k => h.trans k, fun w' hg => ⟨cellk k1 hg, cellk k2 hg, cellk k3 hg⟩, fun _ h => h⟩
              refine wp_region_quietV C (by kernel_rfl) (by kernel_rfl) (hin _ (by with_reducible repeat (first | exact IsGr.refl _ | refine IsGr.gr ?_ _ _ | refine IsGr.alloc ?_ _ | refine IsGr.drew ?_ | refine IsGr.drewN ?_ _))) (fun K HK => ?_)
              refine QK.take HK ?_ (by rfl) ?_ ?_
              rotate_left
              · (intro w hw; (try have hcs := hcells w hw); (try go_split_ands); go_simp <;> with_reducible rfl)
              (try simp only [Act.put, List.setIfInBounds_toArray, List.set_cons_zero, List.set_cons_succ])
              refine QK.take HK ?_ (by rfl) ?_ ?_
              rotate_left
              · (intro w hw; (try have hcs := hcells w hw); (try go_split_ands); go_simp <;> with_reducible rfl)
              (try simp only [Act.put, List.setIfInBounds_toArray, List.set_cons_zero, List.set_cons_succ])
              refine QK.take HK ?_ (by rfl) ?_ ?_
              rotate_left
              · (intro w hw; (try have hcs := hcells w hw); (try go_split_ands); go_simp <;> with_reducible rfl)
              (try simp only [Act.put, List.setIfInBounds_toArray, List.set_cons_zero, List.set_cons_succ])
              refine QK.take HK ?_ (by rfl) ?_ ?_
              rotate_left
              · (intro w hw; (try have hcs := hcells w hw); (try go_split_ands); go_simp <;> with_reducible rfl)
              (try simp only [Act.put, List.setIfInBounds_toArray, List.set_cons_zero, List.set_cons_succ])
              refine QK.take HK ?_ (by rfl) ?_ ?_
              rotate_left
              · (intro w hw; (try have hcs := hcells w hw); (try go_split_ands); go_simp <;> with_reducible rfl)
              (try simp only [Act.put, List.setIfInBounds_toArray, List.set_cons_zero, List.set_cons_succ])
              refine QK.take HK ?_ (by rfl) ?_ ?_
              rotate_left
              · (intro w hw; (try have hcs := hcells w hw); (try go_split_ands); go_simp <;> with_reducible rfl)
              (try simp only [Act.put, List.setIfInBounds_toArray, List.set_cons_zero, List.set_cons_succ])
              refine QK.take HK ?_ (by rfl) ?_ ?_
              rotate_left
              · (intro w hw; (try have hcs := hcells w hw); (try go_split_ands); go_simp <;> with_reducible rfl)
              (try simp only [Act.put, List.setIfInBounds_toArray, List.set_cons_zero, List.set_cons_succ])
              refine QK.take HK ?_ (by rfl) ?_ ?_
              rotate_left
              · (intro w hw; (try have hcs := hcells w hw); (try go_split_ands); go_simp <;> with_reducible rfl)
              (try simp only [Act.put, List.setIfInBounds_toArray, List.set_cons_zero, List.set_cons_succ])
              refine QK.take HK ?_ (by rfl) ?_ ?_
              rotate_left
              · (intro w hw; (try have hcs := hcells w hw); (try go_split_ands); go_simp <;> with_reducible rfl)
              (try simp only [Act.put, List.setIfInBounds_toArray, List.set_cons_zero, List.set_cons_succ])
              refine QK.take HK ?_ (by rfl) ?_ ?_
              rotate_left
              · (intro w hw; (try have hcs := hcells w hw); (try go_split_ands); go_simp <;> with_reducible rfl)
              (try simp only [Act.put, List.setIfInBounds_toArray, List.set_cons_zero, List.set_cons_succ])
              refine QK.take HK ?_ (by rfl) ?_ ?_
              rotate_left
              · (intro w hw; (try have hcs := hcells w hw); (try go_split_ands); go_simp <;> with_reducible rfl)
              (try simp only [Act.put, List.setIfInBounds_toArray, List.set_cons_zero, List.set_cons_succ])
              refine QK.callC HK 13 #[.pointer (some ⟨t, 0, none⟩)] (.int .i64 0) hcl (by rfl) (fun w => by go_simp) (fun w hw => CL w (hgr w hw)) ?_
              (try simp only [Act.put, List.setIfInBounds_toArray, List.set_cons_zero, List.set_cons_succ])
              refine QK.take HK ?_ (by rfl) ?_ ?_
              rotate_left
              · (intro w hw; (try have hcs := hcells w hw); (try go_split_ands); go_simp <;> with_reducible rfl)
              (try simp only [Act.put, List.setIfInBounds_toArray, List.set_cons_zero, List.set_cons_succ])
              refine QK.take HK ?_ (by rfl) ?_ ?_
              rotate_left
              · (intro w hw; (try have hcs := hcells w hw); (try go_split_ands); go_simp <;> with_reducible rfl)
              (try simp only [Act.put, List.setIfInBounds_toArray, List.set_cons_zero, List.set_cons_succ])
              refine QK.take HK ?_ (by rfl) ?_ ?_
              rotate_left
              · (intro w hw; (try have hcs := hcells w hw); (try go_split_ands); go_simp <;> with_reducible rfl)
              (try simp only [Act.put, List.setIfInBounds_toArray, List.set_cons_zero, List.set_cons_succ])
              refine QK.take HK ?_ (by rfl) ?_ ?_
              rotate_left
              · (intro w hw; (try have hcs := hcells w hw); (try go_split_ands); go_simp <;> with_reducible rfl)
              (try simp only [Act.put, List.setIfInBounds_toArray, List.set_cons_zero, List.set_cons_succ])
              refine QK.take HK ?_ (by rfl) ?_ ?_
              rotate_left
              · (intro w hw; (try have hcs := hcells w hw); (try go_split_ands); go_simp <;> with_reducible rfl)
              (try simp only [Act.put, List.setIfInBounds_toArray, List.set_cons_zero, List.set_cons_succ])
              refine QK.take HK ?_ (by rfl) ?_ ?_
              rotate_left
              · (intro w hw; (try have hcs := hcells w hw); (try go_split_ands); go_simp <;> with_reducible rfl)
              (try simp only [Act.put, List.setIfInBounds_toArray, List.set_cons_zero, List.set_cons_succ])
              refine QK.take HK ?_ (by rfl) ?_ ?_
              rotate_left
              · (intro w hw; (try have hcs := hcells w hw); (try go_split_ands); go_simp <;> with_reducible rfl)
              (try simp only [Act.put, List.setIfInBounds_toArray, List.set_cons_zero, List.set_cons_succ])
              refine QK.take HK ?_ (by rfl) ?_ ?_
              rotate_left
              · (intro w hw; (try have hcs := hcells w hw); (try go_split_ands); go_simp <;> with_reducible rfl)
              (try simp only [Act.put, List.setIfInBounds_toArray, List.set_cons_zero, List.set_cons_succ])
              refine QK.callC HK 11 #[.pointer (some ⟨t, 0, none⟩)] (.bool true) hcl (by rfl) (fun w => by go_simp) (fun w hw => CC w (hgr w hw)) ?_
              (try simp only [Act.put, List.setIfInBounds_toArray, List.set_cons_zero, List.set_cons_succ])
              refine QK.take HK ?_ (by rfl) ?_ ?_
              rotate_left
              · (intro w hw; (try have hcs := hcells w hw); (try go_split_ands); go_simp <;> with_reducible rfl)
              (try simp only [Act.put, List.setIfInBounds_toArray, List.set_cons_zero, List.set_cons_succ])
              refine QK.take HK ?_ (by rfl) ?_ ?_
              rotate_left
              · (intro w hw; (try have hcs := hcells w hw); (try go_split_ands); go_simp <;> with_reducible rfl)
              (try simp only [Act.put, List.setIfInBounds_toArray, List.set_cons_zero, List.set_cons_succ])
              refine QK.nil HK ?_
              clear HK K
              intro wq hq
              have hgq := hgr _ hq
              have qk2 := cellk k2 hgq
              have qk3 := cellk k3 hgq
              obtain ⟨z, s, hzs, CF⟩ := first_ex (HS.out.1.gr hgq) HS.out.2.1 HS.out.2.2.1 (hrise.sublist (List.drop_sublist _ _))
              have CR := first_any (.slice (some ⟨g, o + m, none⟩) 0 (sc - m)) (l'.drop (m)) z s wq (HR.out.gr hgq) hzs
              have CA := awake_any wq
              have hk4 := And.intro (cellk k4.1 hgq) (frzk k4.1 k4.2 hgq)
              have HW : Hid (Below w.heap.size w wq ∧ wq.heap[D]? = some (.deferred (some []))) := ⟨HS.out.2.2.2.2.1.trans (hgq.below.mono HS.out.2.2.2.2.1.size), (hgq.below.block D (Array.getElem?_eq_some_iff.1 HS.out.2.2.2.2.2.1).1).trans HS.out.2.2.2.2.2.1⟩
              clear hzs k1 k2 k3 k4 CL CC hq hgr hcells hcl hin
              gi_wp2
              refine ⟨trivial, ?_⟩
              refine (callsIn_wide.2 CF).mono ?_
              rintro e w5 ⟨rfl, e5⟩
              obtain rfl := e5.symm
              gi_wp2
              refine ⟨trivial, ?_⟩
              refine (callsIn_wide.2 CR).mono ?_
              rintro e w5 ⟨rfl, e5⟩
              obtain rfl := e5.symm
              gi_wp2
              refine ⟨trivial, ?_⟩
              refine (callsIn_wide.2 CA).mono ?_
              rintro e w6 ⟨rfl, hB6⟩
              have q1 := (hB6.cell (p := ⟨w.heap.size + 1, 0, none⟩) (block_lt hk4.1)).trans hk4.1
              have q2 := (hB6.frozen (p := ⟨w.heap.size + 1, 0, none⟩) (block_lt hk4.1)).trans hk4.2
              have q4 := (hB6.block D (Array.getElem?_eq_some_iff.1 HW.out.2).1).trans HW.out.2
              have q3 := HW.out.1.trans (hB6.mono HW.out.1.size)
              clear hB6 hk4 qk2 qk3
              gi_wp2
              have hK' := (KeepsOthers.setCell w6 ⟨w.heap.size + 1, 0, none⟩ (.bool true)).same D _ q4 rfl
              refine ⟨by simp, .inl ⟨_, _, rfl, run_takeDeferred hK', ?_⟩⟩
              have hc5 := cell_kept (cell_s (v := .bool true) q1) (grownBy_putObj' _ D (.deferred none)) (fun r e => by cases e; exact ⟨_, hK', rfl⟩)
              refine ⟨.bool true, ?_, rfl, (q3.setCell (p := ⟨w.heap.size + 1, 0, none⟩) (by simp) _).trans (belowK_b (w := w) (Nat.le_refl _) _ D _ _ (by have := HS.out.2.2.2.2.2.2; omega) hK' rfl rfl)⟩
              simp [results, Try.f4, go_sem, hc5]

      case stop =>
        rintro D cd xs W hD hS ⟨rfl, hI, hst⟩ hK
        obtain ⟨vE, LE, hsE, hkE, hpE, _⟩ := hS
        obtain ⟨q1, pLE⟩ := hpE.list hperm hrise
        have q2 := congrArg List.length q1
        rw [List.length_take, List.length_map, hm] at q2
        rw [List.length_map] at pLE
        obtain ⟨K, hKx⟩ : ∃ K, xs.length = K := ⟨_, rfl⟩
        rw [hKx] at pLE hI q2 hst
        subst hst
        have hKm : K ≤ m := by omega
        obtain ⟨q, hLE⟩ : ∃ q, LE.length = q := ⟨_, rfl⟩
        have hq : q = m - K := by rw [← hLE, pLE.length_eq, List.length_drop, hm]
        have hq9 : LE.length ≤ 150 := by rw [hLE]; omega
        clear hpE hKx q1 q2
        rcases Nat.eq_zero_or_pos m with hm0 | hm0
        · subst hm0
          have hnil : l' = [] := List.length_eq_zero_iff.1 hm
          obtain ⟨rfl, rfl⟩ := hsa hnil
          obtain rfl : K = 0 := by omega
          obtain rfl : q = 0 := by omega
          clear hq
          have HR0 : Rd W (.slice none 0 0) (l'.drop (0)) := (by rw [hnil]; exact hnil ▸ hI.rd)
          have HR : Hid (Rd W (.slice none 0 0) (l'.drop (0))) := HR0
          have HS : Hid (Hs W (w.heap.size + 2) t 9 vE LE ∧ Hp id LE ∧ LE.Perm (l'.drop (0)) ∧ LE.length ≤ 150 ∧ Below w.heap.size w W ∧ W.heap[D]? = some (.deferred (some [])) ∧ w.heap.size + 1 < D) := ⟨hsE, hkE, pLE, by omega, hI.below, hK, by omega⟩
          have k1 := hI.box.1
          have k2 := hI.box.2.2.1
          have k3 := hI.cnt
          have k4 := hI.box.2.1
          have CL : ∀ w', IsGr W w' → Calls Try.prog 13 #[.pointer (some ⟨t, 0, none⟩)] w' fun e w'' => e = .returned (.int .i64 0) ∧ IsGr w' w'' := fun w' hg => (Len_any w' (hsE.gr hg)).mono fun e w'' ⟨h1, h2⟩ => ⟨by rw [h1, hLE]; rfl, h2 ▸ IsGr.refl _⟩
          have CC : ∀ w', IsGr W w' → Calls Try.prog 11 #[.pointer (some ⟨t, 0, none⟩)] w' fun e w'' => e = .returned (.bool true) ∧ IsGr w' w'' := fun w' hg => Check_any cmp_ordr _ t vE LE w' (hsE.gr hg) hkE (by omega)
          clear hI hsE hkE pLE hK hR1 hO1 hkeep hnext hvo HR0
          gi_upto_region 19 with fail
          refine wpIn_wide.2 ?_
          obtain ⟨C, hin, hcl, hcells, hgr⟩ : ∃ C : World → Prop, (∀ w', IsGr W w' → C w') ∧ (∀ u u', C u → IsGr u u' → C u') ∧ (∀ w', C w' → (w'.cell? ⟨w.heap.size, 0, none⟩ = some (.int .i64 0)) ∧ (w'.cell? ⟨w1.heap.size, 0, none⟩ = some (.slice none 0 0)) ∧ (w'.cell? ⟨W1.heap.size, 0, none⟩ = some (.int .i64 0))) ∧ (∀ w', C w' → IsGr W w') := ⟨fun w' => IsGr W w', fun _ h => h, fun _ _ h k => h.trans k, fun w' hg => ⟨cellk k1 hg, cellk k2 hg, cellk k3 hg⟩, fun _ h => h⟩
          refine wp_region_quietV C (by kernel_rfl) (by kernel_rfl) (hin _ (by with_reducible repeat (first | exact IsGr.refl _ | refine IsGr.gr ?_ _ _ | refine IsGr.alloc ?_ _ | refine IsGr.drew ?_ | refine IsGr.drewN ?_ _))) (fun K HK => ?_)
          refine QK.take HK ?_ (by rfl) ?_ ?_
          rotate_left
          · (intro w hw; (try have hcs := hcells w hw); (try go_split_ands); go_simp <;> with_reducible rfl)
          (try simp only [Act.put, List.setIfInBounds_toArray, List.set_cons_zero, List.set_cons_succ])
          refine QK.take HK ?_ (by rfl) ?_ ?_
          rotate_left
          · (intro w hw; (try have hcs := hcells w hw); (try go_split_ands); go_simp <;> with_reducible rfl)
          (try simp only [Act.put, List.setIfInBounds_toArray, List.set_cons_zero, List.set_cons_succ])
          refine QK.take HK ?_ (by rfl) ?_ ?_
          rotate_left
          · (intro w hw; (try have hcs := hcells w hw); (try go_split_ands); go_simp <;> with_reducible rfl)
          (try simp only [Act.put, List.setIfInBounds_toArray, List.set_cons_zero, List.set_cons_succ])
          refine QK.take HK ?_ (by rfl) ?_ ?_
          rotate_left
          · (intro w hw; (try have hcs := hcells w hw); (try go_split_ands); go_simp <;> with_reducible rfl)
          (try simp only [Act.put, List.setIfInBounds_toArray, List.set_cons_zero, List.set_cons_succ])
          refine QK.skip HK (by rfl) ?_
          (try simp only [Act.put, List.setIfInBounds_toArray, List.set_cons_zero, List.set_cons_succ])
          refine QK.skip HK (by rfl) ?_
          (try simp only [Act.put, List.setIfInBounds_toArray, List.set_cons_zero, List.set_cons_succ])
          refine QK.skip HK (by rfl) ?_
          (try simp only [Act.put, List.setIfInBounds_toArray, List.set_cons_zero, List.set_cons_succ])
          refine QK.skip HK (by rfl) ?_
          (try simp only [Act.put, List.setIfInBounds_toArray, List.set_cons_zero, List.set_cons_succ])
          refine QK.take HK ?_ (by rfl) ?_ ?_
          rotate_left
          · (intro w hw; (try have hcs := hcells w hw); (try go_split_ands); go_simp <;> with_reducible rfl)
          (try simp only [Act.put, List.setIfInBounds_toArray, List.set_cons_zero, List.set_cons_succ])
          refine QK.take HK ?_ (by rfl) ?_ ?_
          rotate_left
          · (intro w hw; (try have hcs := hcells w hw); (try go_split_ands); go_simp <;> with_reducible rfl)
          (try simp only [Act.put, List.setIfInBounds_toArray, List.set_cons_zero, List.set_cons_succ])
          refine QK.take HK ?_ (by rfl) ?_ ?_
          rotate_left
          · (intro w hw; (try have hcs := hcells w hw); (try go_split_ands); go_simp <;> with_reducible rfl)
          (try simp only [Act.put, List.setIfInBounds_toArray, List.set_cons_zero, List.set_cons_succ])
          refine QK.callC HK 13 #[.pointer (some ⟨t, 0, none⟩)] (.int .i64 0) hcl (by rfl) (fun w => by go_simp) (fun w hw => CL w (hgr w hw)) ?_
          (try simp only [Act.put, List.setIfInBounds_toArray, List.set_cons_zero, List.set_cons_succ])
          refine QK.take HK ?_ (by rfl) ?_ ?_
          rotate_left
          · (intro w hw; (try have hcs := hcells w hw); (try go_split_ands); go_simp <;> with_reducible rfl)
          (try simp only [Act.put, List.setIfInBounds_toArray, List.set_cons_zero, List.set_cons_succ])
          refine QK.take HK ?_ (by rfl) ?_ ?_
          rotate_left
          · (intro w hw; (try have hcs := hcells w hw); (try go_split_ands); go_simp <;> with_reducible rfl)
          (try simp only [Act.put, List.setIfInBounds_toArray, List.set_cons_zero, List.set_cons_succ])
          refine QK.take HK ?_ (by rfl) ?_ ?_
          rotate_left
          · (intro w hw; (try have hcs := hcells w hw); (try go_split_ands); go_simp <;> with_reducible rfl)
          (try simp only [Act.put, List.setIfInBounds_toArray, List.set_cons_zero, List.set_cons_succ])
          refine QK.take HK ?_ (by rfl) ?_ ?_
          rotate_left
          · (intro w hw; (try have hcs := hcells w hw); (try go_split_ands); go_simp <;> with_reducible rfl)
          (try simp only [Act.put, List.setIfInBounds_toArray, List.set_cons_zero, List.set_cons_succ])
          refine QK.take HK ?_ (by rfl) ?_ ?_
          rotate_left
          · (intro w hw; (try have hcs := hcells w hw); (try go_split_ands); go_simp <;> with_reducible rfl)
          (try simp only [Act.put, List.setIfInBounds_toArray, List.set_cons_zero, List.set_cons_succ])
          refine QK.take HK ?_ (by rfl) ?_ ?_
          rotate_left
          · (intro w hw; (try have hcs := hcells w hw); (try go_split_ands); go_simp <;> with_reducible rfl)
          (try simp only [Act.put, List.setIfInBounds_toArray, List.set_cons_zero, List.set_cons_succ])
          refine QK.take HK ?_ (by rfl) ?_ ?_
          rotate_left
          · (intro w hw; (try have hcs := hcells w hw); (try go_split_ands); go_simp <;> with_reducible rfl)
          (try simp only [Act.put, List.setIfInBounds_toArray, List.set_cons_zero, List.set_cons_succ])
          refine QK.take HK ?_ (by rfl) ?_ ?_
          rotate_left
          · (intro w hw; (try have hcs := hcells w hw); (try go_split_ands); go_simp <;> with_reducible rfl)
          (try simp only [Act.put, List.setIfInBounds_toArray, List.set_cons_zero, List.set_cons_succ])
          refine QK.callC HK 11 #[.pointer (some ⟨t, 0, none⟩)] (.bool true) hcl (by rfl) (fun w => by go_simp) (fun w hw => CC w (hgr w hw)) ?_
          (try simp only [Act.put, List.setIfInBounds_toArray, List.set_cons_zero, List.set_cons_succ])
          refine QK.take HK ?_ (by rfl) ?_ ?_
          rotate_left
          · (intro w hw; (try have hcs := hcells w hw); (try go_split_ands); go_simp <;> with_reducible rfl)
          (try simp only [Act.put, List.setIfInBounds_toArray, List.set_cons_zero, List.set_cons_succ])
          refine QK.take HK ?_ (by rfl) ?_ ?_
          rotate_left
          · (intro w hw; (try have hcs := hcells w hw); (try go_split_ands); go_simp <;> with_reducible rfl)
          (try simp only [Act.put, List.setIfInBounds_toArray, List.set_cons_zero, List.set_cons_succ])
          refine QK.nil HK ?_
          clear HK K
          intro wq hq
          have hgq := hgr _ hq
          have qk2 := cellk k2 hgq
          have qk3 := cellk k3 hgq
          obtain ⟨z, s, hzs, CF⟩ := first_ex (HS.out.1.gr hgq) HS.out.2.1 HS.out.2.2.1 (hrise.sublist (List.drop_sublist _ _))
          have CR := first_any (.slice none 0 0) (l'.drop (0)) z s wq (HR.out.gr hgq) hzs
          have CA := awake_any wq
          have hk4 := And.intro (cellk k4.1 hgq) (frzk k4.1 k4.2 hgq)
          have HW : Hid (Below w.heap.size w wq ∧ wq.heap[D]? = some (.deferred (some []))) := ⟨HS.out.2.2.2.2.1.trans (hgq.below.mono HS.out.2.2.2.2.1.size), (hgq.below.block D (Array.getElem?_eq_some_iff.1 HS.out.2.2.2.2.2.1).1).trans HS.out.2.2.2.2.2.1⟩
          clear hzs k1 k2 k3 k4 CL CC hq hgr hcells hcl hin
          gi_wp2
          refine ⟨trivial, ?_⟩
          refine (callsIn_wide.2 CF).mono ?_
          rintro e w5 ⟨rfl, e5⟩
          obtain rfl := e5.symm
          gi_wp2
          refine ⟨trivial, ?_⟩
          refine (callsIn_wide.2 CR).mono ?_
          rintro e w5 ⟨rfl, e5⟩
          obtain rfl := e5.symm
          gi_wp2
          refine ⟨trivial, ?_⟩
          refine (callsIn_wide.2 CA).mono ?_
          rintro e w6 ⟨rfl, hB6⟩
          have q1 := (hB6.cell (p := ⟨w.heap.size + 1, 0, none⟩) (block_lt hk4.1)).trans hk4.1
          have q2 := (hB6.frozen (p := ⟨w.heap.size + 1, 0, none⟩) (block_lt hk4.1)).trans hk4.2
          have q4 := (hB6.block D (Array.getElem?_eq_some_iff.1 HW.out.2).1).trans HW.out.2
          have q3 := HW.out.1.trans (hB6.mono HW.out.1.size)
          clear hB6 hk4 qk2 qk3
          gi_wp2
          have hK' := (KeepsOthers.setCell w6 ⟨w.heap.size + 1, 0, none⟩ (.bool true)).same D _ q4 rfl
          refine ⟨by simp, .inl ⟨_, _, rfl, run_takeDeferred hK', ?_⟩⟩
          have hc5 := cell_kept (cell_s (v := .bool true) q1) (grownBy_putObj' _ D (.deferred none)) (fun r e => by cases e; exact ⟨_, hK', rfl⟩)
          refine ⟨.bool true, ?_, rfl, (q3.setCell (p := ⟨w.heap.size + 1, 0, none⟩) (by simp) _).trans (belowK_b (w := w) (Nat.le_refl _) _ D _ _ (by have := HS.out.2.2.2.2.2.2; omega) hK' rfl rfl)⟩
          simp [results, Try.f4, go_sem, hc5]

        · obtain ⟨g, o, rfl⟩ : ∃ g o, sa = some ⟨g, o, none⟩ := by
            obtain ⟨a', _, ev, _, hIn⟩ := hI.rd
            obtain ⟨g, o, ea, _⟩ := hIn.at (k := 0) (by omega)
            injection ev with e1
            exact ⟨g, o, e1.trans ea⟩
          have hmc : m ≤ sc := by obtain ⟨_, _, ev, q, _⟩ := hI.rd; injection ev with e1 e2 e3; omega
          have hm0' : (0 : Int) < m := by omega
          by_cases hc1 : sc = K
          · subst hc1
            obtain rfl : m = sc := by omega
            obtain rfl : q = 0 := by omega
            clear hq
            have HR0 : Rd W (.slice (some ⟨g, o, none⟩) 0 0) (l'.drop (m)) := (by have := rd_drop (o' := o) hI.rd (Nat.le_refl _) (Or.inl ⟨rfl, rfl⟩); simpa using this)
            have HR : Hid (Rd W (.slice (some ⟨g, o, none⟩) 0 0) (l'.drop (m))) := HR0
            have HS : Hid (Hs W (w.heap.size + 2) t 9 vE LE ∧ Hp id LE ∧ LE.Perm (l'.drop (m)) ∧ LE.length ≤ 150 ∧ Below w.heap.size w W ∧ W.heap[D]? = some (.deferred (some [])) ∧ w.heap.size + 1 < D) := ⟨hsE, hkE, pLE, by omega, hI.below, hK, by omega⟩
            have k1 := hI.box.1
            have k2 := hI.box.2.2.1
            have k3 := hI.cnt
            have k4 := hI.box.2.1
            have CL : ∀ w', IsGr W w' → Calls Try.prog 13 #[.pointer (some ⟨t, 0, none⟩)] w' fun e w'' => e = .returned (.int .i64 0) ∧ IsGr w' w'' := fun w' hg => (Len_any w' (hsE.gr hg)).mono fun e w'' ⟨h1, h2⟩ => ⟨by rw [h1, hLE]; rfl, h2 ▸ IsGr.refl _⟩
            have CC : ∀ w', IsGr W w' → Calls Try.prog 11 #[.pointer (some ⟨t, 0, none⟩)] w' fun e w'' => e = .returned (.bool true) ∧ IsGr w' w'' := fun w' hg => Check_any cmp_ordr _ t vE LE w' (hsE.gr hg) hkE (by omega)
            clear hI hsE hkE pLE hK hR1 hO1 hkeep hnext hvo HR0
            gi_upto_region 19 with fail
            refine wpIn_wide.2 ?_
            obtain ⟨C, hin, hcl, hcells, hgr⟩ : ∃ C : World → Prop, (∀ w', IsGr W w' → C w') ∧ (∀ u u', C u → IsGr u u' → C u') ∧ (∀ w', C w' → (w'.cell? ⟨w.heap.size, 0, none⟩ = some (.int .i64 m)) ∧ (w'.cell? ⟨w1.heap.size, 0, none⟩ = some (.slice (some ⟨g, o, none⟩) m m)) ∧ (w'.cell? ⟨W1.heap.size, 0, none⟩ = some (.int .i64 m))) ∧ (∀ w', C w' → IsGr W w') := ⟨fun w' => IsGr W w', fun _ h => h, fun _ _ h k => h.trans k, fun w' hg => ⟨cellk k1 hg, cellk k2 hg, cellk k3 hg⟩, fun _ h => h⟩
            refine wp_region_quietV C (by kernel_rfl) (by kernel_rfl) (hin _ (by with_reducible repeat (first | exact IsGr.refl _ | refine IsGr.gr ?_ _ _ | refine IsGr.alloc ?_ _ | refine IsGr.drew ?_ | refine IsGr.drewN ?_ _))) (fun K HK => ?_)
            refine QK.take HK ?_ (by rfl) ?_ ?_
            rotate_left
            · (intro w hw; (try have hcs := hcells w hw); (try go_split_ands); go_simp <;> with_reducible rfl)
            (try simp only [Act.put, List.setIfInBounds_toArray, List.set_cons_zero, List.set_cons_succ])
            refine QK.take HK ?_ (by rfl) ?_ ?_
            rotate_left
            · (intro w hw; (try have hcs := hcells w hw); (try go_split_ands); go_simp <;> with_reducible rfl)
            (try simp only [Act.put, List.setIfInBounds_toArray, List.set_cons_zero, List.set_cons_succ])
            refine QK.take HK ?_ (by rfl) ?_ ?_
            rotate_left
            · (intro w hw; (try have hcs := hcells w hw); (try go_split_ands); go_simp <;> with_reducible rfl)
            (try simp only [Act.put, List.setIfInBounds_toArray, List.set_cons_zero, List.set_cons_succ])
            refine QK.take HK ?_ (by rfl) ?_ ?_
            rotate_left
            · (intro w hw; (try have hcs := hcells w hw); (try go_split_ands); go_simp <;> with_reducible rfl)
            (try simp only [Act.put, List.setIfInBounds_toArray, List.set_cons_zero, List.set_cons_succ])
            refine QK.skip HK (by rfl) ?_
            (try simp only [Act.put, List.setIfInBounds_toArray, List.set_cons_zero, List.set_cons_succ])
            refine QK.skip HK (by rfl) ?_
            (try simp only [Act.put, List.setIfInBounds_toArray, List.set_cons_zero, List.set_cons_succ])
            refine QK.skip HK (by rfl) ?_
            (try simp only [Act.put, List.setIfInBounds_toArray, List.set_cons_zero, List.set_cons_succ])
            refine QK.skip HK (by rfl) ?_
            (try simp only [Act.put, List.setIfInBounds_toArray, List.set_cons_zero, List.set_cons_succ])
            refine QK.take HK ?_ (by rfl) ?_ ?_
            rotate_left
            · (intro w hw; (try have hcs := hcells w hw); (try go_split_ands); go_simp <;> with_reducible rfl)
            (try simp only [Act.put, List.setIfInBounds_toArray, List.set_cons_zero, List.set_cons_succ])
            refine QK.take HK ?_ (by rfl) ?_ ?_
            rotate_left
            · (intro w hw; (try have hcs := hcells w hw); (try go_split_ands); go_simp <;> with_reducible rfl)
            (try simp only [Act.put, List.setIfInBounds_toArray, List.set_cons_zero, List.set_cons_succ])
            refine QK.take HK ?_ (by rfl) ?_ ?_
            rotate_left
            · (intro w hw; (try have hcs := hcells w hw); (try go_split_ands); go_simp <;> with_reducible rfl)
            (try simp only [Act.put, List.setIfInBounds_toArray, List.set_cons_zero, List.set_cons_succ])
            refine QK.callC HK 13 #[.pointer (some ⟨t, 0, none⟩)] (.int .i64 0) hcl (by rfl) (fun w => by go_simp) (fun w hw => CL w (hgr w hw)) ?_
            (try simp only [Act.put, List.setIfInBounds_toArray, List.set_cons_zero, List.set_cons_succ])
            refine QK.take HK ?_ (by rfl) ?_ ?_
            rotate_left
            · (intro w hw; (try have hcs := hcells w hw); (try go_split_ands); go_simp <;> with_reducible rfl)
            (try simp only [Act.put, List.setIfInBounds_toArray, List.set_cons_zero, List.set_cons_succ])
            refine QK.take HK ?_ (by rfl) ?_ ?_
            rotate_left
            · (intro w hw; (try have hcs := hcells w hw); (try go_split_ands); go_simp <;> with_reducible rfl)
            (try simp only [Act.put, List.setIfInBounds_toArray, List.set_cons_zero, List.set_cons_succ])
            refine QK.take HK ?_ (by rfl) ?_ ?_
            rotate_left
            · (intro w hw; (try have hcs := hcells w hw); (try go_split_ands); go_simp <;> with_reducible rfl)
            (try simp only [Act.put, List.setIfInBounds_toArray, List.set_cons_zero, List.set_cons_succ])
            refine QK.take HK ?_ (by rfl) ?_ ?_
            rotate_left
            · (intro w hw; (try have hcs := hcells w hw); (try go_split_ands); go_simp <;> with_reducible rfl)
            (try simp only [Act.put, List.setIfInBounds_toArray, List.set_cons_zero, List.set_cons_succ])
            refine QK.take HK ?_ (by rfl) ?_ ?_
            rotate_left
            · (intro w hw; (try have hcs := hcells w hw); (try go_split_ands); go_simp <;> with_reducible rfl)
            (try simp only [Act.put, List.setIfInBounds_toArray, List.set_cons_zero, List.set_cons_succ])
            refine QK.take HK ?_ (by rfl) ?_ ?_
            rotate_left
            · (intro w hw; (try have hcs := hcells w hw); (try go_split_ands); go_simp <;> with_reducible rfl)
            (try simp only [Act.put, List.setIfInBounds_toArray, List.set_cons_zero, List.set_cons_succ])
            refine QK.take HK ?_ (by rfl) ?_ ?_
            rotate_left
            · (intro w hw; (try have hcs := hcells w hw); (try go_split_ands); go_simp <;> with_reducible rfl)
            (try simp only [Act.put, List.setIfInBounds_toArray, List.set_cons_zero, List.set_cons_succ])
            refine QK.take HK ?_ (by rfl) ?_ ?_
            rotate_left
            · (intro w hw; (try have hcs := hcells w hw); (try go_split_ands); go_simp <;> with_reducible rfl)
            (try simp only [Act.put, List.setIfInBounds_toArray, List.set_cons_zero, List.set_cons_succ])
            refine QK.callC HK 11 #[.pointer (some ⟨t, 0, none⟩)] (.bool true) hcl (by rfl) (fun w => by go_simp) (fun w hw => CC w (hgr w hw)) ?_
            (try simp only [Act.put, List.setIfInBounds_toArray, List.set_cons_zero, List.set_cons_succ])
            refine QK.take HK ?_ (by rfl) ?_ ?_
            rotate_left
            · (intro w hw; (try have hcs := hcells w hw); (try go_split_ands); go_simp <;> with_reducible rfl)
            (try simp only [Act.put, List.setIfInBounds_toArray, List.set_cons_zero, List.set_cons_succ])
            refine QK.take HK ?_ (by rfl) ?_ ?_
            rotate_left
            · (intro w hw; (try have hcs := hcells w hw); (try go_split_ands); go_simp <;> with_reducible rfl)
            (try simp only [Act.put, List.setIfInBounds_toArray, List.set_cons_zero, List.set_cons_succ])
            refine QK.nil HK ?_
            clear HK K
            intro wq hq
            have hgq := hgr _ hq
            have qk2 := cellk k2 hgq
            have qk3 := cellk k3 hgq
            obtain ⟨z, s, hzs, CF⟩ := first_ex (HS.out.1.gr hgq) HS.out.2.1 HS.out.2.2.1 (hrise.sublist (List.drop_sublist _ _))
            have CR := first_any (.slice (some ⟨g, o, none⟩) 0 0) (l'.drop (m)) z s wq (HR.out.gr hgq) hzs
            have CA := awake_any wq
            have hk4 := And.intro (cellk k4.1 hgq) (frzk k4.1 k4.2 hgq)
            have HW : Hid (Below w.heap.size w wq ∧ wq.heap[D]? = some (.deferred (some []))) := ⟨HS.out.2.2.2.2.1.trans (hgq.below.mono HS.out.2.2.2.2.1.size), (hgq.below.block D (Array.getElem?_eq_some_iff.1 HS.out.2.2.2.2.2.1).1).trans HS.out.2.2.2.2.2.1⟩
            clear hzs k1 k2 k3 k4 CL CC hq hgr hcells hcl hin
            gi_wp2
            refine ⟨trivial, ?_⟩
            refine (callsIn_wide.2 CF).mono ?_
            rintro e w5 ⟨rfl, e5⟩
            obtain rfl := e5.symm
            gi_wp2
            refine ⟨trivial, ?_⟩
            refine (callsIn_wide.2 CR).mono ?_
            rintro e w5 ⟨rfl, e5⟩
            obtain rfl := e5.symm
            gi_wp2
            refine ⟨trivial, ?_⟩
            refine (callsIn_wide.2 CA).mono ?_
            rintro e w6 ⟨rfl, hB6⟩
            have q1 := (hB6.cell (p := ⟨w.heap.size + 1, 0, none⟩) (block_lt hk4.1)).trans hk4.1
            have q2 := (hB6.frozen (p := ⟨w.heap.size + 1, 0, none⟩) (block_lt hk4.1)).trans hk4.2
            have q4 := (hB6.block D (Array.getElem?_eq_some_iff.1 HW.out.2).1).trans HW.out.2
            have q3 := HW.out.1.trans (hB6.mono HW.out.1.size)
            clear hB6 hk4 qk2 qk3
            gi_wp2
            have hK' := (KeepsOthers.setCell w6 ⟨w.heap.size + 1, 0, none⟩ (.bool true)).same D _ q4 rfl
            refine ⟨by simp, .inl ⟨_, _, rfl, run_takeDeferred hK', ?_⟩⟩
            have hc5 := cell_kept (cell_s (v := .bool true) q1) (grownBy_putObj' _ D (.deferred none)) (fun r e => by cases e; exact ⟨_, hK', rfl⟩)
            refine ⟨.bool true, ?_, rfl, (q3.setCell (p := ⟨w.heap.size + 1, 0, none⟩) (by simp) _).trans (belowK_b (w := w) (Nat.le_refl _) _ D _ _ (by have := HS.out.2.2.2.2.2.2; omega) hK' rfl rfl)⟩
            simp [results, Try.f4, go_sem, hc5]

          · have hKm' : (K : Int) ≤ m := by omega
            have e7 : IntKind.i64.wrap ((m : Int) - K) = (q : Int) := by rw [IntKind.wrap_i64]; omega
            clear hq
            have HR0 : Rd W (.slice (some ⟨g, o + K, none⟩) (m - K) (sc - K)) (l'.drop (K)) := (rd_drop (o' := o + K) hI.rd hKm (Or.inr rfl))
            have HR : Hid (Rd W (.slice (some ⟨g, o + K, none⟩) (m - K) (sc - K)) (l'.drop (K))) := HR0
            have HS : Hid (Hs W (w.heap.size + 2) t 9 vE LE ∧ Hp id LE ∧ LE.Perm (l'.drop (K)) ∧ LE.length ≤ 150 ∧ Below w.heap.size w W ∧ W.heap[D]? = some (.deferred (some [])) ∧ w.heap.size + 1 < D) := ⟨hsE, hkE, pLE, by omega, hI.below, hK, by omega⟩
            have k1 := hI.box.1
            have k2 := hI.box.2.2.1
            have k3 := hI.cnt
            have k4 := hI.box.2.1
            have CL : ∀ w', IsGr W w' → Calls Try.prog 13 #[.pointer (some ⟨t, 0, none⟩)] w' fun e w'' => e = .returned (.int .i64 q) ∧ IsGr w' w'' := fun w' hg => (Len_any w' (hsE.gr hg)).mono fun e w'' ⟨h1, h2⟩ => ⟨by rw [h1, hLE], h2 ▸ IsGr.refl _⟩
            have CC : ∀ w', IsGr W w' → Calls Try.prog 11 #[.pointer (some ⟨t, 0, none⟩)] w' fun e w'' => e = .returned (.bool true) ∧ IsGr w' w'' := fun w' hg => Check_any cmp_ordr _ t vE LE w' (hsE.gr hg) hkE (by omega)
            clear hI hsE hkE pLE hK hR1 hO1 hkeep hnext hvo HR0
            gi_upto_region 19 with fail
            refine wpIn_wide.2 ?_
            obtain ⟨C, hin, hcl, hcells, hgr⟩ : ∃ C : World → Prop, (∀ w', IsGr W w' → C w') ∧ (∀ u u', C u → IsGr u u' → C u') ∧ (∀ w', C w' → (w'.cell? ⟨w.heap.size, 0, none⟩ = some (.int .i64 K)) ∧ (w'.cell? ⟨w1.heap.size, 0, none⟩ = some (.slice (some ⟨g, o, none⟩) m sc)) ∧ (w'.cell? ⟨W1.heap.size, 0, none⟩ = some (.int .i64 K))) ∧ (∀ w', C w' → IsGr W w') := ⟨fun w' => IsGr W w', fun _ h => h, fun _ _ h k => h.trans k, fun w' hg => ⟨cellk k1 hg, cellk k2 hg, cellk k3 hg⟩, fun _ h => h⟩
            refine wp_region_quietV C (by kernel_rfl) (by kernel_rfl) (hin _ (by with_reducible repeat (first | exact IsGr.refl _ | refine IsGr.gr ?_ _ _ | refine IsGr.alloc ?_ _ | refine IsGr.drew ?_ | refine IsGr.drewN ?_ _))) (fun K HK => ?_)
            refine QK.take HK ?_ (by rfl) ?_ ?_
            rotate_left
            · (intro w hw; (try have hcs := hcells w hw); (try go_split_ands); go_simp <;> with_reducible rfl)
            (try simp only [Act.put, List.setIfInBounds_toArray, List.set_cons_zero, List.set_cons_succ])
            refine QK.take HK ?_ (by rfl) ?_ ?_
            rotate_left
            · (intro w hw; (try have hcs := hcells w hw); (try go_split_ands); go_simp <;> with_reducible rfl)
            (try simp only [Act.put, List.setIfInBounds_toArray, List.set_cons_zero, List.set_cons_succ])
            refine QK.take HK ?_ (by rfl) ?_ ?_
            rotate_left
            · (intro w hw; (try have hcs := hcells w hw); (try go_split_ands); go_simp <;> with_reducible rfl)
            (try simp only [Act.put, List.setIfInBounds_toArray, List.set_cons_zero, List.set_cons_succ])
            refine QK.take HK ?_ (by rfl) ?_ ?_
            rotate_left
            · (intro w hw; (try have hcs := hcells w hw); (try go_split_ands); go_simp <;> with_reducible rfl)
            (try simp only [Act.put, List.setIfInBounds_toArray, List.set_cons_zero, List.set_cons_succ])
            refine QK.skip HK (by rfl) ?_
            (try simp only [Act.put, List.setIfInBounds_toArray, List.set_cons_zero, List.set_cons_succ])
            refine QK.skip HK (by rfl) ?_
            (try simp only [Act.put, List.setIfInBounds_toArray, List.set_cons_zero, List.set_cons_succ])
            refine QK.skip HK (by rfl) ?_
            (try simp only [Act.put, List.setIfInBounds_toArray, List.set_cons_zero, List.set_cons_succ])
            refine QK.skip HK (by rfl) ?_
            (try simp only [Act.put, List.setIfInBounds_toArray, List.set_cons_zero, List.set_cons_succ])
            refine QK.take HK ?_ (by rfl) ?_ ?_
            rotate_left
            · (intro w hw; (try have hcs := hcells w hw); (try go_split_ands); go_simp <;> with_reducible rfl)
            (try simp only [Act.put, List.setIfInBounds_toArray, List.set_cons_zero, List.set_cons_succ])
            refine QK.take HK ?_ (by rfl) ?_ ?_
            rotate_left
            · (intro w hw; (try have hcs := hcells w hw); (try go_split_ands); go_simp <;> with_reducible rfl)
            (try simp only [Act.put, List.setIfInBounds_toArray, List.set_cons_zero, List.set_cons_succ])
            refine QK.take HK ?_ (by rfl) ?_ ?_
            rotate_left
            · (intro w hw; (try have hcs := hcells w hw); (try go_split_ands); go_simp <;> with_reducible rfl)
            (try simp only [Act.put, List.setIfInBounds_toArray, List.set_cons_zero, List.set_cons_succ])
            refine QK.callC HK 13 #[.pointer (some ⟨t, 0, none⟩)] (.int .i64 q) hcl (by rfl) (fun w => by go_simp) (fun w hw => CL w (hgr w hw)) ?_
            (try simp only [Act.put, List.setIfInBounds_toArray, List.set_cons_zero, List.set_cons_succ])
            refine QK.take HK ?_ (by rfl) ?_ ?_
            rotate_left
            · (intro w hw; (try have hcs := hcells w hw); (try go_split_ands); go_simp <;> with_reducible rfl)
            (try simp only [Act.put, List.setIfInBounds_toArray, List.set_cons_zero, List.set_cons_succ])
            refine QK.take HK ?_ (by rfl) ?_ ?_
            rotate_left
            · (intro w hw; (try have hcs := hcells w hw); (try go_split_ands); go_simp <;> with_reducible rfl)
            (try simp only [Act.put, List.setIfInBounds_toArray, List.set_cons_zero, List.set_cons_succ])
            refine QK.take HK ?_ (by rfl) ?_ ?_
            rotate_left
            · (intro w hw; (try have hcs := hcells w hw); (try go_split_ands); go_simp <;> with_reducible rfl)
            (try simp only [Act.put, List.setIfInBounds_toArray, List.set_cons_zero, List.set_cons_succ])
            refine QK.take HK ?_ (by rfl) ?_ ?_
            rotate_left
            · (intro w hw; (try have hcs := hcells w hw); (try go_split_ands); go_simp <;> with_reducible rfl)
            (try simp only [Act.put, List.setIfInBounds_toArray, List.set_cons_zero, List.set_cons_succ])
            refine QK.take HK ?_ (by rfl) ?_ ?_
            rotate_left
            · (intro w hw; (try have hcs := hcells w hw); (try go_split_ands); go_simp <;> with_reducible rfl)
            (try simp only [Act.put, List.setIfInBounds_toArray, List.set_cons_zero, List.set_cons_succ])
            refine QK.take HK ?_ (by rfl) ?_ ?_
            rotate_left
            · (intro w hw; (try have hcs := hcells w hw); (try go_split_ands); go_simp <;> with_reducible rfl)
            (try simp only [Act.put, List.setIfInBounds_toArray, List.set_cons_zero, List.set_cons_succ])
            refine QK.take HK ?_ (by rfl) ?_ ?_
            rotate_left
            · (intro w hw; (try have hcs := hcells w hw); (try go_split_ands); go_simp <;> with_reducible rfl)
            (try simp only [Act.put, List.setIfInBounds_toArray, List.set_cons_zero, List.set_cons_succ])
            refine QK.take HK ?_ (by rfl) ?_ ?_
            rotate_left
            · (intro w hw; (try have hcs := hcells w hw); (try go_split_ands); go_simp <;> with_reducible rfl)
            (try simp only [Act.put, List.setIfInBounds_toArray, List.set_cons_zero, List.set_cons_succ])
            refine QK.callC HK 11 #[.pointer (some ⟨t, 0, none⟩)] (.bool true) hcl (by rfl) (fun w => by go_simp) (fun w hw => CC w (hgr w hw)) ?_
            (try simp only [Act.put, List.setIfInBounds_toArray, List.set_cons_zero, List.set_cons_succ])
            refine QK.take HK ?_ (by rfl) ?_ ?_
            rotate_left
            · (intro w hw; (try have hcs := hcells w hw); (try go_split_ands); go_simp <;> with_reducible rfl)
            (try simp only [Act.put, List.setIfInBounds_toArray, List.set_cons_zero, List.set_cons_succ])
            refine QK.take HK ?_ (by rfl) ?_ ?_
            rotate_left
            · (intro w hw; (try have hcs := hcells w hw); (try go_split_ands); go_simp <;> with_reducible rfl)
            (try simp only [Act.put, List.setIfInBounds_toArray, List.set_cons_zero, List.set_cons_succ])
            refine QK.nil HK ?_
            clear HK K
            intro wq hq
            have hgq := hgr _ hq
            have qk2 := cellk k2 hgq
            have qk3 := cellk k3 hgq
            obtain ⟨z, s, hzs, CF⟩ := first_ex (HS.out.1.gr hgq) HS.out.2.1 HS.out.2.2.1 (hrise.sublist (List.drop_sublist _ _))
            have CR := first_any (.slice (some ⟨g, o + K, none⟩) (m - K) (sc - K)) (l'.drop (K)) z s wq (HR.out.gr hgq) hzs
            have CA := awake_any wq
            have hk4 := And.intro (cellk k4.1 hgq) (frzk k4.1 k4.2 hgq)
            have HW : Hid (Below w.heap.size w wq ∧ wq.heap[D]? = some (.deferred (some []))) := ⟨HS.out.2.2.2.2.1.trans (hgq.below.mono HS.out.2.2.2.2.1.size), (hgq.below.block D (Array.getElem?_eq_some_iff.1 HS.out.2.2.2.2.2.1).1).trans HS.out.2.2.2.2.2.1⟩
            clear hzs k1 k2 k3 k4 CL CC hq hgr hcells hcl hin
            gi_wp2
            refine ⟨trivial, ?_⟩
            refine (callsIn_wide.2 CF).mono ?_
            rintro e w5 ⟨rfl, e5⟩
            obtain rfl := e5.symm
            gi_wp2
            refine ⟨trivial, ?_⟩
            refine (callsIn_wide.2 CR).mono ?_
            rintro e w5 ⟨rfl, e5⟩
            obtain rfl := e5.symm
            gi_wp2
            refine ⟨trivial, ?_⟩
            refine (callsIn_wide.2 CA).mono ?_
            rintro e w6 ⟨rfl, hB6⟩
            have q1 := (hB6.cell (p := ⟨w.heap.size + 1, 0, none⟩) (block_lt hk4.1)).trans hk4.1
            have q2 := (hB6.frozen (p := ⟨w.heap.size + 1, 0, none⟩) (block_lt hk4.1)).trans hk4.2
            have q4 := (hB6.block D (Array.getElem?_eq_some_iff.1 HW.out.2).1).trans HW.out.2
            have q3 := HW.out.1.trans (hB6.mono HW.out.1.size)
            clear hB6 hk4 qk2 qk3
            gi_wp2
            have hK' := (KeepsOthers.setCell w6 ⟨w.heap.size + 1, 0, none⟩ (.bool true)).same D _ q4 rfl
            refine ⟨by simp, .inl ⟨_, _, rfl, run_takeDeferred hK', ?_⟩⟩
            have hc5 := cell_kept (cell_s (v := .bool true) q1) (grownBy_putObj' _ D (.deferred none)) (fun r e => by cases e; exact ⟨_, hK', rfl⟩)
            refine ⟨.bool true, ?_, rfl, (q3.setCell (p := ⟨w.heap.size + 1, 0, none⟩) (by simp) _).trans (belowK_b (w := w) (Nat.le_refl _) _ D _ _ (by have := HS.out.2.2.2.2.2.2; omega) hK' rfl rfl)⟩
            simp [results, Try.f4, go_sem, hc5]

theorem law_drains (a : Option Addr) (n c : Nat) (l : List Int) (stop : Int) (_ : -9223372036854775808 ≤ stop) (_ : stop < 9223372036854775808) (w : World) (h : Ins w a n l) : Calls Try.prog 4 #[.slice a n c, .int .i64 stop] w fun e w' => e = .returned (.bool true) ∧ Below w.heap.size w w' := by
  by_cases hn : n ≤ 150
  · exact law_drains_few a n c l stop w h hn
  · exact law_drains_many a n c stop w (by omega)
end Go.Proofs.Ytdffpgfmodccgaa
