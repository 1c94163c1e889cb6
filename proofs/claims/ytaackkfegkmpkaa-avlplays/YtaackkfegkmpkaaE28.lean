/- gromalaw05 over the loaded program: AvlPlays' law. -/
import Derived.Test.YtaackkfegkmpkaaE26
namespace Go.Proofs.Ytaackkfegkmpkaa
open Go.RowKit Go.Shelf
attribute [local go_sem] Gr.size Gr.cell? Gr.frozen? Gr.setCell Gr.drew Gr.drewN Gr.of_drew Gr.of_drewN Gr.gr Gr.lt_of1 Gr.le_of1 Gr.lt_of2 Gr.le_of2 Gr.lt_of3 Gr.le_of3 Gr.lt_of4 Gr.le_of4 Gr.lt_of5 Gr.le_of5 Gr.lt_of6 Gr.le_of6 Gr.lt_of7 Gr.le_of7 Gr.lt_of8 Gr.le_of8 Gr.lt_of9 Gr.le_of9 Gr.lt_of10 Gr.le_of10 Gr.lt_of11 Gr.le_of11 Gr.lt_of12 Gr.le_of12 Gr.lt_of13 Gr.le_of13 Gr.lt_of14 Gr.le_of14 Gr.lt_of15 Gr.le_of15 Gr.lt_of16 Gr.le_of16 Gr.lt_of17 Gr.le_of17 Gr.lt_of18 Gr.le_of18 Gr.lt_of19 Gr.le_of19 Gr.lt_of20 Gr.le_of20 Gr.lt_of21 Gr.le_of21 Gr.lt_of22 Gr.le_of22 Gr.lt_of23 Gr.le_of23 Gr.lt_of24 Gr.le_of24
theorem look_some {k : Int → Int} {v x : Int} : ∀ {T : AT}, look k v T = some x → x ∈ T.vals ∧ k v = k x
  | .nil, h => by cases h
  | .nd b y l r, h => by
    rw [vals_nd]
    unfold look at h
    split at h
    · rename_i e; cases h; exact ⟨by simp, e⟩
    · split at h
      · have := look_some h; exact ⟨by simp [this.1], this.2⟩
      · have := look_some h; exact ⟨by simp [this.1], this.2⟩
theorem look_none {k : Int → Int} {v : Int} : ∀ {T : AT}, look k v T = none ↔ has k v T = false
  | .nil => by simp [look, has]
  | .nd b y l r => by
    have i1 := @look_none k v l
    have i2 := @look_none k v r
    unfold look has
    split
    · simp
    · split
      · exact i1
      · exact i2
theorem rise_eq {L : List Int} (h : RiseL tq L) {i j : Nat} (hi : i < L.length) (hj : j < L.length) (he : tq L[i] = tq L[j]) : i = j := by
  have hR := List.pairwise_iff_getElem.1 h
  rcases Nat.lt_trichotomy i j with h1 | h1 | h1
  · have := hR i j hi hj h1; omega
  · exact h1
  · have := hR j i hj hi h1; omega
theorem look_find {T : AT} {y i : Int} (hr : Rise tq T.inl) (h : FindR T.vals y i) : (∃ (x : Int) (k : Nat), look tq y T = some x ∧ i = k ∧ k < T.vals.length ∧ T.vals.getD k 0 = x) ∨ (look tq y T = none ∧ i = -1) := by
  rcases find_has hr h with ⟨h1, h2, _⟩ | ⟨h1, h2⟩
  · left
    cases hl : look tq y T with
    | none => rw [look_none] at hl; rw [hl] at h1; cases h1
    | some x =>
      obtain ⟨hm, hk⟩ := look_some hl
      rcases h with ⟨rfl, _⟩ | ⟨k, rfl, hkl, hkk⟩
      · omega
      · obtain ⟨j, hj, rfl⟩ := List.getElem_of_mem hm
        have hg : T.vals.getD k 0 = T.vals[k] := by simp [List.getD, hkl]
        rw [hg] at hkk
        obtain rfl := rise_eq (rise_vals hr) hj hkl (by rw [hkk, hk])
        exact ⟨_, j, rfl, rfl, hkl, hg⟩
  · exact Or.inr ⟨look_none.2 h1, h2⟩

set_option maxRecDepth 20000 in set_option maxHeartbeats 2000000 in
theorem law_avlplays_many (a : Option Addr) (n c : Nat) (w : World) (hn : 150 < n) : Calls Try.prog 3 #[.slice a n c] w fun e w' => e = .returned (.bool true) ∧ Below w.heap.size w w' := by
  have hn' : (150 : Int) < n := by omega
  go_enter Try.func3, Try.ntmps3
  go_wp2_with fail
  refine (New_any 9 w).mono ?_
  rintro e w1 ⟨rfl, e1⟩
  have B1 : Below w.heap.size w w1 := e1 ▸ ((IsGr.refl w).alloc _).below
  clear e1
  go_wp2_with fail
  refine (awake_any _).mono ?_
  rintro e w2 ⟨rfl, B2⟩
  go_wp2_with fail
  go_ret
  exact ⟨rfl, B1.trans (B2.mono B1.size)⟩

set_option maxRecDepth 20000 in set_option maxHeartbeats 2000000 in
theorem law_avlplays_few (a : Option Addr) (n c : Nat) (l : List (Int × Int)) (w : World) (h : Ops w a n l) (hn : n ≤ 150) : Calls Try.prog 3 #[.slice a n c] w fun e w' => e = .returned (.bool true) ∧ Below w.heap.size w w' := by
  have hn' : ¬ (150 : Int) < n := by omega
  have hn2 : (n : Int) ≤ 150 := by omega
  have HP : Hid (Ops w a n l) := h
  clear h
  go_enter Try.func3, Try.ntmps3
  go_wp2_with fail
  refine (New_any 9 w).mono ?_
  rintro e w1 ⟨rfl, e1⟩
  have B1 : Below w.heap.size w w1 := e1 ▸ ((IsGr.refl w).alloc _).below
  have S1 : Both w1 w.heap.size w.heap.size (.slice none 0 0) .nil := e1 ▸ New_Both w
  clear e1
  go_wp2_with fail
  go_loopg [4, 26] n (fun r p4 p24 wr => ∃ (k : Nat) (T : AT), k + r = n ∧ p24 = .int .i64 k ∧ Hid (Both wr w.heap.size w.heap.size p4 T ∧ T.inl.length ≤ k ∧ Below w.heap.size w wr) ∧ ∃ sa sn sc, p4 = .slice sa sn sc)
  case atStart => exact ⟨0, .nil, by omega, rfl, ⟨S1, by simp [AT.inl], B1⟩, none, 0, 0, rfl⟩
  case round =>
    clear S1 B1
    obtain ⟨k, T, hk, rfl, HB, sa, sn, sc, rfl⟩ := hrel
    by_cases hkn : k < n
    · obtain ⟨g, o, x, y, rfl, hy, hcs⟩ := HP.out.at hkn
      obtain ⟨c1, c2⟩ := hcs _ HB.out.2.2
      have hkn' : (k : Int) < n := by omega
      have e1 : IntKind.i64.wrap ((k : Int) + 1) = (k : Int) + 1 := by rw [IntKind.wrap_i64]; omega
      clear hcs
      have HA := (IsGr.refl wr).alloc (.cells #[.int .i64 x, .int .i64 y] 29)
      have b1 : (wr.alloc (.cells #[.int .i64 x, .int .i64 y] 29)).cell? ⟨wr.heap.size, 1, none⟩ = some (.int .i64 y) := by simp [go_sem]
      go_wp2_with fail
      refine (step_any w.heap.size w.heap.size _ T x y _ (HB.out.1.gr HA) (Nat.le_trans HB.out.2.2.size HA.size) (by have := HB.out.2.1; omega) hy).mono ?_
      rintro e w2 ⟨T', v', rfl, hB2, hbl, hlen, hwr⟩
      replace b1 := cell_wr b1 hwr (fun hm => by
        have h1 := HB.out.1.st
        rcases List.mem_cons.1 hm with e | e
        · have := h1.hd.lt; simp only at e; omega
        · have := h1.tree.lt _ e; simp only at this; omega)
      obtain ⟨sa', sc', rfl, hform⟩ := hB2.lst.form
      have HB2 : Hid (Both w2 w.heap.size w.heap.size (.slice sa' T'.vals.length sc') T' ∧ T'.inl.length ≤ k + 1 ∧ Below w.heap.size w w2) := ⟨hB2, by have := HB.out.2.1; omega, HB.out.2.2.trans ((HA.below.mono HB.out.2.2.size).trans hbl)⟩
      have HF : Hid (T'.vals = [] ∨ ∃ g, sa' = some ⟨g, 0, none⟩ ∧ w.heap.size ≤ g ∧ g < w2.heap.size ∧ ∀ i, i < T'.vals.length → w2.cell? ⟨g, i, none⟩ = some (.int .i64 (T'.vals.getD i 0))) := hform
      have CC := Check_any tens_ordr w2 hB2.st (by have := HB2.out.2.1; omega)
      have CL := fun w3 (hb : Below w2.heap.size w2 w3) => Len_any w3 (hB2.st.wr (Wr.of_below hb) (by simp))
      have CF := fun w3 (hb : Below w2.heap.size w2 w3) => Find_any w.heap.size _ T'.vals y w3 ((hB2.wr (Wr.of_below hb)).lst) (vals_64 hB2.st.ints) hy (by rw [vals_len]; have := HB2.out.2.1; omega)
      have CG := fun w3 z s (hb : Below w2.heap.size w2 w3) => Get_any tens_ordr y hy w3 (hB2.st.wr (Wr.of_below hb) (by simp)) z s
      rw [← vals_len] at CL
      obtain ⟨m, hm⟩ : ∃ m, T'.vals.length = m := ⟨_, rfl⟩
      rw [hm] at HB2 HF CL CF ⊢
      have HM : Hid (T'.vals.length = m) := hm
      clear hB2 hbl hlen HB c1 c2 HA hform hm hwr
      go_wp2_with fail
      refine CC.mono ?_
      rintro e w3 ⟨rfl, h3⟩
      have b3 := (h3.cell (p := ⟨wr.heap.size, 1, none⟩) (block_lt b1)).trans b1
      go_wp2_with fail
      refine (CL _ h3).mono ?_
      rintro e w4 ⟨rfl, e4⟩
      obtain rfl := e4.symm
      obtain ⟨z, s, hzs⟩ := Tells.of (look tq y T')
      have CG2 := fun w3 (hb : Below w2.heap.size w2 w3) => CG w3 z s hb hzs
      have HZ : Hid (Tells (look tq y T') z s) := hzs
      clear CC CL CG hzs
      go_wp2_with fail
      refine (CG2 _ h3).mono ?_
      rintro e w5 ⟨rfl, hg5⟩
      have h5 := h3.trans (hg5.below.mono h3.size)
      have b5 := (h5.cell (p := ⟨wr.heap.size, 1, none⟩) (block_lt b1)).trans b1
      go_wp2_with fail
      refine (CF _ h5).mono ?_
      rintro e w6 ⟨i, hi, rfl, e6⟩
      obtain rfl := e6.symm
      have HL := look_find HB2.out.1.st.rise hi
      have HB5 : Hid (Both w5 w.heap.size w.heap.size (.slice sa' m sc') T' ∧ T'.inl.length ≤ k + 1 ∧ Below w.heap.size w w5) := ⟨HB2.out.1.wr (Wr.of_below h5), HB2.out.2.1, HB2.out.2.2.trans (h5.mono HB2.out.2.2.size)⟩
      clear CF CG2 hi b1 b3 b5 h3 hg5
      rcases HL with ⟨x', j, hl, rfl, hj, hg⟩ | ⟨hl, rfl⟩
      · obtain ⟨e8, rfl⟩ : z = x' ∧ s = true := by have := HZ.out; rw [hl] at this; exact this
        have hcell : ∃ g, sa' = some ⟨g, 0, none⟩ ∧ w5.cell? ⟨g, j, none⟩ = some (.int .i64 z) := by
          rcases HF.out with h | ⟨g, h1, _, h3, h4⟩
          · rw [h] at hj; simp at hj
          · exact ⟨g, h1, (h5.cell (p := ⟨g, j, none⟩) h3).trans (by rw [h4 j (by have := HM.out; omega), hg, e8])⟩
        obtain ⟨g', rfl, hc⟩ := hcell
        have hjm : j < m := by have := HM.out; omega
        clear HZ hl hg e8 HF hj h5
        go_wp2_with fail
        go_roundg (n - (k + 1))
        case measure => omega
        case rel => exact ⟨k + 1, T', by omega, by simp, HB5, some ⟨g', 0, none⟩, m, sc', rfl⟩
      · obtain ⟨rfl, rfl⟩ : z = 0 ∧ s = false := by have := HZ.out; rw [hl] at this; exact this
        clear HZ hl HF h5
        go_wp2_with fail
        go_roundg (n - (k + 1))
        case measure => omega
        case rel => exact ⟨k + 1, T', by omega, by simp, HB5, sa', m, sc', rfl⟩
    · have hkn' : ¬ (k : Int) < n := by omega
      have Told := fun (Bt : Nat) (s : Int) (w1 : World) (hs : 0 ≤ s) (hg : Below wr.heap.size wr w1) (hc : w1.cell? ⟨Bt, 0, none⟩ = some (.pointer (some ⟨w.heap.size, 0, none⟩))) => told_yes w.heap.size w.heap.size Bt _ T s w1 (HB.out.1.wr (Wr.of_below hg)) hc (by have := HB.out.2.1; omega) hs
      go_wp2_with fail
      refine (All_any _ _).mono ?_
      rintro e w2 ⟨Bt, rfl, hbt, hg2⟩
      go_wp2_with fail
      refine (Told Bt 0 _ (by omega) hg2.below hbt).mono ?_
      rintro e w3 ⟨rfl, h3⟩
      have b3 := hg2.below.trans (h3.mono hg2.size)
      go_wp2_with fail
      refine (awake_any _).mono ?_
      rintro e w6 ⟨rfl, h6⟩
      have b6 := b3.trans (h6.mono b3.size)
      go_wp2_with fail
      go_ret
      exact ⟨rfl, HB.out.2.2.trans (b6.mono HB.out.2.2.size)⟩
theorem law_plays (a : Option Addr) (n c : Nat) (l : List (Int × Int)) (w : World) (h : Ops w a n l) : Calls Try.prog 3 #[.slice a n c] w fun e w' => e = .returned (.bool true) ∧ Below w.heap.size w w' := by
  by_cases hn : n ≤ 150
  · exact law_avlplays_few a n c l w h hn
  · exact law_avlplays_many a n c w (by omega)
end Go.Proofs.Ytaackkfegkmpkaa
