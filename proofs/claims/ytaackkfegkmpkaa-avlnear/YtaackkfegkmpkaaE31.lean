/- gromalaw05 over the loaded program: AvlNear's law. -/
import Derived.Test.YtaackkfegkmpkaaE30
namespace Go.Proofs.Ytaackkfegkmpkaa
open Go.RowKit Go.Shelf
attribute [local go_sem] Gr.size Gr.cell? Gr.frozen? Gr.setCell Gr.drew Gr.drewN Gr.of_drew Gr.of_drewN Gr.gr Gr.lt_of1 Gr.le_of1 Gr.lt_of2 Gr.le_of2 Gr.lt_of3 Gr.le_of3 Gr.lt_of4 Gr.le_of4 Gr.lt_of5 Gr.le_of5 Gr.lt_of6 Gr.le_of6 Gr.lt_of7 Gr.le_of7 Gr.lt_of8 Gr.le_of8 Gr.lt_of9 Gr.le_of9 Gr.lt_of10 Gr.le_of10 Gr.lt_of11 Gr.le_of11 Gr.lt_of12 Gr.le_of12 Gr.lt_of13 Gr.le_of13 Gr.lt_of14 Gr.le_of14 Gr.lt_of15 Gr.le_of15 Gr.lt_of16 Gr.le_of16 Gr.lt_of17 Gr.le_of17 Gr.lt_of18 Gr.le_of18 Gr.lt_of19 Gr.le_of19 Gr.lt_of20 Gr.le_of20 Gr.lt_of21 Gr.le_of21 Gr.lt_of22 Gr.le_of22 Gr.lt_of23 Gr.le_of23 Gr.lt_of24 Gr.le_of24
theorem Lst.cap {w : World} {base n c : Nat} {a : Option Addr} {L : List Int} (h : Lst w base (.slice a n c) L) : n ≤ c := by
  obtain ⟨h1, h2⟩ := h
  rcases h2 with ⟨h2, _⟩ | ⟨g, cap, cur, h2, _, _, h5, _⟩
  · injection h2 with _ e2 e3; omega
  · injection h2 with _ e2 e3; omega
theorem take_next {L : List Int} {j : Nat} (h : j < L.length) (P : Int → Bool) : (L.take (j + 1)).find? P = ((L.take j).find? P).or (if P (L.getD j 0) = true then some (L.getD j 0) else none) := by
  rw [List.take_succ_eq_append_getElem h, List.find?_append]
  simp [List.getD, h, List.find?_cons]
  split <;> simp_all
theorem take_prev {L : List Int} {j : Nat} (h : j < L.length) (P : Int → Bool) : (L.take (j + 1)).reverse.find? P = if P (L.getD j 0) = true then some (L.getD j 0) else (L.take j).reverse.find? P := by
  rw [List.take_succ_eq_append_getElem h, List.reverse_append]
  simp [List.getD, h, List.find?_cons]
  split <;> simp_all
/-- What stands of next and prev when j are over. -/
def NearL (L : List Int) (n : Int) (j : Nat) (o9 o10 : Option Int) : Prop := o9 = (L.take j).find? (fun x => decide (tq n < tq x)) ∧ o10 = (L.take j).reverse.find? (fun x => decide (tq x < tq n))

set_option maxRecDepth 20000 in set_option maxHeartbeats 2000000 in
theorem law_avlnear_many (a : Option Addr) (n c : Nat) (m : Int) (w : World) (hn : 150 < n) : Calls Try.prog 4 #[.slice a n c, .int .i64 m] w fun e w' => e = .returned (.bool true) ∧ Below w.heap.size w w' := by
  have hn' : (150 : Int) < n := by omega
  go_enter Try.func4, Try.ntmps4
  go_wp2_with fail
  refine (New_any 9 w).mono ?_
  rintro e w1 ⟨rfl, e1⟩
  have B1 : Below w.heap.size w w1 := e1 ▸ ((IsGr.refl w).alloc _).below
  clear e1
  go_wp2_with fail
  refine (awake_any _).mono ?_
  rintro e w2 ⟨rfl, B2⟩
  go_wp2_with fail
  go_ret
  exact ⟨rfl, B1.trans (B2.mono B1.size)⟩

set_option maxRecDepth 20000 in set_option maxHeartbeats 2000000 in
theorem near_loop (a : Option Addr) (n c : Nat) (l : List (Int × Int)) (N : Int) (hN : I64 N) (w : World) (h : Ops w a n l) (hn : n ≤ 150) : Calls Try.prog 4 #[.slice a n c, .int .i64 N] w fun e w' => e = .returned (.bool true) ∧ Below w.heap.size w w' := by
  have hn' : ¬ (150 : Int) < n := by omega
  have hn2 : (n : Int) ≤ 150 := by omega
  obtain ⟨i0, hi, hz0, hz1, hz2⟩ := info_parts info_int
  have HP : Hid (Ops w a n l) := h
  clear h
  go_enter Try.func4, Try.ntmps4
  go_wp2_with fail
  refine (New_any 9 w).mono ?_
  rintro e w1 ⟨rfl, e1⟩
  have B1 : Below w.heap.size w w1 := e1 ▸ ((IsGr.refl w).alloc _).below
  have S1 : Both w1 w.heap.size w.heap.size (.slice none 0 0) .nil := e1 ▸ New_Both w
  clear e1
  go_wp2_with fail
  go_loopg [6, 30] n (fun r p4 p24 wr => ∃ (k : Nat) (T : AT), k + r = n ∧ p24 = .int .i64 k ∧ Hid (Both wr w.heap.size w.heap.size p4 T ∧ T.inl.length ≤ k ∧ Below w.heap.size w wr) ∧ ∃ sa sn sc, p4 = .slice sa sn sc)
  case atStart => exact ⟨0, .nil, by omega, rfl, ⟨S1, by simp [AT.inl], B1⟩, none, 0, 0, rfl⟩
  case round =>
    clear S1 B1
    obtain ⟨k, T, hk, rfl, HB, sa, sn, sc, rfl⟩ := hrel
    by_cases hkn : k < n
    · obtain ⟨g, o, x, y, rfl, hy, hcs⟩ := HP.out.at hkn
      obtain ⟨c1, c2⟩ := hcs _ HB.out.2.2
      have hkn' : (k : Int) < n := by omega
      have e1 : IntKind.i64.wrap ((k : Int) + 1) = (k : Int) + 1 := by rw [IntKind.wrap_i64]; omega
      clear hcs
      have HA := (IsGr.refl wr).alloc (.cells #[.int .i64 x, .int .i64 y] 29)
      go_wp2_with fail
      refine (step_any w.heap.size w.heap.size _ T x y _ (HB.out.1.gr HA) (Nat.le_trans HB.out.2.2.size HA.size) (by have := HB.out.2.1; omega) hy).mono ?_
      rintro e w2 ⟨T', v', rfl, hB2, hbl, hlen, _⟩
      obtain ⟨sa', sc', rfl, _⟩ := hB2.lst.form
      have HB2 : Hid (Both w2 w.heap.size w.heap.size (.slice sa' T'.vals.length sc') T' ∧ T'.inl.length ≤ k + 1 ∧ Below w.heap.size w w2) := ⟨hB2, by have := HB.out.2.1; omega, HB.out.2.2.trans ((HA.below.mono HB.out.2.2.size).trans hbl)⟩
      clear hB2 hbl hlen HB c1 c2 HA hy
      go_wp2_with fail
      go_roundg (n - (k + 1))
      case measure => omega
      case rel => exact ⟨k + 1, T', by omega, by simp, HB2, sa', T'.vals.length, sc', rfl⟩
    · have hkn' : ¬ (k : Int) < n := by omega
      obtain ⟨W1, hW1⟩ : ∃ W1, W1 = wr := ⟨_, rfl⟩
      subst hW1
      obtain ⟨fa, fc, hfe, hform⟩ := HB.out.1.lst.form
      have hcap := HB.out.1.lst.cap
      injection hfe with q1 q2 q3
      obtain ⟨m, hm⟩ : ∃ m, T.vals.length = m := ⟨_, rfl⟩
      have hmn : sn = m := by omega
      subst hmn
      subst q1
      have HM : Hid (T.vals.length = sn) := hm
      have hsn : sn ≤ 150 := by rw [← hm, vals_len]; have := HB.out.2.1; omega
      have hcK : ∀ j, j < sn → ∃ g, sa = some ⟨g, 0, none⟩ ∧ ∀ W, Below W1.heap.size W1 W → W.cell? ⟨g, j, none⟩ = some (.int .i64 (T.vals.getD j 0)) := fun j hj => by
        rcases hform with hf | ⟨g, h1, _, h2, h3⟩
        · rw [hf] at hm; simp at hm; omega
        · exact ⟨g, h1, fun W hB => (hB.cell (p := ⟨g, j, none⟩) h2).trans (h3 j (by omega))⟩
      have h64 := vals_64 HB.out.1.st.ints
      clear hform hm q2 q3
      go_wp2_with fail
      go_loopg [9, 10, 44] sn (fun r p9 p10 p44 wr2 => ∃ (j : Nat) (o9 o10 : Option Int), j + r = sn ∧ p44 = .int .i64 j ∧ One wr2 p9 o9 ∧ (o9 = none → p9 = .slice none 0 0) ∧ One wr2 p10 o10 ∧ Hid (NearL T.vals N j o9 o10) ∧ Hid (Below W1.heap.size W1 wr2))
      case atStart => exact ⟨0, none, none, by omega, rfl, ⟨none, 0, rfl⟩, fun _ => rfl, ⟨none, 0, rfl⟩, ⟨by simp, by simp⟩, Below.refl _ _⟩
      case round =>
        obtain ⟨j, o9, o10, hj, rfl, h9, h9n, h10, hQ, HW⟩ := hrel
        obtain ⟨wr2, hw2⟩ : ∃ wr2, wr2 = wr := ⟨_, rfl⟩
        subst hw2
        by_cases hjn : j < sn
        · obtain ⟨g, rfl, hcell⟩ := hcK j hjn
          have hc := hcell _ HW.out
          have hjl : j < T.vals.length := by have := HM.out; omega
          have hx64 : I64 (T.vals.getD j 0) := h64 _ (by simp only [List.getD, List.getElem?_eq_getElem hjl, Option.getD_some]; exact List.getElem_mem hjl)
          have hT1 := take_next hjl (fun x => decide (tq N < tq x))
          have hT2 := take_prev hjl (fun x => decide (tq x < tq N))
          obtain ⟨x, hx⟩ : ∃ x, T.vals.getD j 0 = x := ⟨_, rfl⟩
          rw [hx] at hc hx64 hT1 hT2
          have CT := fun w => tens_any x N hx64 hN w
          have hsg := tensI_sg x N
          obtain ⟨d, hd⟩ : ∃ d, tensI x N = d := ⟨_, rfl⟩
          simp only [hd] at CT hsg
          have hjn' : (j : Int) < sn := by omega
          have e1 : IntKind.i64.wrap ((j : Int) + 1) = (j : Int) + 1 := by rw [IntKind.wrap_i64]; omega
          have hQ1 := hQ.out
          unfold NearL at hQ1
          clear hcK hcell hx hd hx64
          rcases Int.lt_trichotomy (tq x) (tq N) with hk | hk | hk
          · -- ahead: prev
            obtain d1 := hsg.cases.1 hk
            have d2 : decide (0 < d) = false := decide_eq_false (by unfold Sg at hsg; omega)
            have HQ' : Hid (NearL T.vals N (j + 1) o9 (some x)) := ⟨by rw [hT1, if_neg (by simp; omega), ← hQ1.1]; simp, by rw [hT2, if_pos (by simpa using hk)]⟩
            clear hT1 hT2 hQ1 hsg hk hQ
            go_wp2_with fail
            refine (CT _).mono ?_
            rintro e w3 ⟨rfl, e3⟩
            obtain rfl := e3.symm
            go_wp2_with fail
            refine (CT _).mono ?_
            rintro e w3 ⟨rfl, e3⟩
            obtain rfl := e3.symm
            go_wp2_with fail
            have hg : IsGr wr2 (wr2.alloc (.cells #[.int .i64 x] 3)) := (IsGr.refl _).alloc _
            go_roundg (sn - (j + 1))
            case measure => omega
            case rel => exact ⟨j + 1, o9, some x, by omega, by simp, h9.gr hg.below, h9n, ⟨_, _, _, rfl, (cell_new _ _ _).1⟩, HQ', HW.out.trans (hg.below.mono HW.out.size)⟩
          · -- the same
            obtain ⟨d1, d2⟩ := hsg.cases.2.1 hk
            have HQ' : Hid (NearL T.vals N (j + 1) o9 o10) := ⟨by rw [hT1, if_neg (by simp; omega), ← hQ1.1]; simp, by rw [hT2, if_neg (by simp; omega), ← hQ1.2]⟩
            clear hT1 hT2 hQ1 hsg hk hQ
            go_wp2_with fail
            refine (CT _).mono ?_
            rintro e w3 ⟨rfl, e3⟩
            obtain rfl := e3.symm
            go_wp2_with fail
            refine (CT _).mono ?_
            rintro e w3 ⟨rfl, e3⟩
            obtain rfl := e3.symm
            go_wp2_with fail
            go_roundg (sn - (j + 1))
            case measure => omega
            case rel => exact ⟨j + 1, o9, o10, by omega, by simp, h9, h9n, h10, HQ', HW⟩
          · -- behind: next
            obtain ⟨d1, d2⟩ := hsg.cases.2.2 hk
            cases o9 with
            | none =>
              obtain rfl := h9n rfl
              have HQ' : Hid (NearL T.vals N (j + 1) (some x) o10) := ⟨by rw [hT1, if_pos (by simpa using hk), ← hQ1.1]; simp, by rw [hT2, if_neg (by simp; omega), ← hQ1.2]⟩
              clear hT1 hT2 hQ1 hsg hk hQ h9n h9
              go_wp2_with fail
              refine (CT _).mono ?_
              rintro e w3 ⟨rfl, e3⟩
              obtain rfl := e3.symm
              go_wp2_with (at_builtin; refine wpList_append_own _ rfl _ _ 27 rfl W1.heap.size 3 i0 (.int .i64 0) 1 8 Try.underlying27 hi hz0 hz1 hz2 rfl (by decide) (.slice none 0 0) 0 [] rfl (World.ownsRow_nil _ _ _ _) ⟨wr2.heap.size, 0, none⟩ 1 1 [.int .i64 x] rfl rfl (cell_one_new _ _ _) (fun u hu => by simp at hu; subst hu; rfl) (by unfold maxLen; omega) (by omega) (by have := HW.out.size; simp; omega) ?_; intro v1 w5 h1o h1g _; obtain ⟨g1, cap1, rfl⟩ := ownsRow_succ h1o; have HW5 : Hid (Below W1.heap.size W1 w5) := HW.out.trans ((((Below.refl _ wr2).alloc HW.out.size _)).trans (below_grow h1g (by have := HW.out.size; simp; omega) (fun k hk => by cases hk))); have hb5 : Below wr2.heap.size wr2 w5 := (((Below.refl _ wr2).alloc (Nat.le_refl _) _)).trans (below_grow h1g (by simp) (fun k hk => by cases hk)))
              refine (CT _).mono ?_
              rintro e w3 ⟨rfl, e3⟩
              obtain rfl := e3.symm
              go_wp2_with fail
              go_roundg (sn - (j + 1))
              case measure => omega
              case rel =>
                refine ⟨j + 1, some x, o10, by omega, by simp, ⟨g1, 0, cap1, rfl, ?_⟩, (fun h => by cases h), h10.gr hb5, HQ', HW5⟩
                have := World.ownsRow.cellAt h1o 0 (by omega)
                simpa using this
            | some x9 =>
              have h9' := h9
              obtain ⟨b9, i9, c9, rfl, hc9⟩ := h9
              have HQ' : Hid (NearL T.vals N (j + 1) (some x9) o10) := ⟨by rw [hT1, ← hQ1.1]; simp, by rw [hT2, if_neg (by simp; omega), ← hQ1.2]⟩
              clear hT1 hT2 hQ1 hsg hk hQ h9n hc9
              go_wp2_with fail
              refine (CT _).mono ?_
              rintro e w3 ⟨rfl, e3⟩
              obtain rfl := e3.symm
              go_wp2_with fail
              refine (CT _).mono ?_
              rintro e w3 ⟨rfl, e3⟩
              obtain rfl := e3.symm
              go_wp2_with fail
              go_roundg (sn - (j + 1))
              case measure => omega
              case rel => exact ⟨j + 1, some x9, o10, by omega, by simp, h9', (fun h => by cases h), h10, HQ', HW⟩
        · have hj2 : j = sn := by omega
          subst hj2
          have hQ1 := hQ.out
          unfold NearL at hQ1
          rw [List.take_of_length_le (by have := HM.out; omega)] at hQ1
          have hBoth : Both wr2 w.heap.size w.heap.size (.slice sa j sc) T := HB.out.1.wr (Wr.of_below HW.out)
          have hlen := HB.out.2.1
          have hrise := hBoth.st.rise
          have hN0 : topv (next0 tq N T .nil) = o9 := by rw [next0_find hrise, hQ1.1]; simp [topv]
          have hN1 : topv (next1 tq N T .nil) = o10 := by rw [next1_find hrise, hQ1.2]; simp [topv]
          have HT : Hid (Below w.heap.size w wr2) := HB.out.2.2.trans (HW.out.mono HB.out.2.2.size)
          obtain ⟨z1, s1, hz1⟩ := Tells.of (topv (next0 tq N T .nil))
          obtain ⟨z2, s2, hz2⟩ := Tells.of (topv (next1 tq N T .nil))
          obtain ⟨z3, s3, hz3⟩ := Tells.of (end0 T)
          obtain ⟨z4, s4, hz4⟩ := Tells.of (end1 T)
          have C1 := fun w' (hb : Below wr2.heap.size wr2 w') => Next_any tens_ordr N hN w' (hBoth.st.wr (Wr.of_below hb) (by simp)) z1 s1 hz1
          have C2 := fun w' (hb : Below wr2.heap.size wr2 w') => Prev_any tens_ordr N hN w' (hBoth.st.wr (Wr.of_below hb) (by simp)) z2 s2 hz2
          have C3 := fun w' (hb : Below wr2.heap.size wr2 w') => First_any w' (hBoth.st.wr (Wr.of_below hb) (by simp)) z3 s3 hz3
          have C4 := fun w' (hb : Below wr2.heap.size wr2 w') => Last_any w' (hBoth.st.wr (Wr.of_below hb) (by simp)) z4 s4 hz4
          rw [hN0] at hz1
          rw [hN1] at hz2
          have O1 := fun w' (hb : Below wr2.heap.size wr2 w') b0 b1 h0 h1 => one1_any u9 o9 z1 s1 b0 b1 w' hz1 (h9.gr hb) h0 h1
          have O2 := fun w' (hb : Below wr2.heap.size wr2 w') b0 b1 h0 h1 => one1_any u10 o10 z2 s2 b0 b1 w' hz2 (h10.gr hb) h0 h1
          have O3 := fun v w' (ho : One w' v (end0 T)) b0 b1 h0 h1 => one1_any v _ z3 s3 b0 b1 w' hz3 ho h0 h1
          have O4 := fun v w' (ho : One w' v (end1 T)) b0 b1 h0 h1 => one1_any v _ z4 s4 b0 b1 w' hz4 ho h0 h1
          have hE0 : end0 T = T.vals.head? := rfl
          have hE1 : end1 T = T.vals.getLast? := rfl
          obtain ⟨E0, hE0'⟩ : ∃ E0, end0 T = E0 := ⟨_, rfl⟩
          obtain ⟨E1, hE1'⟩ : ∃ E1, end1 T = E1 := ⟨_, rfl⟩
          rw [hE0'] at O3 hE0
          rw [hE1'] at O4 hE1
          have HE : Hid (E0 = T.vals.head? ∧ E1 = T.vals.getLast?) := ⟨hE0, hE1⟩
          clear hz1 hz2 hz3 hz4 hQ hQ1 h9n h9 h10 hBoth hlen hrise hN0 hN1 hE0 hE1 hE0' hE1' HB h64 hj
          by_cases hj0 : j = 0
          · subst hj0
            have HE2 : Hid (E0 = none ∧ E1 = none) := by
              have h1 := HM.out
              have h2 := HE.out
              rw [List.length_eq_zero_iff.1 h1] at h2
              exact h2
            have b0c := Below.refl wr2.heap.size wr2
            go_wp2_with fail
            refine (C1 _ b0c).mono ?_
            rintro e x1 ⟨rfl, g1⟩
            have b1a := b0c.trans (g1.below.mono b0c.size)
            go_wp2_with fail
            refine (one_any z1 s1 _).mono ?_
            rintro e y1 ⟨p1, q1, rfl, ⟨k1, l1⟩, h1⟩
            have b1b := b1a.trans (h1.below.mono b1a.size)
            go_wp2_with fail
            refine (O1 _ b1b p1 q1 k1 l1).mono ?_
            rintro e t1 ⟨rfl, m1⟩
            have b1c := b1b.trans (m1.below.mono b1b.size)
            clear g1 h1 m1 k1 l1 b1a b1b
            go_wp2_with fail
            refine (C2 _ b1c).mono ?_
            rintro e x2 ⟨rfl, g2⟩
            have b2a := b1c.trans (g2.below.mono b1c.size)
            go_wp2_with fail
            refine (one_any z2 s2 _).mono ?_
            rintro e y2 ⟨p2, q2, rfl, ⟨k2, l2⟩, h2⟩
            have b2b := b2a.trans (h2.below.mono b2a.size)
            go_wp2_with fail
            refine (O2 _ b2b p2 q2 k2 l2).mono ?_
            rintro e t2 ⟨rfl, m2⟩
            have b2c := b2b.trans (m2.below.mono b2b.size)
            clear g2 h2 m2 k2 l2 b2a b2b
            go_wp2_with fail
            refine (C3 _ b2c).mono ?_
            rintro e x3 ⟨rfl, g3⟩
            have b3a := b2c.trans (g3.below.mono b2c.size)
            go_wp2_with fail
            refine (one_any z3 s3 _).mono ?_
            rintro e y3 ⟨p3, q3, rfl, ⟨k3, l3⟩, h3⟩
            have b3b := b3a.trans (h3.below.mono b3a.size)
            go_wp2_with fail
            refine (O3 (.slice none 0 0) _ (by rw [HE2.out.1]; exact ⟨none, 0, rfl⟩) p3 q3 k3 l3).mono ?_
            rintro e t3 ⟨rfl, m3⟩
            have b3c := b3b.trans (m3.below.mono b3b.size)
            clear g3 h3 m3 k3 l3 b3a b3b
            go_wp2_with fail
            refine (C4 _ b3c).mono ?_
            rintro e x4 ⟨rfl, g4⟩
            have b4a := b3c.trans (g4.below.mono b3c.size)
            go_wp2_with fail
            refine (one_any z4 s4 _).mono ?_
            rintro e y4 ⟨p4, q4, rfl, ⟨k4, l4⟩, h4⟩
            have b4b := b4a.trans (h4.below.mono b4a.size)
            go_wp2_with fail
            refine (O4 (.slice none 0 0) _ (by rw [HE2.out.2]; exact ⟨none, 0, rfl⟩) p4 q4 k4 l4).mono ?_
            rintro e t4 ⟨rfl, m4⟩
            have b4c := b4b.trans (m4.below.mono b4b.size)
            clear g4 h4 m4 k4 l4 b4a b4b
            go_wp2_with fail
            refine (awake_any _).mono ?_
            rintro e y5 ⟨rfl, h5⟩
            have b5 := b4c.trans (h5.mono b4c.size)
            go_wp2_with fail
            go_ret
            exact ⟨rfl, HT.out.trans (b5.mono HT.out.size)⟩
          · obtain ⟨i, rfl⟩ : ∃ i, j = i + 1 := ⟨j - 1, by omega⟩
            obtain ⟨g, rfl, hcg⟩ := hcK 0 (by omega)
            obtain ⟨g', hgg, hcl⟩ := hcK i (by omega)
            obtain rfl : g = g' := by injection hgg with e; injection e
            have hj1 : (0 : Int) < ((i + 1 : Nat) : Int) := by omega
            have ew : IntKind.i64.wrap (i : Int) = (i : Int) := by rw [IntKind.wrap_i64]; omega
            have c1 : (1 : Int) ≤ (sc : Nat) := by omega
            have c2 : ¬ sc = i := by omega
            have c3 : (i : Int) ≤ (i : Int) + 1 := by omega
            have HE3 : Hid (E0 = some (T.vals.getD 0 0) ∧ E1 = some (T.vals.getD i 0)) := by
              have h1 := HM.out
              have h2 := HE.out
              have h3 : T.vals ≠ [] := fun h => by rw [h] at h1; simp at h1
              refine ⟨by rw [h2.1, List.head?_eq_getElem?]; simp [List.getD, h1], by rw [h2.2, List.getLast?_eq_getElem?]; simp [List.getD, h1]⟩
            go_upto_region 21 with fail
            obtain ⟨C, hin, hcl, hcells, hgr⟩ : ∃ C : World → Prop, (∀ w', IsGr wr2 w' → C w') ∧ (∀ u u', C u → IsGr u u' → C u') ∧ (∀ w', C w' → True) ∧ (∀ w', C w' → IsGr wr2 w') := ⟨fun w' => IsGr wr2 w', fun _ h => h, fun _ _ h k => h.trans k, fun w' hg => trivial, fun _ h => h⟩
            refine wp_region_quietV C (by kernel_rfl) (by kernel_rfl) (hin _ (by with_reducible repeat (first | exact IsGr.refl _ | refine IsGr.gr ?_ _ _ | refine IsGr.alloc ?_ _ | refine IsGr.drew ?_ | refine IsGr.drewN ?_ _))) (fun K HK => ?_)
            refine QK.take HK ?_ (by rfl) ?_ ?_
            rotate_left
            · (intro w hw; (try have hcs := hcells w hw); (try go_split_ands); go_simp <;> with_reducible rfl)
            (try simp only [Act.put, List.setIfInBounds_toArray, List.set_cons_zero, List.set_cons_succ])
            refine QK.take HK ?_ (by rfl) ?_ ?_
            rotate_left
            · (intro w hw; (try have hcs := hcells w hw); (try go_split_ands); go_simp <;> with_reducible rfl)
            (try simp only [Act.put, List.setIfInBounds_toArray, List.set_cons_zero, List.set_cons_succ])
            refine QK.take HK ?_ (by rfl) ?_ ?_
            rotate_left
            · (intro w hw; (try have hcs := hcells w hw); (try go_split_ands); go_simp <;> with_reducible rfl)
            (try simp only [Act.put, List.setIfInBounds_toArray, List.set_cons_zero, List.set_cons_succ])
            refine QK.take HK ?_ (by rfl) ?_ ?_
            rotate_left
            · (intro w hw; (try have hcs := hcells w hw); (try go_split_ands); go_simp <;> with_reducible rfl)
            (try simp only [Act.put, List.setIfInBounds_toArray, List.set_cons_zero, List.set_cons_succ])
            refine QK.take HK ?_ (by rfl) ?_ ?_
            rotate_left
            · (intro w hw; (try have hcs := hcells w hw); (try go_split_ands); go_simp <;> with_reducible rfl)
            (try simp only [Act.put, List.setIfInBounds_toArray, List.set_cons_zero, List.set_cons_succ])
            refine QK.take HK ?_ (by rfl) ?_ ?_
            rotate_left
            · (intro w hw; (try have hcs := hcells w hw); (try go_split_ands); go_simp <;> with_reducible rfl)
            (try simp only [Act.put, List.setIfInBounds_toArray, List.set_cons_zero, List.set_cons_succ])
            refine QK.take HK ?_ (by rfl) ?_ ?_
            rotate_left
            · (intro w hw; (try have hcs := hcells w hw); (try go_split_ands); go_simp <;> with_reducible rfl)
            (try simp only [Act.put, List.setIfInBounds_toArray, List.set_cons_zero, List.set_cons_succ])
            refine QK.take HK ?_ (by rfl) ?_ ?_
            rotate_left
            · (intro w hw; (try have hcs := hcells w hw); (try go_split_ands); go_simp <;> with_reducible rfl)
            (try simp only [Act.put, List.setIfInBounds_toArray, List.set_cons_zero, List.set_cons_succ])
            refine QK.take HK ?_ (by rfl) ?_ ?_
            rotate_left
            · (intro w hw; (try have hcs := hcells w hw); (try go_split_ands); go_simp <;> with_reducible rfl)
            (try simp only [Act.put, List.setIfInBounds_toArray, List.set_cons_zero, List.set_cons_succ])
            refine QK.nil HK ?_
            clear HK K
            intro wq hq
            have b0c := (hgr wq hq).below
            clear hcells hin hcl hgr hq
            go_wp2_with fail
            refine (C1 _ b0c).mono ?_
            rintro e x1 ⟨rfl, g1⟩
            have b1a := b0c.trans (g1.below.mono b0c.size)
            go_wp2_with fail
            refine (one_any z1 s1 _).mono ?_
            rintro e y1 ⟨p1, q1, rfl, ⟨k1, l1⟩, h1⟩
            have b1b := b1a.trans (h1.below.mono b1a.size)
            go_wp2_with fail
            refine (O1 _ b1b p1 q1 k1 l1).mono ?_
            rintro e t1 ⟨rfl, m1⟩
            have b1c := b1b.trans (m1.below.mono b1b.size)
            clear g1 h1 m1 k1 l1 b1a b1b
            go_wp2_with fail
            refine (C2 _ b1c).mono ?_
            rintro e x2 ⟨rfl, g2⟩
            have b2a := b1c.trans (g2.below.mono b1c.size)
            go_wp2_with fail
            refine (one_any z2 s2 _).mono ?_
            rintro e y2 ⟨p2, q2, rfl, ⟨k2, l2⟩, h2⟩
            have b2b := b2a.trans (h2.below.mono b2a.size)
            go_wp2_with fail
            refine (O2 _ b2b p2 q2 k2 l2).mono ?_
            rintro e t2 ⟨rfl, m2⟩
            have b2c := b2b.trans (m2.below.mono b2b.size)
            clear g2 h2 m2 k2 l2 b2a b2b
            go_wp2_with fail
            refine (C3 _ b2c).mono ?_
            rintro e x3 ⟨rfl, g3⟩
            have b3a := b2c.trans (g3.below.mono b2c.size)
            go_wp2_with fail
            refine (one_any z3 s3 _).mono ?_
            rintro e y3 ⟨p3, q3, rfl, ⟨k3, l3⟩, h3⟩
            have b3b := b3a.trans (h3.below.mono b3a.size)
            go_wp2_with fail
            refine (O3 (.slice (some ⟨g, 0, none⟩) 1 sc) _ (by rw [HE3.out.1]; exact ⟨g, 0, sc, rfl, hcg _ (HW.out.trans (b3b.mono HW.out.size))⟩) p3 q3 k3 l3).mono ?_
            rintro e t3 ⟨rfl, m3⟩
            have b3c := b3b.trans (m3.below.mono b3b.size)
            clear g3 h3 m3 k3 l3 b3a b3b
            go_wp2_with fail
            refine (C4 _ b3c).mono ?_
            rintro e x4 ⟨rfl, g4⟩
            have b4a := b3c.trans (g4.below.mono b3c.size)
            go_wp2_with fail
            refine (one_any z4 s4 _).mono ?_
            rintro e y4 ⟨p4, q4, rfl, ⟨k4, l4⟩, h4⟩
            have b4b := b4a.trans (h4.below.mono b4a.size)
            go_wp2_with fail
            refine (O4 (.slice (some ⟨g, i, none⟩) 1 (sc - i)) _ (by rw [HE3.out.2]; exact ⟨g, i, sc - i, rfl, hcl _ (HW.out.trans (b4b.mono HW.out.size))⟩) p4 q4 k4 l4).mono ?_
            rintro e t4 ⟨rfl, m4⟩
            have b4c := b4b.trans (m4.below.mono b4b.size)
            clear g4 h4 m4 k4 l4 b4a b4b
            go_wp2_with fail
            refine (awake_any _).mono ?_
            rintro e y5 ⟨rfl, h5⟩
            have b5 := b4c.trans (h5.mono b4c.size)
            go_wp2_with fail
            go_ret
            exact ⟨rfl, HT.out.trans (b5.mono HT.out.size)⟩
theorem law_near (a : Option Addr) (n c : Nat) (l : List (Int × Int)) (m : Int) (h1 : -9223372036854775808 ≤ m) (h2 : m < 9223372036854775808) (w : World) (h : Ops w a n l) : Calls Try.prog 4 #[.slice a n c, .int .i64 m] w fun e w' => e = .returned (.bool true) ∧ Below w.heap.size w w' := by
  by_cases hn : n ≤ 150
  · exact near_loop a n c l m ⟨h1, h2⟩ w h hn
  · exact law_avlnear_many a n c m w (by omega)
end Go.Proofs.Ytaackkfegkmpkaa
