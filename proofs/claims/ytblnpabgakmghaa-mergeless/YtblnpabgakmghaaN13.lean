/- Contracts of package merge over the loaded program: Less. -/
import Derived.Test.YtblnpabgakmghaaN6
namespace Go.Proofs.Ytblnpabgakmghaa
open Go.RowKit Go.Shelf
attribute [local go_sem] Gr.size Gr.cell? Gr.frozen? Gr.setCell Gr.drew Gr.drewN Gr.of_drew Gr.of_drewN Gr.gr Gr.lt_of1 Gr.le_of1 Gr.lt_of2 Gr.le_of2 Gr.lt_of3 Gr.le_of3 Gr.lt_of4 Gr.le_of4 Gr.lt_of5 Gr.le_of5 Gr.lt_of6 Gr.le_of6 Gr.lt_of7 Gr.le_of7 Gr.lt_of8 Gr.le_of8 Gr.lt_of9 Gr.le_of9 Gr.lt_of10 Gr.le_of10 Gr.lt_of11 Gr.le_of11 Gr.lt_of12 Gr.le_of12 Gr.lt_of13 Gr.le_of13 Gr.lt_of14 Gr.le_of14 Gr.lt_of15 Gr.le_of15 Gr.lt_of16 Gr.le_of16 Gr.lt_of17 Gr.le_of17 Gr.lt_of18 Gr.le_of18 Gr.lt_of19 Gr.le_of19 Gr.lt_of20 Gr.le_of20 Gr.lt_of21 Gr.le_of21 Gr.lt_of22 Gr.le_of22 Gr.lt_of23 Gr.le_of23 Gr.lt_of24 Gr.le_of24
theorem les_ahead {k : Int → Int} {x y : Int} {g l : List Int} (h : k y < k x) (hs : Srt k (x :: l)) : les k (y :: g) (x :: l) = les k g (x :: l) :=
  les_skip fun z hz => by
    rcases List.mem_cons.1 hz with rfl | hz
    · exact h
    · have := hs.head z hz
      omega
theorem les_none {k : Int → Int} {x y : Int} {g l : List Int} (h : k x < k y) (hs : Srt k (y :: g)) : les k (y :: g) (x :: l) = x :: les k (y :: g) l := by
  rw [les_cons, if_neg]
  intro e
  obtain ⟨z, hz, e⟩ := List.any_eq_true.1 e
  have e := eq_of_beq e
  rcases List.mem_cons.1 hz with rfl | hz
  · omega
  · have := hs.head z hz
    omega
theorem les_same {k : Int → Int} {x y : Int} {g l : List Int} (h : k y = k x) : les k (y :: g) (x :: l) = les k (y :: g) l := by
  rw [les_cons, if_pos]
  simp [h]
theorem les_nil {k : Int → Int} {x : Int} {l : List Int} : les k [] (x :: l) = x :: les k [] l := by
  rw [les_cons]; rfl
theorem srt_drop {k : Int → Int} {l : List Int} (h : Srt k l) (i : Nat) : Srt k (l.drop i) := h.sublist (List.drop_sublist i l)
/-- On the way: o is told, i are passed, G is left. -/
structure LsR (k : Int → Int) (w : World) (base : Nat) (l g : List Int) (i : Nat) (o G : List Int) (vo vg : Value) (wr : World) : Prop where
  eq : o ++ les k G (l.drop i) = les k g l
  srt : Srt k G
  out : Lst wr base vo o
  rd : Rd wr vg G
  low : ∀ q, vg.ownBlock = some q → G ≠ [] → q < base
  len : o.length ≤ i
  bel : Below w.heap.size w wr
theorem LsR.gr {k : Int → Int} {w wr W : World} {base i : Nat} {l g o G : List Int} {vo vg : Value} (h : LsR k w base l g i o G vo vg wr) (hg : IsGr wr W) : LsR k w base l g i o G vo vg W :=
  ⟨h.eq, h.srt, h.out.gr hg, h.rd.gr hg, h.low, h.len, h.bel.trans (hg.below.mono h.bel.size)⟩

set_option maxRecDepth 20000 in set_option maxHeartbeats 2000000 in
theorem Less_any {f : Nat} {k : Int → Int} (hO : Ordr f k) (va vg : Value) (l g : List Int) (w : World) (ha : Rd w va l) (hg : Rd w vg g) (hl : Srt k l) (hgs : Srt k g) (hn : l.length ≤ 1000) :
    Calls Try.prog 21 #[va, vg, .func (.func f) #[] #[]] w fun e w' => ∃ v', e = .returned v' ∧ Lst w' w.heap.size v' (les k g l) ∧ Below w.heap.size w w' := by
  obtain ⟨i0, hi, hz0, hz1, hz2⟩ := info_parts info_int
  have CW := fun w => whole_any (f := f) w
  obtain ⟨a, c, rfl⟩ := ha.form
  obtain ⟨ag, cg, rfl⟩ := hg.form
  obtain ⟨m, hm⟩ : ∃ m, l.length = m := ⟨_, rfl⟩
  rw [hm] at ha hn ⊢
  have HH : Hid (Rd w (.slice a m c) l ∧ l.length = m ∧ Srt k l ∧ Ordr f k) := ⟨ha, hm, hl, hO⟩
  have HG : Hid (LsR k w w.heap.size l g 0 [] g (.slice none 0 0) (.slice ag g.length cg) w) := by
    refine ⟨rfl, hgs, Lst.nil _ _, hg, fun q e h0 => ?_, by simp, Below.refl _ _⟩
    obtain ⟨a', c', e', _, _, _, h3⟩ := hg
    injection e' with e1 e2 e3
    subst e1
    rcases h3 with h3 | ⟨g', o', rfl, h4, _⟩
    · exact absurd (List.length_eq_zero_iff.1 h3) h0
    · have e4 := Option.some.inj e
      simp only at e4
      omega
  have hE : ∀ args w, (callFunc f args).run Try.prog w = .ok (.enter f args) w := hO.1
  obtain ⟨mg, hmg⟩ : ∃ m, g.length = m := ⟨_, rfl⟩
  rw [hmg] at HG ⊢
  have hm' : (m : Int) ≤ 1000 := by omega
  clear ha hg hl hgs hO hm hmg
  go_enter Try.func21, Try.ntmps21
  go_wp2_with fail
  refine (CW _).mono ?_
  rintro e w1 ⟨rfl, e2⟩
  obtain rfl := e2.symm
  go_wp2_with fail
  go_loopg [1, 7, 14] m (fun r p1 p7 p14 wr => ∃ (i : Nat) (o G : List Int), i + r = m ∧ p14 = .int .i64 i ∧ Hid (LsR k w w.heap.size l g i o G p7 p1 wr))
  case atStart => exact ⟨0, [], g, by omega, rfl, HG⟩
  case round =>
    clear HG
    obtain ⟨i, o, G, hk, rfl, H⟩ := hrel
    obtain ⟨oa, oc, rfl, -⟩ := H.out.out.form
    by_cases him : i < m
    · obtain ⟨ga, oa2, rfl, -, -, hx64, -, ca⟩ := (HH.out.1.below H.out.bel).at him
      obtain ⟨x, hx⟩ : ∃ x, l.getD i 0 = x := ⟨_, rfl⟩
      rw [hx] at hx64 ca
      have HX : Hid (l.drop i = x :: l.drop (i + 1) ∧ i < m) := ⟨by rw [← hx]; exact drop_at (by have := HH.out.2.1; omega), him⟩
      have him' : (i : Int) < m := by omega
      have e1 : IntKind.i64.wrap ((i : Int) + 1) = (i : Int) + 1 := by rw [IntKind.wrap_i64]; omega
      obtain ⟨ag2, cg2, eG⟩ := H.out.rd.form
      subst eG
      obtain ⟨gO, hgO⟩ : ∃ G2, G2 = gk := ⟨_, rfl⟩
      subst hgO
      clear hx
      go_wp2_with fail
      go_loopg [1] G.length (fun r p1 w2 => ∃ G2 : List Int, r = G2.length ∧ Hid (LsR k w w.heap.size l g i o G2 (.slice oa o.length oc) p1 w2))
      case atStart => exact ⟨G, rfl, H⟩
      case round =>
        clear H ca
        obtain ⟨G2, hG2, H⟩ := hrel
        obtain ⟨ag3, cg3, eG⟩ := H.out.rd.form
        subst eG
        have hrow := H.out.out
        have HQL : Hid (o.length ≤ 1001) := by have := H.out.len; have := HX.out.2; show _ ≤ _; omega
        have HB : Hid (Below w.heap.size w wr) := H.out.bel
        have hbs : w.heap.size ≤ wr.heap.size := HB.out.size
        rcases G2 with _ | ⟨y, G2⟩
        · simp only [List.length_nil] at hG2 ⊢
          subst hG2
          go_wp2_with (at_builtin; refine wpList_append_own _ rfl _ _ 22 rfl w.heap.size 3 i0 (.int .i64 0) 1 8 Try.underlying22 hi hz0 hz1 hz2 rfl (by decide) (.slice oa o.length oc) _ _ rfl (World.ownsRow.alloc hrow _) ⟨wr.heap.size, 0, none⟩ 1 1 [.int .i64 x] rfl rfl (cell_one_new _ _ _) (fun u hu => by simp at hu; subst hu; rfl) (by unfold maxLen; have := HQL.out; omega) (by have := HQL.out; omega) (by have := HB.out.size; simp; omega) ?_; intro v1 w1 h1o h1g _; obtain ⟨g1, cap1, rfl⟩ := ownsRow_succ h1o; have HB1 : Hid (Below w.heap.size w w1) := HB.out.trans (((Below.refl _ wr).alloc HB.out.size _).trans (below_grow h1g (by have := HB.out.size; simp; omega) (fun k hk => (World.ownsRow.lt hrow k hk).1))))
          go_roundg (m - (i + 1))
          case measure => have := HX.out.2; omega
          case rel =>
            refine ⟨i + 1, o ++ [x], [], by have := HX.out.2; omega, by simp, ?_⟩
            have h1 := H.out.eq
            rw [HX.out.1, les_nil] at h1
            exact ⟨by rw [List.append_assoc]; exact h1, H.out.srt, Lst.snoc h1o, Rd.nil _ _ _, fun _ _ h => absurd rfl h, by have := H.out.len; simp; omega, HB1.out⟩
        · obtain ⟨gb, ob, rfl, -, hcb, hy64, -, cb⟩ := H.out.rd.at (k := 0) (by simp)
          simp only [List.getD_cons_zero, Nat.add_zero] at cb hy64
          have CO := fun w => HH.out.2.2.2.2 y x w hy64 hx64
          have HL : Hid (G2.length + 1 = (y :: G2).length ∧ (y :: G2).length = gk) := ⟨rfl, hG2.symm⟩
          obtain ⟨mg2, hmg2⟩ : ∃ m, (y :: G2).length = m := ⟨_, rfl⟩
          have HM : Hid ((y :: G2).length = mg2) := hmg2
          have hm0 : 0 < mg2 := by rw [← hmg2]; simp
          rw [hmg2] at hcb H HL ⊢
          rw [hmg2] at hG2
          have hm1 : (0 : Int) < mg2 := by omega
          have hm2 : ¬ (mg2 : Int) = 0 := by omega
          clear hmg2
          rcases Int.lt_trichotomy (k y) (k x) with hk | hk | hk
          · have HK : Hid (k y < k x) := hk
            have hR : ∀ ob', cg3 = 1 ∧ ob' = ob ∨ ob' = ob + 1 → Rd wr (.slice (some ⟨gb, ob', none⟩) (mg2 - 1) (cg3 - 1)) G2 := fun ob' h => rd_tail H.out.rd h
            by_cases hc1 : cg3 = 1
            · have hR0 := hR ob (Or.inl ⟨hc1, rfl⟩)
              obtain rfl : mg2 = 1 := by omega
              subst hc1
              go_wp2_with fail
              refine (CO _).mono ?_
              rintro e w2 ⟨z, hs, rfl, hg1⟩
              have d1 : decide (z < 0) = true := by unfold Sg at hs; exact decide_eq_true (by omega)
              have H2 : Hid (LsR k w w.heap.size l g i o G2 (.slice oa o.length oc) (.slice (some ⟨gb, ob, none⟩) 0 0) w2) := by
                have h0 := H.out
                refine LsR.gr ⟨?_, h0.srt.tail, h0.out, hR0, fun q e h => h0.low q e (by simp), h0.len, h0.bel⟩ hg1
                rw [← h0.eq, HX.out.1, les_ahead HK.out (by rw [← HX.out.1]; exact srt_drop HH.out.2.2.1 i)]
              clear hs CO hg1 hR hR0 H hrow HB hbs
              go_wp2_with fail
              go_roundg (gk - 1)
              case measure => have := HL.out; omega
              case rel =>
                have := HL.out
                exact ⟨G2, by omega, (show LsR k w w.heap.size l g i o G2 (.slice oa o.length oc) (.slice (some ⟨gb, ob, none⟩) 0 0) w2 from H2.out)⟩
            · go_wp2_with fail
              refine (CO _).mono ?_
              rintro e w2 ⟨z, hs, rfl, hg1⟩
              have d1 : decide (z < 0) = true := by unfold Sg at hs; exact decide_eq_true (by omega)
              have H2 : Hid (LsR k w w.heap.size l g i o G2 (.slice oa o.length oc) (.slice (some ⟨gb, ob + 1, none⟩) (mg2 - 1) (cg3 - 1)) w2) := by
                have h0 := H.out
                refine LsR.gr ⟨?_, h0.srt.tail, h0.out, hR (ob + 1) (Or.inr rfl), fun q e h => h0.low q e (by simp), h0.len, h0.bel⟩ hg1
                rw [← h0.eq, HX.out.1, les_ahead HK.out (by rw [← HX.out.1]; exact srt_drop HH.out.2.2.1 i)]
              have hm9 : (1 : Int) ≤ mg2 := by omega
              clear hs CO hg1 hR H hrow HB hbs
              go_wp2_with fail
              go_roundg (gk - 1)
              case measure => have := HL.out; omega
              case rel =>
                have := HL.out
                exact ⟨G2, by omega, H2.out⟩
          · have HK : Hid (k y = k x) := hk
            go_wp2_with fail
            refine (CO _).mono ?_
            rintro e w2 ⟨z, hs, rfl, hg1⟩
            have d1 : decide (z < 0) = false := by unfold Sg at hs; exact decide_eq_false (by omega)
            have cb2 := cellk cb hg1
            clear hs
            go_wp2_with fail
            refine (CO _).mono ?_
            rintro e w3 ⟨z2, hs, rfl, hg2⟩
            have d2 : (z2 != 0) = false := by unfold Sg at hs; simp; omega
            have H2 : Hid (LsR k w w.heap.size l g (i + 1) o (y :: G2) (.slice oa o.length oc) (.slice (some ⟨gb, ob, none⟩) mg2 cg3) w3) := by
              have h0 := H.out
              refine LsR.gr ⟨?_, h0.srt, h0.out, h0.rd, h0.low, by have := h0.len; omega, h0.bel⟩ (hg1.trans hg2)
              rw [← h0.eq, HX.out.1, les_same HK.out]
            clear hs CO hg1 hg2 H hrow HB hbs
            go_wp2_with fail
            go_roundg (m - (i + 1))
            case measure => have := HX.out.2; omega
            case rel => exact ⟨i + 1, o, y :: G2, by have := HX.out.2; omega, by simp, H2.out⟩
          · have HK : Hid (k x < k y) := hk
            go_wp2_with fail
            refine (CO _).mono ?_
            rintro e w1 ⟨z, hs, rfl, hg1⟩
            have d1 : decide (z < 0) = false := by unfold Sg at hs; exact decide_eq_false (by omega)
            have cb2 := cellk cb hg1
            clear hs
            go_wp2_with fail
            refine (CO _).mono ?_
            rintro e w2 ⟨z2, hs, rfl, hg2⟩
            have d2 : (z2 != 0) = true := by unfold Sg at hs; simp; omega
            have H2 : Hid (LsR k w w.heap.size l g i o (y :: G2) (.slice oa o.length oc) (.slice (some ⟨gb, ob, none⟩) mg2 cg3) w2) := H.out.gr (hg1.trans hg2)
            have hrow2 := H2.out.out
            have HB2 : Hid (Below w.heap.size w w2) := H2.out.bel
            clear hs CO hg1 hg2 hrow HB hbs H cb cb2
            have HB := HB2
            have hrow := hrow2
            have hbs : w.heap.size ≤ w2.heap.size := HB.out.size
            go_wp2_with (at_builtin; refine wpList_append_own _ rfl _ _ 22 rfl w.heap.size 3 i0 (.int .i64 0) 1 8 Try.underlying22 hi hz0 hz1 hz2 rfl (by decide) (.slice oa o.length oc) _ _ rfl (World.ownsRow.alloc hrow _) ⟨w2.heap.size, 0, none⟩ 1 1 [.int .i64 x] rfl rfl (cell_one_new _ _ _) (fun u hu => by simp at hu; subst hu; rfl) (by unfold maxLen; have := HQL.out; omega) (by have := HQL.out; omega) (by have := HB.out.size; simp; omega) ?_; intro v1 w1 h1o h1g _; obtain ⟨g1, cap1, rfl⟩ := ownsRow_succ h1o; have HB1 : Hid (Below w.heap.size w w1) := HB.out.trans (((Below.refl _ w2).alloc HB.out.size _).trans (below_grow h1g (by have := HB.out.size; simp; omega) (fun k hk => (World.ownsRow.lt hrow k hk).1))))
            have hb1w : Below w2.heap.size w2 (w2.alloc (.cells #[.int .i64 x] 3)) := ((IsGr.refl w2).alloc _).below
            go_roundg (m - (i + 1))
            case measure => have := HX.out.2; omega
            case rel =>
              refine ⟨i + 1, o ++ [x], y :: G2, by have := HX.out.2; omega, by simp, ?_⟩
              have h0 := H2.out
              have h1 := h0.eq
              rw [HX.out.1, les_none HK.out h0.srt] at h1
              refine ⟨by rw [List.append_assoc]; exact h1, h0.srt, Lst.snoc h1o, ?_, h0.low, by have := h0.len; simp; omega, HB1.out⟩
              have hlow := h0.low gb rfl (by simp)
              refine (h0.rd.gr ((IsGr.refl w2).alloc _)).wr (S := (Value.slice oa o.length oc).ownBlock.toList) ⟨h1g.os, h1g.tape, h1g.output, h1g.size, fun q hq hn => h1g.block q hq (fun e => hn (by rw [← e]; simp))⟩ (fun q e hm => ?_)
              have e1 : q = gb := (Option.some.inj e).symm
              have e2 : (Value.slice oa o.length oc).ownBlock = some q := by simpa using hm
              have := (own_block hrow2 q e2).1
              omega
    · have him' : ¬ (i : Int) < m := by omega
      have HE : Hid (o = les k g l) := by
        show o = les k g l
        have := H.out.eq
        rw [List.drop_eq_nil_of_le (by have := HH.out.2.1; omega)] at this
        simpa [les] using this
      go_wp2_with fail
      go_ret
      exact ⟨_, rfl, HE.out ▸ H.out.out, H.out.bel⟩
end Go.Proofs.Ytblnpabgakmghaa
