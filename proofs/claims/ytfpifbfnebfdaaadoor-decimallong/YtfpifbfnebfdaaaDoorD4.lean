/- Package lex over the loaded program: Right. -/
import Derived.Test.YtfpifbfnebfdaaaDoorD3
namespace Go.Proofs.YtfpifbfnebfdaaaDoor
open Go.RowKit Go.Shelf
attribute [local go_sem] Gr.size Gr.cell? Gr.frozen? Gr.setCell Gr.drew Gr.drewN Gr.of_drew Gr.of_drewN Gr.gr Gr.lt_of1 Gr.le_of1 Gr.lt_of2 Gr.le_of2 Gr.lt_of3 Gr.le_of3 Gr.lt_of4 Gr.le_of4 Gr.lt_of5 Gr.le_of5 Gr.lt_of6 Gr.le_of6 Gr.lt_of7 Gr.le_of7 Gr.lt_of8 Gr.le_of8 Gr.lt_of9 Gr.le_of9 Gr.lt_of10 Gr.le_of10 Gr.lt_of11 Gr.le_of11 Gr.lt_of12 Gr.le_of12 Gr.lt_of13 Gr.le_of13 Gr.lt_of14 Gr.le_of14 Gr.lt_of15 Gr.le_of15 Gr.lt_of16 Gr.le_of16 Gr.lt_of17 Gr.le_of17 Gr.lt_of18 Gr.le_of18 Gr.lt_of19 Gr.le_of19 Gr.lt_of20 Gr.le_of20 Gr.lt_of21 Gr.le_of21 Gr.lt_of22 Gr.le_of22 Gr.lt_of23 Gr.le_of23 Gr.lt_of24 Gr.le_of24
theorem tw_drop0 (p : Int → Bool) (l : List Int) : tw p (l.drop (tw p l)) = 0 := by
  cases h : l.drop (tw p l) with
  | nil => rfl
  | cons c r => rw [tw_cons, drop_tw l c r h]; rfl
theorem rgt_parts {b l1 l2 l3 l4 : List Int} {n1 n2 : Nat} (h1 : l1 = b.drop (sg9 b)) (hn1 : tw dgB l1 = n1) (h2 : l2 = l1.drop n1) (h3 : l3 = dotL l2) (hn2 : tw dgB l3 = n2) (h4 : l4 = l3.drop n2) :
    rgtB b = (decide (n1 + n2 ≠ 0) && endB l4) := by
  subst h1 hn1 h2
  by_cases h : ∃ r, (b.drop (sg9 b)).drop (tw dgB (b.drop (sg9 b))) = 46 :: r
  · obtain ⟨r, hr⟩ := h
    have h5 : l3 = r := by rw [h3, hr]; rfl
    subst h5
    rw [rgt_dot hr, hn2, h4]
  · have h5 : ∀ r, (b.drop (sg9 b)).drop (tw dgB (b.drop (sg9 b))) ≠ 46 :: r := fun r hr => h ⟨r, hr⟩
    have h6 : l3 = (b.drop (sg9 b)).drop (tw dgB (b.drop (sg9 b))) := by
      rw [h3]
      unfold dotL
      rw [if_neg]
      intro h7
      cases hl : (b.drop (sg9 b)).drop (tw dgB (b.drop (sg9 b))) with
      | nil => rw [hl] at h7; simp at h7
      | cons c r => rw [hl] at h7; simp at h7; exact h5 r (by rw [hl, h7])
    have h7 : n2 = 0 := by rw [← hn2, h6, tw_drop0]
    subst h7
    rw [rgt_whole h5, h4, h6]
    rfl
theorem end_cons {l : List Int} {c : Int} (h : l.getD 0 0 = c) (hl : 0 < l.length) : endB l = if c = 101 ∨ c = 69 then powB (l.drop 1) else false := by
  cases l with
  | nil => simp at hl
  | cons x r => simp at h; subst h; rw [endB_cons]; rfl
set_option maxRecDepth 20000 in set_option maxHeartbeats 2000000 in
theorem lright_any (s : ByteArray) (w : World) (hs : s.size ≤ 100000) : Calls Tryd.prog 34 #[.string s] w fun e w' => e = .returned (.bool (rgtB (bts s))) ∧ IsGr w w' := by
  have CU := lunsigned_any s w hs
  clear hs
  go_enter Tryd.func34, Tryd.ntmps34
  go_wp2_with fail
  refine CU.mono ?_
  clear CU
  rintro e w1 ⟨⟨s1, rfl, hb1, hs1⟩, e1⟩
  obtain rfl := e1.symm
  have CD := ldigits_any s1 w hs1
  have HB1 : Hid (bts s1 = (bts s).drop (sg9 (bts s))) := hb1.1
  have HL1 : Hid (s1.size ≤ 100000) := hs1
  clear hb1 hs1
  go_wp2_with fail
  refine CD.mono ?_
  clear CD
  rintro e w2 ⟨⟨s2, rfl, hb2, hs2⟩, hg2⟩
  obtain ⟨n1, hn1⟩ : ∃ n, tw dgB (bts s1) = n := ⟨_, rfl⟩
  rw [hn1] at hb2 ⊢
  have HN1 : Hid (tw dgB (bts s1) = n1 ∧ n1 ≤ 100000) := ⟨hn1, by have := tw_le dgB (bts s1); rw [bts_len] at this; have := HL1.out; omega⟩
  have HB2 : Hid (bts s2 = (bts s1).drop n1) := hb2.1
  have HG2 : Hid (IsGr w w2) := hg2
  have CP := cutPrefix_any s2 w2 hs2
  clear hn1 hb2 hg2 hs2
  go_wp2_with fail
  refine CP.mono ?_
  clear CP
  rintro e w3 ⟨⟨s3, bb, rfl, hb3, hs3⟩, e3⟩
  obtain rfl := e3.symm
  have CD := ldigits_any s3 w2 hs3
  have HB3 : Hid (bts s3 = dotL (bts s2)) := hb3.1
  have HL3 : Hid (s3.size ≤ 100000) := hs3
  clear hb3 hs3
  go_wp2_with fail
  refine CD.mono ?_
  clear CD
  rintro e w4 ⟨⟨s4, rfl, hb4, hs4⟩, hg4⟩
  obtain ⟨n2, hn2⟩ : ∃ n, tw dgB (bts s3) = n := ⟨_, rfl⟩
  rw [hn2] at hb4 ⊢
  have hP : rgtB (bts s) = (decide (n1 + n2 ≠ 0) && endB (bts s4)) := rgt_parts HB1.out HN1.out.1 HB2.out HB3.out hn2 hb4.1
  have HG4 : Hid (IsGr w w4) := HG2.out.trans hg4
  have hn : IntKind.i64.wrap ((n1 : Int) + n2) = (n1 : Int) + n2 := by
    rw [IntKind.wrap_i64]
    have h1 := tw_le dgB (bts s3)
    rw [bts_len] at h1
    have := HL3.out
    have := HN1.out.2
    omega
  have HL4 : Hid (s4.size ≤ 100000) := hs4
  clear hn2 hb4 hg4 hs4
  by_cases h0 : n1 + n2 = 0
  · obtain rfl : n1 = 0 := by omega
    obtain rfl : n2 = 0 := by omega
    have HP : Hid (rgtB (bts s) = false) := by show _ = _; rw [hP]; rfl
    clear hP h0 hn
    go_wp2_with fail
    go_ret
    exact ⟨congrArg (fun z => Ending.returned (.bool z)) HP.out.symm, HG4.out⟩
  · have h0' : (((n1 : Int) + n2) == 0) = false := by simp; omega
    have HP : Hid (rgtB (bts s) = endB (bts s4)) := by show _ = _; rw [hP, decide_eq_true h0]; rfl
    clear hP h0
    by_cases h4 : 0 < s4.size
    · have hne := emp_ne h4
      have hat := bts_at h4
      obtain ⟨c, hc⟩ : ∃ c : Int, ((s4[0]'h4).toNat : Int) = c := ⟨_, rfl⟩
      rw [hc] at hat
      obtain ⟨pb, hpb⟩ : ∃ pb, powB ((bts s4).drop 1) = pb := ⟨_, rfl⟩
      have HE : Hid (rgtB (bts s) = if c = 101 ∨ c = 69 then pb else false) := by
        show _ = _; rw [HP.out, ← hpb]; exact end_cons hat (by rw [bts_len]; exact h4)
      have h4' : (1 : Int) ≤ s4.size := by omega
      have h4'' : (0 : Int) < s4.size := by omega
      have CW := fun w => lpower_any (s4.extract 1 s4.size) w (by rw [size_extract (Nat.le_refl _)]; have := HL4.out; omega)
      rw [bts_tail, hpb] at CW
      clear hat HP hpb
      cases q1 : (c == 101) with
      | true =>
        have HF : Hid (rgtB (bts s) = pb) := by show _ = _; rw [HE.out, if_pos (Or.inl (by simpa using q1))]
        clear HE
        go_wp2_with fail
        refine (CW _).mono ?_
        clear CW
        rintro e w5 ⟨rfl, hg5⟩
        have HG5 : Hid (IsGr w w5) := HG4.out.trans hg5
        clear hg5
        go_wp2_with fail
        go_ret
        exact ⟨congrArg (fun z => Ending.returned (.bool z)) HF.out.symm, HG5.out⟩
      | false =>
        cases q2 : (c == 69) with
        | true =>
          have HF : Hid (rgtB (bts s) = pb) := by show _ = _; rw [HE.out, if_pos (Or.inr (by simpa using q2))]
          clear HE
          go_wp2_with fail
          refine (CW _).mono ?_
          clear CW
          rintro e w5 ⟨rfl, hg5⟩
          have HG5 : Hid (IsGr w w5) := HG4.out.trans hg5
          clear hg5
          go_wp2_with fail
          go_ret
          exact ⟨congrArg (fun z => Ending.returned (.bool z)) HF.out.symm, HG5.out⟩
        | false =>
          have HF : Hid (rgtB (bts s) = false) := by show _ = _; rw [HE.out, if_neg (by simp at q1 q2; omega)]
          clear HE CW
          go_wp2_with fail
          go_ret
          exact ⟨congrArg (fun z => Ending.returned (.bool z)) HF.out.symm, HG4.out⟩
    · obtain rfl := emp_eq h4
      have HF : Hid (rgtB (bts s) = true) := by show _ = _; rw [HP.out]; rfl
      clear HP h4
      go_wp2_with fail
      go_ret
      exact ⟨congrArg (fun z => Ending.returned (.bool z)) HF.out.symm, HG4.out⟩
end Go.Proofs.YtfpifbfnebfdaaaDoor
