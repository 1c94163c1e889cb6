/- Package lex over the loaded program: pieces, walked. -/
import Derived.Test.YtpgcfnpnpmpkeaaD7
namespace Go.Proofs.Ytpgcfnpnpmpkeaa
open Go.RowKit Go.Shelf
attribute [local go_sem] Oper.semAt_some
set_option maxRecDepth 20000 in
set_option maxHeartbeats 2000000 in
theorem lpieces_any (s : ByteArray) (w : World) : Calls Try.prog 16 #[.string s] w fun e w' => e = .returned (.func (.func 26) #[] #[.pointer (some ⟨w.heap.size, 0, none⟩)]) ∧ w' = w.alloc (.cells #[.string s] 9) := by
  go_enter Try.func16, Try.ntmps16
  go_wp2_with fail
  go_ret
  exact ⟨rfl, rfl⟩
theorem okB_cases (b : List Int) (i : Nat) : (((kdI (b.getD i 0) : Nat) : Int) = 0 ∧ okB b i = false) ∨ (((kdI (b.getD i 0) : Nat) : Int) = 2 ∧ okB b i = rgtB ((b.drop i).take (fsL b i))) ∨ ((((kdI (b.getD i 0) : Nat) : Int) != 0) = true ∧ (((kdI (b.getD i 0) : Nat) : Int) != 2) = true ∧ okB b i = true) := by
  unfold okB
  obtain ⟨kd, hkd⟩ : ∃ kd, kdI (b.getD i 0) = kd := ⟨_, rfl⟩
  rw [hkd]
  by_cases h0 : kd = 0
  · exact Or.inl ⟨by omega, by rw [h0]; rfl⟩
  · by_cases h2 : kd = 2
    · exact Or.inr (Or.inl ⟨by omega, by rw [h2]; simp⟩)
    · exact Or.inr (Or.inr ⟨by simp; omega, by simp; omega, by simp [h0, h2]⟩)
theorem txt_nat {s : ByteArray} {i n : Nat} (h : i + n ≤ s.size) : txtOf s (i : Int) ((i + n : Nat) : Int) = s.extract i (i + n) ∧ bts (s.extract i (i + n)) = ((bts s).drop i).take n := by
  refine ⟨?_, by rw [bts_extract, Nat.add_sub_cancel_left]⟩
  unfold txtOf
  rw [if_pos (by omega), Int.toNat_natCast, Int.toNat_natCast]
set_option maxRecDepth 100000 in
set_option maxHeartbeats 2000000 in
theorem lpieces_in (s : ByteArray) (hs : s.size ≤ 100000) (Bs N m : Nat) (Z : List Nat) (ow : Option Nat) (W0 : World) (hB : W0.cell? ⟨Bs, 0, none⟩ = some (.string s)) (hZ : Bs ∈ Z) (hN : N ≤ W0.heap.size) (how : ∀ b, ow = some b → b < N) (hO : ∀ k, Ow ow W0 k → k < W0.heap.size) :
    SeqW Fence.wide m Try.prog 26 #[.pointer (some ⟨Bs, 0, none⟩)] encP IsGr (KpO ow N Z) (fun pre x _ => NxP (bts s) pre x) (fun xs _ => AllR xs → tks (bts s) 0 = (xs.map (·.1), none)) (fun xs _ => ∃ pre x, xs = pre ++ [x] ∧ NxP (bts s) pre x) W0 := by
  intro l J Jx hJ hJx hY hJ0
  have HS : Hid (s.size ≤ 100000) := hs
  have HOW : Hid (∀ b, ow = some b → b < N) := how
  refine callsIn_of_wp Try.func26 rfl trivial ?_ rfl
  simp only [Try.ntmps26, List.size_toArray, List.length_cons, List.length_nil, Nat.reduceAdd, Nat.reduceSub, Array.replicate_succ, Array.replicate_zero, List.push_toArray, List.append_toArray, List.nil_append, List.cons_append]
  have CS0 := skip_blank s 0 W0 (Nat.zero_le _) hs
  rw [List.drop_zero, Nat.zero_add] at CS0
  obtain ⟨i0, hi0⟩ : ∃ i, tw bkB (bts s) = i := ⟨_, rfl⟩
  rw [hi0] at CS0
  have H0 : Hid (StP (bts s) i0 [] ∧ J [] W0 ∧ W0.cell? ⟨Bs, 0, none⟩ = some (.string s) ∧ N ≤ W0.heap.size ∧ ∀ k, Ow ow W0 k → k < W0.heap.size) := ⟨hi0 ▸ StP.start _, hJ0, hB, hN, hO⟩
  clear hi0 hs how hO hJ0 hN
  gi_wp2
  refine ⟨trivial, fun h => (by cases h), ?_⟩
  refine (callsIn_wide.2 CS0).mono ?_
  clear CS0
  rintro e w1 ⟨rfl, e1⟩
  obtain rfl := e1.symm
  clear hB
  gi_wp2
  gi_loopw [3] (fun p3 wr => ∃ (i : Nat) (pre : List Pc), p3 = .int .i64 i ∧ Hid (StP (bts s) i pre ∧ J pre wr ∧ wr.cell? ⟨Bs, 0, none⟩ = some (.string s) ∧ N ≤ wr.heap.size ∧ ∀ k, Ow ow wr k → k < wr.heap.size)) (fun p3 _ => s.size - (intOf p3).toNat)
  case atStart => exact ⟨i0, [], rfl, H0.out⟩
  case round =>
    obtain ⟨i, pre, rfl, HR⟩ := hrel
    clear H0
    have cB := HR.out.2.2.1
    by_cases hi : i < s.size
    · have hi' : (i : Int) < s.size := by omega
      have HI : Hid (i < (bts s).length) := by show _ < _; rw [bts_len]; exact hi
      have CF := lfirst_any s i wr hi HS.out
      have hfl := fs_le HI.out
      have hsk := tw_le bkB ((bts s).drop (i + fsL (bts s) i))
      rw [List.length_drop] at hsk
      have hnx := HR.out.1.nx HI.out
      have hnt := HR.out.1.next HI.out
      have hok := okB_cases (bts s) i
      have htx := txt_nat (s := s) (i := i) (n := fsL (bts s) i) (by rw [← bts_len]; exact hfl.2)
      obtain ⟨j, hj⟩ : ∃ j, i + fsL (bts s) i = j := ⟨_, rfl⟩
      obtain ⟨kd, hkd⟩ : ∃ k, kdI ((bts s).getD i 0) = k := ⟨_, rfl⟩
      have CS := fun w => skip_blank s j w (by rw [← bts_len]; omega) HS.out
      obtain ⟨q, hq⟩ : ∃ q, j + tw bkB ((bts s).drop j) = q := ⟨_, rfl⟩
      rw [hj] at CF hnx hnt hfl hsk htx
      rw [hkd] at CF hnx hnt hok
      rw [hq] at CS hnt
      have HP : Hid (i < j ∧ j ≤ q ∧ q ≤ s.size) := by
        have := bts_len s
        refine ⟨by omega, by omega, by omega⟩
      rw [← htx.2] at hok
      have HTX : Hid (txtOf s (i : Int) (j : Int) = s.extract i j) := htx.1
      clear hj hkd hq hfl hsk hi htx
      gi_wp2
      refine ⟨trivial, fun h => (by cases h), ?_⟩
      refine (callsIn_wide.2 CF).mono ?_
      clear CF
      rintro e w2 ⟨rfl, hg2⟩
      have c2 := cellk cB hg2
      gi_upto_region 3 with fail
      have hg3 : IsGr wr (w2.alloc (.cells #[.int .i64 (kd : Nat), .int .i64 i, .int .i64 j] 31)) := hg2.alloc _
      have c3 := cell_past (.cells #[.int .i64 (kd : Nat), .int .i64 i, .int .i64 j] 31) c2
      have hbk := World.alloc_heap_new w2 (.cells #[.int .i64 (kd : Nat), .int .i64 i, .int .i64 j] 31)
      have hs3 : w2.heap.size < (w2.alloc (.cells #[.int .i64 (kd : Nat), .int .i64 i, .int .i64 j] 31)).heap.size := by simp
      have hs2 := hg2.size
      obtain ⟨tb, htb⟩ : ∃ b, w2.heap.size = b := ⟨_, rfl⟩
      obtain ⟨w3, hw3⟩ : ∃ W, w2.alloc (.cells #[.int .i64 (kd : Nat), .int .i64 i, .int .i64 j] 31) = W := ⟨_, rfl⟩
      rw [hw3] at hg3 c3 hbk hs3 ⊢
      rw [htb] at hbk hs3 hs2 ⊢
      have z1 : w3.cell? ⟨tb, 0, none⟩ = some (.int .i64 (kd : Nat)) := by simp [World.cell?, hbk]
      have z2 : w3.cell? ⟨tb, 1, none⟩ = some (.int .i64 i) := by simp [World.cell?, hbk]
      have z3 : w3.cell? ⟨tb, 2, none⟩ = some (.int .i64 j) := by simp [World.cell?, hbk]
      have HT : Hid (wr.heap.size ≤ tb ∧ tb < w3.heap.size) := ⟨hs2, hs3⟩
      have HG3 : Hid (IsGr wr w3) := hg3
      clear hw3 htb hbk hs3 hs2 c2 hg2 hg3 cB
      rcases hok with ⟨hk, ho⟩ | ⟨hk, ho⟩ | ⟨hk0, hk2, ho⟩
      · obtain rfl : kd = 0 := by omega
        rw [ho] at hnx hnt
        have HX : Hid (NxP (bts s) pre ((0, i, j), false) ∧ StP (bts s) q (pre ++ [((0, i, j), false)])) := ⟨hnx, hnt⟩
        have HQ : Hid (IsGr wr w3 ∧ tb < w3.heap.size ∧ w3.cell? ⟨tb, 2, none⟩ = some (.int .i64 j)) := ⟨HG3.out, HT.out.2, z3⟩
        have z0 : w3.cell? ⟨tb, 0, none⟩ = some (.int .i64 0) := z1
        clear hnx hnt ho hk z1
        have hJq : J pre w3 := hJ _ _ _ HR.out.2.1 HQ.out.1
        have hOq : ∀ k, Ow ow w3 k → k < w3.heap.size := fun k hk => Nat.lt_of_lt_of_le (HR.out.2.2.2.2 k (hk.gr (fun b hb => Nat.lt_of_lt_of_le (HOW.out b hb) HR.out.2.2.2.1) HQ.out.1)) HQ.out.1.size
        have hNt : ¬ Ow ow w3 tb := fun hk => by
          have h1 := HR.out.2.2.2.2 tb (hk.gr (fun b hb => Nat.lt_of_lt_of_le (HOW.out b hb) HR.out.2.2.2.1) HQ.out.1)
          have h2 := HT.out.1
          omega
        have hYq : YieldAt Fence.wide (m - 1) Try.prog l #[.agg #[.int .i64 0, .int .i64 i, .int .i64 j], .bool false] w3 fun e W' => (e = .returned (.bool true) ∧ J (pre ++ [((0, i, j), false)]) W' ∧ KpO ow N Z w3 W') ∨ (e = .returned (.bool false) ∧ Jx (pre ++ [((0, i, j), false)]) W' ∧ KpO ow N Z w3 W') := by
          exact hY (m - 1) pre ((0, i, j), false) w3 hJq (HX.out.1)
        obtain ⟨fn, tmps, assign, body, hy, hR⟩ := hYq
        have HO : Hid ((∀ k, Ow ow w3 k → k < w3.heap.size) ∧ ¬ Ow ow w3 tb) := ⟨hOq, hNt⟩
        clear hJq hOq hNt
        gi_wp2
        all_goals (first | (rename_i h1 h2; exact absurd h1 (by simp [undef])) | skip)
        refine ⟨trivial, ?_⟩
        gi_wp2
        all_goals (first | (rename_i h1 h2; exact absurd h1 (by simp [undef])) | skip)
        refine ⟨trivial, ?_⟩
        gi_wp2
        refine ⟨fun h => (by cases h), ?_⟩
        refine hR.mono ?_
        clear hR
        rintro e w6 (⟨rfl, hj6, hkp⟩ | ⟨rfl, hj6, hkp⟩)
        · have hb6 : w6.heap[tb]? = w3.heap[tb]? := hkp.rest tb (Nat.le_trans HR.out.2.2.2.1 HT.out.1) HQ.out.2.1 HO.out.2
          have z6 : w6.cell? ⟨tb, 2, none⟩ = some (.int .i64 j) := (World.cell?_of_block (a := ⟨tb, 2, none⟩) hb6).trans HQ.out.2.2
          have cq : w3.cell? ⟨Bs, 0, none⟩ = some (.string s) := cellk HR.out.2.2.1 HQ.out.1
          have c6 : w6.cell? ⟨Bs, 0, none⟩ = some (.string s) := (World.cell?_of_block (a := ⟨Bs, 0, none⟩) (hkp.keep Bs hZ)).trans cq
          have HN : Hid (StP (bts s) q (pre ++ [((0, i, j), false)]) ∧ J (pre ++ [((0, i, j), false)]) w6 ∧ w6.cell? ⟨Bs, 0, none⟩ = some (.string s) ∧ N ≤ w6.heap.size ∧ ∀ k, Ow ow w6 k → k < w6.heap.size) :=
            ⟨HX.out.2, hj6, c6, Nat.le_trans HR.out.2.2.2.1 (Nat.le_trans HQ.out.1.size hkp.size), hkp.lt HO.out.1⟩
          have CS6 := CS w6
          clear hj6 hkp hy hb6 cq CS HO
          gi_wp2
          refine ⟨trivial, fun h => (by cases h), ?_⟩
          refine (callsIn_wide.2 CS6).mono ?_
          clear CS6
          rintro e w7 ⟨rfl, e7⟩
          obtain rfl := e7.symm
          gi_wp2
          go_roundw
          case rel => exact ⟨q, _, rfl, HN.out⟩
          case measure => have := HP.out; simp [intOf]; omega
        · have HE : Hid (∃ pre' x, pre ++ [((0, i, j), false)] = pre' ++ [x] ∧ NxP (bts s) pre' x) := ⟨_, _, rfl, HX.out.1⟩
          clear CS
          gi_wp2
          exact bodyPost_ret (v := .tuple #[]) (by simp [results, Try.results26, go_sem]) rfl ⟨⟨_, rfl⟩, Or.inr ⟨_, HE.out, hj6⟩⟩
      · obtain rfl : kd = 2 := by omega
        have CT := ltext_any (2 : Nat) i j s w3
        rw [HTX.out] at CT
        have CR := fun w => lright_any (s.extract i j) w (by rw [size_extract (by have := HP.out; omega)]; have := HP.out; have := HS.out; omega)
        rw [← ho] at CR
        obtain ⟨ok, hok⟩ : ∃ b, okB (bts s) i = b := ⟨_, rfl⟩
        rw [hok] at CR hnx hnt
        have HX : Hid (NxP (bts s) pre ((2, i, j), ok) ∧ StP (bts s) q (pre ++ [((2, i, j), ok)])) := ⟨hnx, hnt⟩
        clear hnx hnt ho hk hok
        gi_wp2
        refine ⟨trivial, fun h => (by cases h), ?_⟩
        refine (callsIn_wide.2 CT).mono ?_
        clear CT
        rintro e w4 ⟨rfl, hg4⟩
        gi_wp2
        refine ⟨trivial, fun h => (by cases h), ?_⟩
        refine (callsIn_wide.2 (CR w4)).mono ?_
        clear CR
        rintro e w5 ⟨rfl, hg5⟩
        have hg35 := hg4.trans hg5
        have y1 := cellk z1 hg35
        have y2 := cellk z2 hg35
        have y3 := cellk z3 hg35
        have HQ : Hid (IsGr wr w5 ∧ tb < w5.heap.size ∧ w5.cell? ⟨tb, 2, none⟩ = some (.int .i64 j)) := ⟨HG3.out.trans hg35, Nat.lt_of_lt_of_le HT.out.2 hg35.size, y3⟩
        clear hg4 hg5 hg35 z1 z2 z3 c3
        have hJq : J pre w5 := hJ _ _ _ HR.out.2.1 HQ.out.1
        have hOq : ∀ k, Ow ow w5 k → k < w5.heap.size := fun k hk => Nat.lt_of_lt_of_le (HR.out.2.2.2.2 k (hk.gr (fun b hb => Nat.lt_of_lt_of_le (HOW.out b hb) HR.out.2.2.2.1) HQ.out.1)) HQ.out.1.size
        have hNt : ¬ Ow ow w5 tb := fun hk => by
          have h1 := HR.out.2.2.2.2 tb (hk.gr (fun b hb => Nat.lt_of_lt_of_le (HOW.out b hb) HR.out.2.2.2.1) HQ.out.1)
          have h2 := HT.out.1
          omega
        have hYq : YieldAt Fence.wide (m - 1) Try.prog l #[.agg #[.int .i64 2, .int .i64 i, .int .i64 j], .bool ok] w5 fun e W' => (e = .returned (.bool true) ∧ J (pre ++ [((2, i, j), ok)]) W' ∧ KpO ow N Z w5 W') ∨ (e = .returned (.bool false) ∧ Jx (pre ++ [((2, i, j), ok)]) W' ∧ KpO ow N Z w5 W') := by
          exact hY (m - 1) pre ((2, i, j), ok) w5 hJq (HX.out.1)
        obtain ⟨fn, tmps, assign, body, hy, hR⟩ := hYq
        have HO : Hid ((∀ k, Ow ow w5 k → k < w5.heap.size) ∧ ¬ Ow ow w5 tb) := ⟨hOq, hNt⟩
        clear hJq hOq hNt
        gi_wp2
        refine ⟨fun h => (by cases h), ?_⟩
        refine hR.mono ?_
        clear hR
        rintro e w6 (⟨rfl, hj6, hkp⟩ | ⟨rfl, hj6, hkp⟩)
        · have hb6 : w6.heap[tb]? = w5.heap[tb]? := hkp.rest tb (Nat.le_trans HR.out.2.2.2.1 HT.out.1) HQ.out.2.1 HO.out.2
          have z6 : w6.cell? ⟨tb, 2, none⟩ = some (.int .i64 j) := (World.cell?_of_block (a := ⟨tb, 2, none⟩) hb6).trans HQ.out.2.2
          have cq : w5.cell? ⟨Bs, 0, none⟩ = some (.string s) := cellk HR.out.2.2.1 HQ.out.1
          have c6 : w6.cell? ⟨Bs, 0, none⟩ = some (.string s) := (World.cell?_of_block (a := ⟨Bs, 0, none⟩) (hkp.keep Bs hZ)).trans cq
          have HN : Hid (StP (bts s) q (pre ++ [((2, i, j), ok)]) ∧ J (pre ++ [((2, i, j), ok)]) w6 ∧ w6.cell? ⟨Bs, 0, none⟩ = some (.string s) ∧ N ≤ w6.heap.size ∧ ∀ k, Ow ow w6 k → k < w6.heap.size) :=
            ⟨HX.out.2, hj6, c6, Nat.le_trans HR.out.2.2.2.1 (Nat.le_trans HQ.out.1.size hkp.size), hkp.lt HO.out.1⟩
          have CS6 := CS w6
          clear hj6 hkp hy hb6 cq CS HO
          gi_wp2
          refine ⟨trivial, fun h => (by cases h), ?_⟩
          refine (callsIn_wide.2 CS6).mono ?_
          clear CS6
          rintro e w7 ⟨rfl, e7⟩
          obtain rfl := e7.symm
          gi_wp2
          go_roundw
          case rel => exact ⟨q, _, rfl, HN.out⟩
          case measure => have := HP.out; simp [intOf]; omega
        · have HE : Hid (∃ pre' x, pre ++ [((2, i, j), ok)] = pre' ++ [x] ∧ NxP (bts s) pre' x) := ⟨_, _, rfl, HX.out.1⟩
          clear CS
          gi_wp2
          exact bodyPost_ret (v := .tuple #[]) (by simp [results, Try.results26, go_sem]) rfl ⟨⟨_, rfl⟩, Or.inr ⟨_, HE.out, hj6⟩⟩
      · rw [ho] at hnx hnt
        have HX : Hid (NxP (bts s) pre ((kd, i, j), true) ∧ StP (bts s) q (pre ++ [((kd, i, j), true)])) := ⟨hnx, hnt⟩
        have HQ : Hid (IsGr wr w3 ∧ tb < w3.heap.size ∧ w3.cell? ⟨tb, 2, none⟩ = some (.int .i64 j)) := ⟨HG3.out, HT.out.2, z3⟩
        clear hnx hnt ho
        have hJq : J pre w3 := hJ _ _ _ HR.out.2.1 HQ.out.1
        have hOq : ∀ k, Ow ow w3 k → k < w3.heap.size := fun k hk => Nat.lt_of_lt_of_le (HR.out.2.2.2.2 k (hk.gr (fun b hb => Nat.lt_of_lt_of_le (HOW.out b hb) HR.out.2.2.2.1) HQ.out.1)) HQ.out.1.size
        have hNt : ¬ Ow ow w3 tb := fun hk => by
          have h1 := HR.out.2.2.2.2 tb (hk.gr (fun b hb => Nat.lt_of_lt_of_le (HOW.out b hb) HR.out.2.2.2.1) HQ.out.1)
          have h2 := HT.out.1
          omega
        have hYq : YieldAt Fence.wide (m - 1) Try.prog l #[.agg #[.int .i64 (kd : Nat), .int .i64 i, .int .i64 j], .bool true] w3 fun e W' => (e = .returned (.bool true) ∧ J (pre ++ [((kd, i, j), true)]) W' ∧ KpO ow N Z w3 W') ∨ (e = .returned (.bool false) ∧ Jx (pre ++ [((kd, i, j), true)]) W' ∧ KpO ow N Z w3 W') := by
          exact hY (m - 1) pre ((kd, i, j), true) w3 hJq (HX.out.1)
        obtain ⟨fn, tmps, assign, body, hy, hR⟩ := hYq
        have HO : Hid ((∀ k, Ow ow w3 k → k < w3.heap.size) ∧ ¬ Ow ow w3 tb) := ⟨hOq, hNt⟩
        clear hJq hOq hNt
        gi_wp2
        refine ⟨trivial, ?_⟩
        gi_wp2
        refine ⟨trivial, ?_⟩
        gi_wp2
        refine ⟨fun h => (by cases h), ?_⟩
        refine hR.mono ?_
        clear hR
        rintro e w6 (⟨rfl, hj6, hkp⟩ | ⟨rfl, hj6, hkp⟩)
        · have hb6 : w6.heap[tb]? = w3.heap[tb]? := hkp.rest tb (Nat.le_trans HR.out.2.2.2.1 HT.out.1) HQ.out.2.1 HO.out.2
          have z6 : w6.cell? ⟨tb, 2, none⟩ = some (.int .i64 j) := (World.cell?_of_block (a := ⟨tb, 2, none⟩) hb6).trans HQ.out.2.2
          have cq : w3.cell? ⟨Bs, 0, none⟩ = some (.string s) := cellk HR.out.2.2.1 HQ.out.1
          have c6 : w6.cell? ⟨Bs, 0, none⟩ = some (.string s) := (World.cell?_of_block (a := ⟨Bs, 0, none⟩) (hkp.keep Bs hZ)).trans cq
          have HN : Hid (StP (bts s) q (pre ++ [((kd, i, j), true)]) ∧ J (pre ++ [((kd, i, j), true)]) w6 ∧ w6.cell? ⟨Bs, 0, none⟩ = some (.string s) ∧ N ≤ w6.heap.size ∧ ∀ k, Ow ow w6 k → k < w6.heap.size) :=
            ⟨HX.out.2, hj6, c6, Nat.le_trans HR.out.2.2.2.1 (Nat.le_trans HQ.out.1.size hkp.size), hkp.lt HO.out.1⟩
          have CS6 := CS w6
          clear hj6 hkp hy hb6 cq CS HO
          gi_wp2
          refine ⟨trivial, fun h => (by cases h), ?_⟩
          refine (callsIn_wide.2 CS6).mono ?_
          clear CS6
          rintro e w7 ⟨rfl, e7⟩
          obtain rfl := e7.symm
          gi_wp2
          go_roundw
          case rel => exact ⟨q, _, rfl, HN.out⟩
          case measure => have := HP.out; simp [intOf]; omega
        · have HE : Hid (∃ pre' x, pre ++ [((kd, i, j), true)] = pre' ++ [x] ∧ NxP (bts s) pre' x) := ⟨_, _, rfl, HX.out.1⟩
          clear CS
          gi_wp2
          exact bodyPost_ret (v := .tuple #[]) (by simp [results, Try.results26, go_sem]) rfl ⟨⟨_, rfl⟩, Or.inr ⟨_, HE.out, hj6⟩⟩
    · have hi' : ¬ (i : Int) < s.size := by omega
      have HE : Hid (AllR pre → tks (bts s) 0 = (pre.map (·.1), none)) := HR.out.1.fin (by rw [bts_len]; exact hi)
      have HJ := HR.out.2.1
      clear hi
      gi_wp2
      go_end0
      exact ⟨⟨_, rfl⟩, Or.inl ⟨pre, HE.out, HJ⟩⟩
end Go.Proofs.Ytpgcfnpnpmpkeaa
