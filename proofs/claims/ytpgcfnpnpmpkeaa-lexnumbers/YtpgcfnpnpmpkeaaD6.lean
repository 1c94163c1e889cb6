/- Package lex over the loaded program: first, the token that begins at a place. -/
import Derived.Test.YtpgcfnpnpmpkeaaD5
namespace Go.Proofs.Ytpgcfnpnpmpkeaa
open Go.RowKit Go.Shelf
attribute [local go_sem] Gr.size Gr.cell? Gr.frozen? Gr.setCell Gr.drew Gr.drewN Gr.of_drew Gr.of_drewN Gr.gr Gr.lt_of1 Gr.le_of1 Gr.lt_of2 Gr.le_of2 Gr.lt_of3 Gr.le_of3 Gr.lt_of4 Gr.le_of4 Gr.lt_of5 Gr.le_of5 Gr.lt_of6 Gr.le_of6 Gr.lt_of7 Gr.le_of7 Gr.lt_of8 Gr.le_of8 Gr.lt_of9 Gr.le_of9 Gr.lt_of10 Gr.le_of10 Gr.lt_of11 Gr.le_of11 Gr.lt_of12 Gr.le_of12 Gr.lt_of13 Gr.le_of13 Gr.lt_of14 Gr.le_of14 Gr.lt_of15 Gr.le_of15 Gr.lt_of16 Gr.le_of16 Gr.lt_of17 Gr.le_of17 Gr.lt_of18 Gr.le_of18 Gr.lt_of19 Gr.le_of19 Gr.lt_of20 Gr.le_of20 Gr.lt_of21 Gr.le_of21 Gr.lt_of22 Gr.le_of22 Gr.lt_of23 Gr.le_of23 Gr.lt_of24 Gr.le_of24
/-- How long the token is that begins there. -/
def fsL (b : List Int) (i : Nat) : Nat := (tk1 (b.drop i)).2
theorem fsL_lt {b : List Int} {i : Nat} (hi : i < b.length) (h : ltB (b.getD i 0) = true) : fsL b i = tw ltB (b.drop (i + 1)) + 1 := by
  unfold fsL; rw [drop_cons hi, tk1_cons, if_pos h]
theorem fsL_sg {b : List Int} {i : Nat} (hi : i < b.length) (h : ltB (b.getD i 0) = false) (h2 : sgB (b.getD i 0) = true) : fsL b i = tw cnB (b.drop (i + 1)) + 1 := by
  unfold fsL; rw [drop_cons hi, tk1_cons, if_neg (by simp only [h]; simp), if_pos h2]
theorem fsL_one {b : List Int} {i : Nat} (hi : i < b.length) (h : ltB (b.getD i 0) = false) (h2 : sgB (b.getD i 0) = false) : fsL b i = 1 := by
  unfold fsL; rw [drop_cons hi, tk1_cons, if_neg (by simp only [h]; simp), if_neg (by simp only [h2]; simp)]
theorem kd_1 {c : Int} (h : ltB c = true) : kdI c = 1 := by unfold kdI; rw [if_pos h]
theorem kd_2 {c : Int} (h : ltB c = false) (h2 : sgB c = true) : kdI c = 2 := by unfold kdI; rw [if_neg (by simp [h]), if_pos h2]
theorem kd_o {c : Int} (h : ltB c = false) (h2 : sgB c = false) : ((kdI c : Nat) : Int) ≠ 1 ∧ ((kdI c : Nat) : Int) ≠ 2 := by
  unfold kdI
  rw [if_neg (by simp [h]), if_neg (by simp [h2])]
  repeat' split
  all_goals simp
set_option maxRecDepth 20000 in set_option maxHeartbeats 2000000 in
theorem lfirst_any (s : ByteArray) (i : Nat) (w : World) (hi : i < s.size) (hs : s.size ≤ 100000) : Calls Try.prog 29 #[.string s, .int .i64 i] w fun e w' => e = .returned (.agg #[.int .i64 (kdI ((bts s).getD i 0) : Nat), .int .i64 i, .int .i64 ((i + fsL (bts s) i : Nat) : Int)]) ∧ IsGr w w' := by
  have hat := bts_at hi
  have HL : Hid (i < (bts s).length) := by show _ < _; rw [bts_len]; exact hi
  obtain ⟨c, hc⟩ : ∃ c : Int, ((s[i]'hi).toNat : Int) = c := ⟨_, rfl⟩
  rw [hc] at hat
  rw [hat]
  have HC : Hid ((bts s).getD i 0 = c) := hat
  have hi' : (i : Int) < s.size := by omega
  have e1 : IntKind.i64.wrap ((i : Int) + 1) = (i : Int) + 1 := by rw [IntKind.wrap_i64]; omega
  have CK := fun w => lkind_any c w
  cases hl : ltB c with
  | true =>
    have CS := fun w => skip_letter s (i + 1) w hi hs
    have hf := fsL_lt HL.out (by rw [HC.out]; exact hl)
    obtain ⟨n, hn⟩ : ∃ n, i + fsL (bts s) i = n := ⟨_, rfl⟩
    rw [show i + 1 + tw ltB ((bts s).drop (i + 1)) = n by omega] at CS
    rw [hn, kd_1 hl]
    rw [kd_1 hl] at CK
    rw [show ((i + 1 : Nat) : Int) = (i : Int) + 1 by omega] at CS
    clear hf hn hat hs hl HC
    go_enter Try.func29, Try.ntmps29
    go_wp2_with fail
    refine (CK _).mono ?_
    clear CK
    rintro e w1 ⟨rfl, e1⟩
    subst e1
    go_wp2_with fail
    refine (CS _).mono ?_
    clear CS
    rintro e w2 ⟨rfl, e2⟩
    subst e2
    go_wp2_with fail
    exact bodyPost_ret (v := .agg #[.int .i64 (1 : Nat), .int .i64 i, .int .i64 n]) (by simp [results, Try.results29, go_sem]) rfl ⟨rfl, (by with_reducible repeat (first | exact IsGr.refl _ | refine IsGr.gr ?_ _ _ | refine IsGr.alloc ?_ _ | refine IsGr.drew ?_ | refine IsGr.drewN ?_ _))⟩
  | false =>
    cases h2 : sgB c with
    | true =>
      have CS := fun w => skip_within s (i + 1) w hi hs
      have hf := fsL_sg HL.out (by rw [HC.out]; exact hl) (by rw [HC.out]; exact h2)
      obtain ⟨n, hn⟩ : ∃ n, i + fsL (bts s) i = n := ⟨_, rfl⟩
      rw [show i + 1 + tw cnB ((bts s).drop (i + 1)) = n by omega] at CS
      rw [hn, kd_2 hl h2]
      rw [kd_2 hl h2] at CK
      rw [show ((i + 1 : Nat) : Int) = (i : Int) + 1 by omega] at CS
      clear hf hn hat hs hl HC h2
      go_enter Try.func29, Try.ntmps29
      go_wp2_with fail
      refine (CK _).mono ?_
      clear CK
      rintro e w1 ⟨rfl, e1⟩
      subst e1
      go_wp2_with fail
      refine (CS _).mono ?_
      clear CS
      rintro e w2 ⟨rfl, e2⟩
      subst e2
      go_wp2_with fail
      exact bodyPost_ret (v := .agg #[.int .i64 (2 : Nat), .int .i64 i, .int .i64 n]) (by simp [results, Try.results29, go_sem]) rfl ⟨rfl, (by with_reducible repeat (first | exact IsGr.refl _ | refine IsGr.gr ?_ _ _ | refine IsGr.alloc ?_ _ | refine IsGr.drew ?_ | refine IsGr.drewN ?_ _))⟩
    | false =>
      have hf := fsL_one HL.out (by rw [HC.out]; exact hl) (by rw [HC.out]; exact h2)
      have hn : ((i + fsL (bts s) i : Nat) : Int) = (i : Int) + 1 := by omega
      obtain ⟨k1, k2⟩ := kd_o hl h2
      obtain ⟨kd, hkd⟩ : ∃ kd : Int, ((kdI c : Nat) : Int) = kd := ⟨_, rfl⟩
      rw [hn, hkd]
      rw [hkd] at CK k1 k2
      have k1' : (kd == 1) = false := by simpa using k1
      have k2' : (kd == 2) = false := by simpa using k2
      clear hkd k1 k2
      clear hf hn hat hs hl HC h2
      go_enter Try.func29, Try.ntmps29
      go_wp2_with fail
      refine (CK _).mono ?_
      clear CK
      rintro e w1 ⟨rfl, e1⟩
      subst e1
      go_wp2_with fail
      exact bodyPost_ret (v := .agg #[.int .i64 kd, .int .i64 i, .int .i64 ((i : Int) + 1)]) (by simp [results, Try.results29, go_sem]) rfl ⟨rfl, (by with_reducible repeat (first | exact IsGr.refl _ | refine IsGr.gr ?_ _ _ | refine IsGr.alloc ?_ _ | refine IsGr.drew ?_ | refine IsGr.drewN ?_ _))⟩
end Go.Proofs.Ytpgcfnpnpmpkeaa
