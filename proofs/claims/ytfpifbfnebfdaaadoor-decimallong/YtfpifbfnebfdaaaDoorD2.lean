/- Package lex over the loaded program: within, and skip: how far a run of bytes goes. -/
import Derived.Test.YtfpifbfnebfdaaaDoorD1
import Derived.Test.YtfpifbfnebfdaaaDoorC13
namespace Go.Proofs.YtfpifbfnebfdaaaDoor
open Go.RowKit Go.Shelf
attribute [local go_sem] Gr.size Gr.cell? Gr.frozen? Gr.setCell Gr.drew Gr.drewN Gr.of_drew Gr.of_drewN Gr.gr Gr.lt_of1 Gr.le_of1 Gr.lt_of2 Gr.le_of2 Gr.lt_of3 Gr.le_of3 Gr.lt_of4 Gr.le_of4 Gr.lt_of5 Gr.le_of5 Gr.lt_of6 Gr.le_of6 Gr.lt_of7 Gr.le_of7 Gr.lt_of8 Gr.le_of8 Gr.lt_of9 Gr.le_of9 Gr.lt_of10 Gr.le_of10 Gr.lt_of11 Gr.le_of11 Gr.lt_of12 Gr.le_of12 Gr.lt_of13 Gr.le_of13 Gr.lt_of14 Gr.le_of14 Gr.lt_of15 Gr.le_of15 Gr.lt_of16 Gr.le_of16 Gr.lt_of17 Gr.le_of17 Gr.lt_of18 Gr.le_of18 Gr.lt_of19 Gr.le_of19 Gr.lt_of20 Gr.le_of20 Gr.lt_of21 Gr.le_of21 Gr.lt_of22 Gr.le_of22 Gr.lt_of23 Gr.le_of23 Gr.lt_of24 Gr.le_of24
theorem kd_sg {c : Int} (h : ltB c = false) : (((kdI c : Nat) : Int) == 2) = sgB c := by
  unfold kdI
  rw [if_neg (by simp [h])]
  cases hs : sgB c with
  | true => rw [if_pos rfl]; rfl
  | false =>
    rw [if_neg (by simp)]
    repeat' split
    all_goals rfl
theorem kd_lt {c : Int} (h : ltB c = true) : (((kdI c : Nat) : Int) == 2) = sgB c := by
  have h1 := sgB_letter h
  unfold kdI
  rw [if_pos h]
  unfold sgB
  rw [h1.1, h1.2.1, h1.2.2.1, h1.2.2.2]; rfl
theorem kd_two (c : Int) : (((kdI c : Nat) : Int) == 2) = sgB c := by
  cases h : ltB c with
  | true => exact kd_lt h
  | false => exact kd_sg h
set_option maxRecDepth 20000 in set_option maxHeartbeats 2000000 in
theorem skip_digit (s : ByteArray) (i0 : Nat) (w : World) (h0 : i0 ≤ s.size) (hs : s.size ≤ 100000) : Calls Tryd.prog 69 #[.string s, .int .i64 i0, .func (.func 70) #[] #[]] w fun e w' => e = .returned (.int .i64 ((i0 + tw dgB ((bts s).drop i0) : Nat) : Int)) ∧ w' = w := by
  have CS := fun c w => ldigit_any c w
  have HS : Hid (s.size ≤ 100000) := hs
  have H0 : Hid (i0 ≤ s.size) := h0
  clear hs h0
  go_enter Tryd.func69, Tryd.ntmps69
  go_wp2_with fail
  go_loopg [1] (s.size - i0) (fun r p1 wr => wr = w ∧ ∃ i : Nat, i + r = s.size ∧ p1 = .int .i64 i ∧ Hid (i0 ≤ i ∧ i ≤ s.size ∧ ∀ j, i0 ≤ j → j < i → dgB ((bts s).getD j 0) = true))
  case atStart => exact ⟨rfl, i0, by have := H0.out; omega, rfl, Nat.le_refl _, H0.out, fun j h1 h2 => by omega⟩
  case round =>
    obtain ⟨hww, i, hk, rfl, HI⟩ := hrel
    obtain rfl := hww.symm
    by_cases hi : i < s.size
    · have hat := bts_at hi
      obtain ⟨c, hc⟩ : ∃ c : Int, ((s[i]'hi).toNat : Int) = c := ⟨_, rfl⟩
      rw [hc] at hat
      have hi' : (i : Int) < s.size := by omega
      have e1 : IntKind.i64.wrap ((i : Int) + 1) = (i : Int) + 1 := by rw [IntKind.wrap_i64]; have := HS.out; omega
      have CC := CS c w
      cases hp : dgB c with
      | true =>
        rw [hp] at CC
        have HP : Hid (dgB ((bts s).getD i 0) = true) := by show _ = _; rw [hat]; exact hp
        clear hp hat CS
        go_wp2_with fail
        refine CC.mono ?_
        clear CC
        rintro e w2 ⟨rfl, e2⟩
        obtain rfl := e2.symm
        go_wp2_with fail
        go_roundg (s.size - (i + 1))
        case measure => omega
        case rel => exact ⟨rfl, i + 1, by omega, by simp, by have := HI.out.1; omega, hi, fun j h1 h2 => by
          by_cases e : j = i
          · rw [e]; exact HP.out
          · exact HI.out.2.2 j h1 (by omega)⟩
      | false =>
        rw [hp] at CC
        have HP : Hid (i0 + tw dgB ((bts s).drop i0) = i) := by
          show _ = _
          rw [tw_run HI.out.1 (by rw [bts_len]; exact HI.out.2.1) HI.out.2.2 (Or.inr (by rw [hat]; exact hp))]
          have := HI.out.1; omega
        clear hp hat CS
        go_wp2_with fail
        refine CC.mono ?_
        clear CC
        rintro e w2 ⟨rfl, e2⟩
        obtain rfl := e2.symm
        go_wp2_with fail
        go_ret
        exact ⟨congrArg (fun z : Nat => Ending.returned (.int .i64 (z : Int))) HP.out.symm, rfl⟩
    · have hi' : ¬ (i : Int) < s.size := by omega
      have HP : Hid (i0 + tw dgB ((bts s).drop i0) = i) := by
        show _ = _
        rw [tw_run HI.out.1 (by rw [bts_len]; exact HI.out.2.1) HI.out.2.2 (Or.inl (by rw [bts_len]; have := HI.out.2.1; omega))]
        have := HI.out.1; omega
      go_wp2_with fail
      go_ret
      exact ⟨congrArg (fun z : Nat => Ending.returned (.int .i64 (z : Int))) HP.out.symm, rfl⟩
end Go.Proofs.YtfpifbfnebfdaaaDoor
