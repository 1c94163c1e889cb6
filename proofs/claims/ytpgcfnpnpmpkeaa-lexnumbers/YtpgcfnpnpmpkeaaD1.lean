/- Package lex over the loaded program: what a byte is (blank, letter, digit, kind, within), and a run of bytes (skip). -/
import Derived.Test.YtpgcfnpnpmpkeaaC2
namespace Go.Proofs.Ytpgcfnpnpmpkeaa
open Go.RowKit Go.Shelf
attribute [local go_sem] Gr.size Gr.cell? Gr.frozen? Gr.setCell Gr.drew Gr.drewN Gr.of_drew Gr.of_drewN Gr.gr Gr.lt_of1 Gr.le_of1 Gr.lt_of2 Gr.le_of2 Gr.lt_of3 Gr.le_of3 Gr.lt_of4 Gr.le_of4 Gr.lt_of5 Gr.le_of5 Gr.lt_of6 Gr.le_of6 Gr.lt_of7 Gr.le_of7 Gr.lt_of8 Gr.le_of8 Gr.lt_of9 Gr.le_of9 Gr.lt_of10 Gr.le_of10 Gr.lt_of11 Gr.le_of11 Gr.lt_of12 Gr.le_of12 Gr.lt_of13 Gr.le_of13 Gr.lt_of14 Gr.le_of14 Gr.lt_of15 Gr.le_of15 Gr.lt_of16 Gr.le_of16 Gr.lt_of17 Gr.le_of17 Gr.lt_of18 Gr.le_of18 Gr.lt_of19 Gr.le_of19 Gr.lt_of20 Gr.le_of20 Gr.lt_of21 Gr.le_of21 Gr.lt_of22 Gr.le_of22 Gr.lt_of23 Gr.le_of23 Gr.lt_of24 Gr.le_of24
/-- The kind of the tokens that begin with a byte. -/
def kdI (c : Int) : Nat := if ltB c = true then 1 else if sgB c = true then 2 else if c = 40 then 3 else if c = 41 then 4 else if c = 44 then 5 else 0
set_option maxRecDepth 20000 in set_option maxHeartbeats 2000000 in
theorem ldigit_any (c : Int) (w : World) : Calls Try.prog 30 #[.int .u8 c] w fun e w' => e = .returned (.bool (dgB c)) ∧ w' = w := by
  obtain ⟨b, hb⟩ : ∃ b, dgB c = b := ⟨_, rfl⟩
  rw [hb]
  unfold dgB at hb
  by_cases h : 48 ≤ c
  · have hb2 : decide (c ≤ 57) = b := by rw [← hb, decide_eq_true h]; rfl
    have h' : decide (48 ≤ c) = true := decide_eq_true h
    clear hb
    go_enter Try.func30, Try.ntmps30
    go_wp2_with fail
    go_ret
    first | exact ⟨rfl, rfl⟩ | (refine ⟨?_, rfl⟩; rw [← hb2]; rfl)
  · have hb2 : b = false := by rw [← hb, decide_eq_false h]; rfl
    subst hb2
    have h' : decide (48 ≤ c) = false := decide_eq_false h
    clear hb
    go_enter Try.func30, Try.ntmps30
    go_wp2_with fail
    go_ret
    exact ⟨rfl, rfl⟩
set_option maxRecDepth 20000 in set_option maxHeartbeats 2000000 in
theorem lletter_any (c : Int) (w : World) : Calls Try.prog 33 #[.int .u8 c] w fun e w' => e = .returned (.bool (ltB c)) ∧ w' = w := by
  obtain ⟨b, hb⟩ : ∃ b, ltB c = b := ⟨_, rfl⟩
  rw [hb]
  unfold ltB at hb
  by_cases h1 : 97 ≤ c
  · have k1 : decide (97 ≤ c) = true := decide_eq_true h1
    have k4 : decide (65 ≤ c) = true := decide_eq_true (by omega)
    have k3 : decide (c ≤ 90) = false := decide_eq_false (by omega)
    by_cases h2 : c ≤ 122
    · have k2 : decide (c ≤ 122) = true := decide_eq_true h2
      obtain rfl : b = true := by rw [← hb, k1, k2]; rfl
      clear hb h1 h2
      go_enter Try.func33, Try.ntmps33
      go_wp2_with fail
      go_ret
      exact ⟨rfl, rfl⟩
    · have k2 : decide (c ≤ 122) = false := decide_eq_false h2
      obtain rfl : b = false := by rw [← hb, k2, k3]; simp
      clear hb h1 h2
      go_enter Try.func33, Try.ntmps33
      go_wp2_with fail
      go_ret
      exact ⟨rfl, rfl⟩
  · have k1 : decide (97 ≤ c) = false := decide_eq_false h1
    by_cases h3 : 65 ≤ c
    · have k3 : decide (65 ≤ c) = true := decide_eq_true h3
      by_cases h4 : c ≤ 90
      · have k4 : decide (c ≤ 90) = true := decide_eq_true h4
        obtain rfl : b = true := by rw [← hb, k3, k4]; simp
        clear hb h1 h3 h4
        go_enter Try.func33, Try.ntmps33
        go_wp2_with fail
        go_ret
        exact ⟨rfl, rfl⟩
      · have k4 : decide (c ≤ 90) = false := decide_eq_false h4
        obtain rfl : b = false := by rw [← hb, k1, k4]; simp
        clear hb h1 h3 h4
        go_enter Try.func33, Try.ntmps33
        go_wp2_with fail
        go_ret
        exact ⟨rfl, rfl⟩
    · have k3 : decide (65 ≤ c) = false := decide_eq_false h3
      obtain rfl : b = false := by rw [← hb, k1, k3]; simp
      clear hb h1 h3
      go_enter Try.func33, Try.ntmps33
      go_wp2_with fail
      go_ret
      exact ⟨rfl, rfl⟩
set_option maxRecDepth 20000 in set_option maxHeartbeats 2000000 in
theorem lblank_any (c : Int) (w : World) : Calls Try.prog 28 #[.int .u8 c] w fun e w' => e = .returned (.bool (bkB c)) ∧ w' = w := by
  obtain ⟨b, hb⟩ : ∃ b, bkB c = b := ⟨_, rfl⟩
  rw [hb]
  unfold bkB at hb
  cases h0 : (c == 32) with
  | true =>
    obtain rfl : b = true := by rw [← hb]; simp [h0]
    clear hb
    go_enter Try.func28, Try.ntmps28
    go_wp2_with fail
    go_ret
    exact ⟨rfl, rfl⟩
  | false =>
    cases h1 : (c == 9) with
    | true =>
      obtain rfl : b = true := by rw [← hb]; simp [h1]
      clear hb
      go_enter Try.func28, Try.ntmps28
      go_wp2_with fail
      go_ret
      exact ⟨rfl, rfl⟩
    | false =>
      cases h2 : (c == 13) with
      | true =>
        obtain rfl : b = true := by rw [← hb]; simp [h2]
        clear hb
        go_enter Try.func28, Try.ntmps28
        go_wp2_with fail
        go_ret
        exact ⟨rfl, rfl⟩
      | false =>
        cases h3 : (c == 10) with
        | true =>
          obtain rfl : b = true := by rw [← hb]; simp [h3]
          clear hb
          go_enter Try.func28, Try.ntmps28
          go_wp2_with fail
          go_ret
          exact ⟨rfl, rfl⟩
        | false =>
          obtain rfl : b = false := by rw [← hb, h0, h1, h2, h3]; rfl
          clear hb
          go_enter Try.func28, Try.ntmps28
          go_wp2_with fail
          go_ret
          exact ⟨rfl, rfl⟩

set_option maxRecDepth 20000 in set_option maxHeartbeats 2000000 in
theorem lkind_any (c : Int) (w : World) : Calls Try.prog 32 #[.int .u8 c] w fun e w' => e = .returned (.int .i64 (kdI c : Nat)) ∧ w' = w := by
  have CL := lletter_any c w
  have CD := fun w => ldigit_any c w
  obtain ⟨b, hb⟩ : ∃ b, kdI c = b := ⟨_, rfl⟩
  rw [hb]
  unfold kdI at hb
  cases hl : ltB c with
  | true =>
    obtain rfl : b = 1 := by rw [← hb, hl]; rfl
    rw [hl] at CL
    clear hb hl CD
    go_enter Try.func32, Try.ntmps32
    go_wp2_with fail
    refine CL.mono ?_
    rintro e w1 ⟨rfl, e1⟩
    obtain rfl := e1.symm
    go_wp2_with fail
    go_ret
    exact ⟨rfl, rfl⟩
  | false =>
    rw [hl] at CL hb
    rw [if_neg (by simp)] at hb
    have HB := hb
    clear hb
    unfold sgB at HB
    cases h0 : dgB c with
    | true =>
      obtain rfl : b = 2 := by rw [← HB]; simp [h0]
      clear HB hl
      go_enter Try.func32, Try.ntmps32
      go_wp2_with fail
      refine CL.mono ?_
      clear CL
      rintro e w1 ⟨rfl, e1⟩
      obtain rfl := e1.symm
      have CD0 := CD w
      rw [h0] at CD0
      clear CD
      go_wp2_with fail
      refine CD0.mono ?_
      clear CD0
      rintro e w2 ⟨rfl, e2⟩
      obtain rfl := e2.symm
      go_wp2_with fail
      go_ret
      exact ⟨rfl, rfl⟩
    | false =>
      cases h1 : (c == 43) with
      | true =>
        obtain rfl : b = 2 := by rw [← HB]; simp [h1]
        clear HB hl
        go_enter Try.func32, Try.ntmps32
        go_wp2_with fail
        refine CL.mono ?_
        clear CL
        rintro e w1 ⟨rfl, e1⟩
        obtain rfl := e1.symm
        have CD0 := CD w
        rw [h0] at CD0
        clear CD
        go_wp2_with fail
        refine CD0.mono ?_
        clear CD0
        rintro e w2 ⟨rfl, e2⟩
        obtain rfl := e2.symm
        go_wp2_with fail
        go_ret
        exact ⟨rfl, rfl⟩
      | false =>
        cases h2 : (c == 45) with
        | true =>
          obtain rfl : b = 2 := by rw [← HB]; simp [h2]
          clear HB hl
          go_enter Try.func32, Try.ntmps32
          go_wp2_with fail
          refine CL.mono ?_
          clear CL
          rintro e w1 ⟨rfl, e1⟩
          obtain rfl := e1.symm
          have CD0 := CD w
          rw [h0] at CD0
          clear CD
          go_wp2_with fail
          refine CD0.mono ?_
          clear CD0
          rintro e w2 ⟨rfl, e2⟩
          obtain rfl := e2.symm
          go_wp2_with fail
          go_ret
          exact ⟨rfl, rfl⟩
        | false =>
          cases h3 : (c == 46) with
          | true =>
            obtain rfl : b = 2 := by rw [← HB]; simp [h3]
            clear HB hl
            go_enter Try.func32, Try.ntmps32
            go_wp2_with fail
            refine CL.mono ?_
            clear CL
            rintro e w1 ⟨rfl, e1⟩
            obtain rfl := e1.symm
            have CD0 := CD w
            rw [h0] at CD0
            clear CD
            go_wp2_with fail
            refine CD0.mono ?_
            clear CD0
            rintro e w2 ⟨rfl, e2⟩
            obtain rfl := e2.symm
            go_wp2_with fail
            go_ret
            exact ⟨rfl, rfl⟩
          | false =>
            cases h4 : (c == 40) with
            | true =>
              obtain rfl : b = 3 := by
                rw [← HB, h0, h1, h2, h3]
                simp only [beq_iff_eq] at h4
                simp [h4]
              clear HB hl
              go_enter Try.func32, Try.ntmps32
              go_wp2_with fail
              refine CL.mono ?_
              clear CL
              rintro e w1 ⟨rfl, e1⟩
              obtain rfl := e1.symm
              have CD0 := CD w
              rw [h0] at CD0
              clear CD
              go_wp2_with fail
              refine CD0.mono ?_
              clear CD0
              rintro e w2 ⟨rfl, e2⟩
              obtain rfl := e2.symm
              go_wp2_with fail
              go_ret
              exact ⟨rfl, rfl⟩
            | false =>
              cases h5 : (c == 41) with
              | true =>
                obtain rfl : b = 4 := by
                  rw [← HB, h0, h1, h2, h3]
                  simp only [beq_iff_eq] at h5
                  simp [h5]
                clear HB hl
                go_enter Try.func32, Try.ntmps32
                go_wp2_with fail
                refine CL.mono ?_
                clear CL
                rintro e w1 ⟨rfl, e1⟩
                obtain rfl := e1.symm
                have CD0 := CD w
                rw [h0] at CD0
                clear CD
                go_wp2_with fail
                refine CD0.mono ?_
                clear CD0
                rintro e w2 ⟨rfl, e2⟩
                obtain rfl := e2.symm
                go_wp2_with fail
                go_ret
                exact ⟨rfl, rfl⟩
              | false =>
                cases h6 : (c == 44) with
                | true =>
                  obtain rfl : b = 5 := by
                    rw [← HB, h0, h1, h2, h3]
                    simp only [beq_iff_eq] at h6
                    simp [h6]
                  clear HB hl
                  go_enter Try.func32, Try.ntmps32
                  go_wp2_with fail
                  refine CL.mono ?_
                  clear CL
                  rintro e w1 ⟨rfl, e1⟩
                  obtain rfl := e1.symm
                  have CD0 := CD w
                  rw [h0] at CD0
                  clear CD
                  go_wp2_with fail
                  refine CD0.mono ?_
                  clear CD0
                  rintro e w2 ⟨rfl, e2⟩
                  obtain rfl := e2.symm
                  go_wp2_with fail
                  go_ret
                  exact ⟨rfl, rfl⟩
                | false =>
                  obtain rfl : b = 0 := by
                    rw [← HB, h0, h1, h2, h3]
                    simp only [beq_eq_false_iff_ne, ne_eq] at h4 h5 h6
                    simp [h4, h5, h6]
                  clear HB hl
                  go_enter Try.func32, Try.ntmps32
                  go_wp2_with fail
                  refine CL.mono ?_
                  clear CL
                  rintro e w1 ⟨rfl, e1⟩
                  obtain rfl := e1.symm
                  have CD0 := CD w
                  rw [h0] at CD0
                  clear CD
                  go_wp2_with fail
                  refine CD0.mono ?_
                  clear CD0
                  rintro e w2 ⟨rfl, e2⟩
                  obtain rfl := e2.symm
                  go_wp2_with fail
                  go_ret
                  exact ⟨rfl, rfl⟩
end Go.Proofs.Ytpgcfnpnpmpkeaa
