/- gromaref09 over the loaded program: digit, letter, state, Right, Upper. -/
import Derived.Test.YtfpifbfnebfdaaaDoorC1
import Derived.Test.YtfpifbfnebfdaaaDoorS12
import Derived.Test.YtfpifbfnebfdaaaDoorS6
namespace Go.Proofs.YtfpifbfnebfdaaaDoor
open Go.RowKit Go.Shelf
attribute [local go_sem] Gr.size Gr.cell? Gr.frozen? Gr.setCell Gr.drew Gr.drewN Gr.of_drew Gr.of_drewN Gr.gr Gr.lt_of1 Gr.le_of1 Gr.lt_of2 Gr.le_of2 Gr.lt_of3 Gr.le_of3 Gr.lt_of4 Gr.le_of4 Gr.lt_of5 Gr.le_of5 Gr.lt_of6 Gr.le_of6 Gr.lt_of7 Gr.le_of7 Gr.lt_of8 Gr.le_of8 Gr.lt_of9 Gr.le_of9 Gr.lt_of10 Gr.le_of10 Gr.lt_of11 Gr.le_of11 Gr.lt_of12 Gr.le_of12 Gr.lt_of13 Gr.le_of13 Gr.lt_of14 Gr.le_of14 Gr.lt_of15 Gr.le_of15 Gr.lt_of16 Gr.le_of16 Gr.lt_of17 Gr.le_of17 Gr.lt_of18 Gr.le_of18 Gr.lt_of19 Gr.le_of19 Gr.lt_of20 Gr.le_of20 Gr.lt_of21 Gr.le_of21 Gr.lt_of22 Gr.le_of22 Gr.lt_of23 Gr.le_of23 Gr.lt_of24 Gr.le_of24
set_option maxRecDepth 20000 in set_option maxHeartbeats 2000000 in
theorem digit_any (c : Int) (w : World) : Calls Tryd.prog 39 #[.int .u8 c] w fun e w' => e = .returned (.bool (dgB c)) ∧ w' = w := by
  obtain ⟨b, hb⟩ : ∃ b, dgB c = b := ⟨_, rfl⟩
  rw [hb]
  unfold dgB at hb
  by_cases h : 48 ≤ c
  · have hb2 : decide (c ≤ 57) = b := by rw [← hb, decide_eq_true h]; rfl
    have h' : decide (48 ≤ c) = true := decide_eq_true h
    clear hb
    go_enter Tryd.func39, Tryd.ntmps39
    go_wp2_with fail
    go_ret
    first | exact ⟨rfl, rfl⟩ | (refine ⟨?_, rfl⟩; rw [← hb2]; rfl)
  · have hb2 : b = false := by rw [← hb, decide_eq_false h]; rfl
    subst hb2
    have h' : decide (48 ≤ c) = false := decide_eq_false h
    clear hb
    go_enter Tryd.func39, Tryd.ntmps39
    go_wp2_with fail
    go_ret
    exact ⟨rfl, rfl⟩
set_option maxRecDepth 20000 in set_option maxHeartbeats 2000000 in
theorem state_d0 (a : Int) (c : Int) (hd : dgB c = true) (h1 : a ≤ 2) (h2 : 0 ≤ a) (w : World) : Calls Tryd.prog 24 #[.int .i64 a, .int .u8 c] w fun e w' => e = .returned (.int .i64 (2)) ∧ w' = w := by
  have CD := digit_any c w
  rw [hd] at CD
  go_enter Tryd.func24, Tryd.ntmps24
  go_wp2_with fail
  refine CD.mono ?_
  clear CD
  rintro e w1 ⟨rfl, e1⟩
  obtain rfl := e1.symm
  go_wp2_with fail
  go_ret
  exact ⟨rfl, rfl⟩

set_option maxRecDepth 20000 in set_option maxHeartbeats 2000000 in
theorem state_dm (a : Int) (c : Int) (hd : dgB c = true) (h2 : ¬ 0 ≤ a) (w : World) : Calls Tryd.prog 24 #[.int .i64 a, .int .u8 c] w fun e w' => e = .returned (.int .i64 (-1)) ∧ w' = w := by
  have CD := digit_any c w
  rw [hd] at CD
  have h1 : a ≤ 2 := by omega
  have n5 : ¬ 5 ≤ a := by omega
  have q3 : (a == 3) = false := by simp; omega
  have q4 : (a == 4) = false := by simp; omega
  go_enter Tryd.func24, Tryd.ntmps24
  go_wp2_with fail
  refine CD.mono ?_
  clear CD
  rintro e w1 ⟨rfl, e1⟩
  obtain rfl := e1.symm
  go_wp2_with fail
  go_ret
  exact ⟨rfl, rfl⟩

set_option maxRecDepth 20000 in set_option maxHeartbeats 2000000 in
theorem state_d3 (c : Int) (hd : dgB c = true) (w : World) : Calls Tryd.prog 24 #[.int .i64 3, .int .u8 c] w fun e w' => e = .returned (.int .i64 (4)) ∧ w' = w := by
  have CD := digit_any c w
  rw [hd] at CD
  go_enter Tryd.func24, Tryd.ntmps24
  go_wp2_with fail
  refine CD.mono ?_
  clear CD
  rintro e w1 ⟨rfl, e1⟩
  obtain rfl := e1.symm
  go_wp2_with fail
  go_ret
  exact ⟨rfl, rfl⟩

set_option maxRecDepth 20000 in set_option maxHeartbeats 2000000 in
theorem state_d4 (c : Int) (hd : dgB c = true) (w : World) : Calls Tryd.prog 24 #[.int .i64 4, .int .u8 c] w fun e w' => e = .returned (.int .i64 (4)) ∧ w' = w := by
  have CD := digit_any c w
  rw [hd] at CD
  go_enter Tryd.func24, Tryd.ntmps24
  go_wp2_with fail
  refine CD.mono ?_
  clear CD
  rintro e w1 ⟨rfl, e1⟩
  obtain rfl := e1.symm
  go_wp2_with fail
  go_ret
  exact ⟨rfl, rfl⟩

set_option maxRecDepth 20000 in set_option maxHeartbeats 2000000 in
theorem state_d5 (a : Int) (c : Int) (hd : dgB c = true) (h5 : 5 ≤ a) (w : World) : Calls Tryd.prog 24 #[.int .i64 a, .int .u8 c] w fun e w' => e = .returned (.int .i64 (7)) ∧ w' = w := by
  have CD := digit_any c w
  rw [hd] at CD
  have n1 : ¬ a ≤ 2 := by omega
  have q3 : (a == 3) = false := by simp; omega
  have q4 : (a == 4) = false := by simp; omega
  go_enter Tryd.func24, Tryd.ntmps24
  go_wp2_with fail
  refine CD.mono ?_
  clear CD
  rintro e w1 ⟨rfl, e1⟩
  obtain rfl := e1.symm
  go_wp2_with fail
  go_ret
  exact ⟨rfl, rfl⟩

set_option maxRecDepth 20000 in set_option maxHeartbeats 2000000 in
theorem state_s43_0  (w : World) : Calls Tryd.prog 24 #[.int .i64 0, .int .u8 43] w fun e w' => e = .returned (.int .i64 (1)) ∧ w' = w := by
  have CD := digit_any 43 w
  rw [(show dgB 43 = false from rfl)] at CD
  go_enter Tryd.func24, Tryd.ntmps24
  go_wp2_with fail
  refine CD.mono ?_
  clear CD
  rintro e w1 ⟨rfl, e1⟩
  obtain rfl := e1.symm
  go_wp2_with fail
  go_ret
  exact ⟨rfl, rfl⟩

set_option maxRecDepth 20000 in set_option maxHeartbeats 2000000 in
theorem state_s43_5  (w : World) : Calls Tryd.prog 24 #[.int .i64 5, .int .u8 43] w fun e w' => e = .returned (.int .i64 (6)) ∧ w' = w := by
  have CD := digit_any 43 w
  rw [(show dgB 43 = false from rfl)] at CD
  go_enter Tryd.func24, Tryd.ntmps24
  go_wp2_with fail
  refine CD.mono ?_
  clear CD
  rintro e w1 ⟨rfl, e1⟩
  obtain rfl := e1.symm
  go_wp2_with fail
  go_ret
  exact ⟨rfl, rfl⟩

set_option maxRecDepth 20000 in set_option maxHeartbeats 2000000 in
theorem state_s43_n (a : Int) (q0 : (a == 0) = false) (q5 : (a == 5) = false) (w : World) : Calls Tryd.prog 24 #[.int .i64 a, .int .u8 43] w fun e w' => e = .returned (.int .i64 (-1)) ∧ w' = w := by
  have CD := digit_any 43 w
  rw [(show dgB 43 = false from rfl)] at CD
  go_enter Tryd.func24, Tryd.ntmps24
  go_wp2_with fail
  refine CD.mono ?_
  clear CD
  rintro e w1 ⟨rfl, e1⟩
  obtain rfl := e1.symm
  go_wp2_with fail
  go_ret
  exact ⟨rfl, rfl⟩

set_option maxRecDepth 20000 in set_option maxHeartbeats 2000000 in
theorem state_s45_0  (w : World) : Calls Tryd.prog 24 #[.int .i64 0, .int .u8 45] w fun e w' => e = .returned (.int .i64 (1)) ∧ w' = w := by
  have CD := digit_any 45 w
  rw [(show dgB 45 = false from rfl)] at CD
  go_enter Tryd.func24, Tryd.ntmps24
  go_wp2_with fail
  refine CD.mono ?_
  clear CD
  rintro e w1 ⟨rfl, e1⟩
  obtain rfl := e1.symm
  go_wp2_with fail
  go_ret
  exact ⟨rfl, rfl⟩

set_option maxRecDepth 20000 in set_option maxHeartbeats 2000000 in
theorem state_s45_5  (w : World) : Calls Tryd.prog 24 #[.int .i64 5, .int .u8 45] w fun e w' => e = .returned (.int .i64 (6)) ∧ w' = w := by
  have CD := digit_any 45 w
  rw [(show dgB 45 = false from rfl)] at CD
  go_enter Tryd.func24, Tryd.ntmps24
  go_wp2_with fail
  refine CD.mono ?_
  clear CD
  rintro e w1 ⟨rfl, e1⟩
  obtain rfl := e1.symm
  go_wp2_with fail
  go_ret
  exact ⟨rfl, rfl⟩

set_option maxRecDepth 20000 in set_option maxHeartbeats 2000000 in
theorem state_s45_n (a : Int) (q0 : (a == 0) = false) (q5 : (a == 5) = false) (w : World) : Calls Tryd.prog 24 #[.int .i64 a, .int .u8 45] w fun e w' => e = .returned (.int .i64 (-1)) ∧ w' = w := by
  have CD := digit_any 45 w
  rw [(show dgB 45 = false from rfl)] at CD
  go_enter Tryd.func24, Tryd.ntmps24
  go_wp2_with fail
  refine CD.mono ?_
  clear CD
  rintro e w1 ⟨rfl, e1⟩
  obtain rfl := e1.symm
  go_wp2_with fail
  go_ret
  exact ⟨rfl, rfl⟩

set_option maxRecDepth 20000 in set_option maxHeartbeats 2000000 in
theorem state_p0  (w : World) : Calls Tryd.prog 24 #[.int .i64 0, .int .u8 46] w fun e w' => e = .returned (.int .i64 (3)) ∧ w' = w := by
  have CD := digit_any 46 w
  rw [(show dgB 46 = false from rfl)] at CD
  go_enter Tryd.func24, Tryd.ntmps24
  go_wp2_with fail
  refine CD.mono ?_
  clear CD
  rintro e w1 ⟨rfl, e1⟩
  obtain rfl := e1.symm
  go_wp2_with fail
  go_ret
  exact ⟨rfl, rfl⟩

set_option maxRecDepth 20000 in set_option maxHeartbeats 2000000 in
theorem state_p1  (w : World) : Calls Tryd.prog 24 #[.int .i64 1, .int .u8 46] w fun e w' => e = .returned (.int .i64 (3)) ∧ w' = w := by
  have CD := digit_any 46 w
  rw [(show dgB 46 = false from rfl)] at CD
  go_enter Tryd.func24, Tryd.ntmps24
  go_wp2_with fail
  refine CD.mono ?_
  clear CD
  rintro e w1 ⟨rfl, e1⟩
  obtain rfl := e1.symm
  go_wp2_with fail
  go_ret
  exact ⟨rfl, rfl⟩

set_option maxRecDepth 20000 in set_option maxHeartbeats 2000000 in
theorem state_p2  (w : World) : Calls Tryd.prog 24 #[.int .i64 2, .int .u8 46] w fun e w' => e = .returned (.int .i64 (4)) ∧ w' = w := by
  have CD := digit_any 46 w
  rw [(show dgB 46 = false from rfl)] at CD
  go_enter Tryd.func24, Tryd.ntmps24
  go_wp2_with fail
  refine CD.mono ?_
  clear CD
  rintro e w1 ⟨rfl, e1⟩
  obtain rfl := e1.symm
  go_wp2_with fail
  go_ret
  exact ⟨rfl, rfl⟩

set_option maxRecDepth 20000 in set_option maxHeartbeats 2000000 in
theorem state_pn (a : Int) (q0 : (a == 0) = false) (q1 : (a == 1) = false) (q2 : (a == 2) = false) (w : World) : Calls Tryd.prog 24 #[.int .i64 a, .int .u8 46] w fun e w' => e = .returned (.int .i64 (-1)) ∧ w' = w := by
  have CD := digit_any 46 w
  rw [(show dgB 46 = false from rfl)] at CD
  go_enter Tryd.func24, Tryd.ntmps24
  go_wp2_with fail
  refine CD.mono ?_
  clear CD
  rintro e w1 ⟨rfl, e1⟩
  obtain rfl := e1.symm
  go_wp2_with fail
  go_ret
  exact ⟨rfl, rfl⟩

set_option maxRecDepth 20000 in set_option maxHeartbeats 2000000 in
theorem state_e101_2  (w : World) : Calls Tryd.prog 24 #[.int .i64 2, .int .u8 101] w fun e w' => e = .returned (.int .i64 (5)) ∧ w' = w := by
  have CD := digit_any 101 w
  rw [(show dgB 101 = false from rfl)] at CD
  go_enter Tryd.func24, Tryd.ntmps24
  go_wp2_with fail
  refine CD.mono ?_
  clear CD
  rintro e w1 ⟨rfl, e1⟩
  obtain rfl := e1.symm
  go_wp2_with fail
  go_ret
  exact ⟨rfl, rfl⟩

set_option maxRecDepth 20000 in set_option maxHeartbeats 2000000 in
theorem state_e101_4  (w : World) : Calls Tryd.prog 24 #[.int .i64 4, .int .u8 101] w fun e w' => e = .returned (.int .i64 (5)) ∧ w' = w := by
  have CD := digit_any 101 w
  rw [(show dgB 101 = false from rfl)] at CD
  go_enter Tryd.func24, Tryd.ntmps24
  go_wp2_with fail
  refine CD.mono ?_
  clear CD
  rintro e w1 ⟨rfl, e1⟩
  obtain rfl := e1.symm
  go_wp2_with fail
  go_ret
  exact ⟨rfl, rfl⟩

set_option maxRecDepth 20000 in set_option maxHeartbeats 2000000 in
theorem state_e101_n (a : Int) (q2 : (a == 2) = false) (q4 : (a == 4) = false) (w : World) : Calls Tryd.prog 24 #[.int .i64 a, .int .u8 101] w fun e w' => e = .returned (.int .i64 (-1)) ∧ w' = w := by
  have CD := digit_any 101 w
  rw [(show dgB 101 = false from rfl)] at CD
  go_enter Tryd.func24, Tryd.ntmps24
  go_wp2_with fail
  refine CD.mono ?_
  clear CD
  rintro e w1 ⟨rfl, e1⟩
  obtain rfl := e1.symm
  go_wp2_with fail
  go_ret
  exact ⟨rfl, rfl⟩

set_option maxRecDepth 20000 in set_option maxHeartbeats 2000000 in
theorem state_e69_2  (w : World) : Calls Tryd.prog 24 #[.int .i64 2, .int .u8 69] w fun e w' => e = .returned (.int .i64 (5)) ∧ w' = w := by
  have CD := digit_any 69 w
  rw [(show dgB 69 = false from rfl)] at CD
  go_enter Tryd.func24, Tryd.ntmps24
  go_wp2_with fail
  refine CD.mono ?_
  clear CD
  rintro e w1 ⟨rfl, e1⟩
  obtain rfl := e1.symm
  go_wp2_with fail
  go_ret
  exact ⟨rfl, rfl⟩

set_option maxRecDepth 20000 in set_option maxHeartbeats 2000000 in
theorem state_e69_4  (w : World) : Calls Tryd.prog 24 #[.int .i64 4, .int .u8 69] w fun e w' => e = .returned (.int .i64 (5)) ∧ w' = w := by
  have CD := digit_any 69 w
  rw [(show dgB 69 = false from rfl)] at CD
  go_enter Tryd.func24, Tryd.ntmps24
  go_wp2_with fail
  refine CD.mono ?_
  clear CD
  rintro e w1 ⟨rfl, e1⟩
  obtain rfl := e1.symm
  go_wp2_with fail
  go_ret
  exact ⟨rfl, rfl⟩

set_option maxRecDepth 20000 in set_option maxHeartbeats 2000000 in
theorem state_e69_n (a : Int) (q2 : (a == 2) = false) (q4 : (a == 4) = false) (w : World) : Calls Tryd.prog 24 #[.int .i64 a, .int .u8 69] w fun e w' => e = .returned (.int .i64 (-1)) ∧ w' = w := by
  have CD := digit_any 69 w
  rw [(show dgB 69 = false from rfl)] at CD
  go_enter Tryd.func24, Tryd.ntmps24
  go_wp2_with fail
  refine CD.mono ?_
  clear CD
  rintro e w1 ⟨rfl, e1⟩
  obtain rfl := e1.symm
  go_wp2_with fail
  go_ret
  exact ⟨rfl, rfl⟩

set_option maxRecDepth 20000 in set_option maxHeartbeats 2000000 in
theorem state_o (a c : Int) (hd : dgB c = false) (q1 : (c == 43) = false) (q2 : (c == 45) = false) (q3 : (c == 46) = false) (q4 : (c == 101) = false) (q5 : (c == 69) = false) (w : World) : Calls Tryd.prog 24 #[.int .i64 a, .int .u8 c] w fun e w' => e = .returned (.int .i64 (-1)) ∧ w' = w := by
  have CD := digit_any c w
  rw [hd] at CD
  go_enter Tryd.func24, Tryd.ntmps24
  go_wp2_with fail
  refine CD.mono ?_
  clear CD
  rintro e w1 ⟨rfl, e1⟩
  obtain rfl := e1.symm
  go_wp2_with fail
  go_ret
  exact ⟨rfl, rfl⟩
theorem bne' {a k : Int} (h : ¬ a = k) : (a == k) = false := by simpa using h
theorem state_any (a c : Int) (w : World) : Calls Tryd.prog 24 #[.int .i64 a, .int .u8 c] w fun e w' => e = .returned (.int .i64 (stI a c)) ∧ w' = w := by
  unfold stI
  by_cases hd : dgB c = true
  · rw [if_pos hd]
    by_cases h1 : 0 ≤ a ∧ a ≤ 2
    · rw [if_pos h1]; exact state_d0 a c hd h1.2 h1.1 w
    · rw [if_neg h1]
      by_cases h3 : a = 3
      · subst h3; exact state_d3 c hd w
      · by_cases h4 : a = 4
        · subst h4; exact state_d4 c hd w
        · rw [if_neg (by omega)]
          by_cases h5 : 5 ≤ a
          · rw [if_pos h5]; exact state_d5 a c hd h5 w
          · rw [if_neg h5]; exact state_dm a c hd (by omega) w
  · rw [if_neg hd]
    have hd : dgB c = false := by simpa using hd
    have sg : ∀ ch, (ch = 43 ∨ ch = 45) → c = ch → Calls Tryd.prog 24 #[.int .i64 a, .int .u8 c] w fun e w' => e = .returned (.int .i64 (if a = 0 then 1 else if a = 5 then 6 else -1)) ∧ w' = w := fun ch hch e => by
      subst e
      by_cases h0 : a = 0
      · subst h0
        rcases hch with rfl | rfl
        · exact state_s43_0 w
        · exact state_s45_0 w
      · by_cases h5 : a = 5
        · subst h5
          rcases hch with rfl | rfl
          · exact state_s43_5 w
          · exact state_s45_5 w
        · rw [if_neg h0, if_neg h5]
          rcases hch with rfl | rfl
          · exact state_s43_n a (bne' h0) (bne' h5) w
          · exact state_s45_n a (bne' h0) (bne' h5) w
    by_cases k1 : c = 43
    · rw [if_pos (Or.inl k1)]; exact sg 43 (Or.inl rfl) k1
    · by_cases k2 : c = 45
      · rw [if_pos (Or.inr k2)]; exact sg 45 (Or.inr rfl) k2
      · rw [if_neg (by omega)]
        by_cases k3 : c = 46
        · subst k3
          rw [if_pos rfl]
          by_cases h0 : a = 0
          · subst h0; exact state_p0 w
          · by_cases h1 : a = 1
            · subst h1; exact state_p1 w
            · rw [if_neg (by omega)]
              by_cases h2 : a = 2
              · subst h2; exact state_p2 w
              · rw [if_neg h2]; exact state_pn a (bne' h0) (bne' h1) (bne' h2) w
        · rw [if_neg k3]
          have ex : ∀ ch, (ch = 101 ∨ ch = 69) → c = ch → Calls Tryd.prog 24 #[.int .i64 a, .int .u8 c] w fun e w' => e = .returned (.int .i64 (if a = 2 ∨ a = 4 then 5 else -1)) ∧ w' = w := fun ch hch e => by
            subst e
            by_cases h2 : a = 2
            · subst h2
              rcases hch with rfl | rfl
              · exact state_e101_2 w
              · exact state_e69_2 w
            · by_cases h4 : a = 4
              · subst h4
                rcases hch with rfl | rfl
                · exact state_e101_4 w
                · exact state_e69_4 w
              · rw [if_neg (by omega)]
                rcases hch with rfl | rfl
                · exact state_e101_n a (bne' h2) (bne' h4) w
                · exact state_e69_n a (bne' h2) (bne' h4) w
          by_cases k4 : c = 101
          · have := ex 101 (Or.inl rfl) k4
            by_cases h : a = 2 ∨ a = 4
            · rw [if_pos h] at this; rw [if_pos ⟨Or.inl k4, h⟩]; exact this
            · rw [if_neg h] at this; rw [if_neg (fun q => h q.2)]; exact this
          · by_cases k5 : c = 69
            · have := ex 69 (Or.inr rfl) k5
              by_cases h : a = 2 ∨ a = 4
              · rw [if_pos h] at this; rw [if_pos ⟨Or.inr k5, h⟩]; exact this
              · rw [if_neg h] at this; rw [if_neg (fun q => h q.2)]; exact this
            · rw [if_neg (by omega)]
              exact state_o a c hd (bne' k1) (bne' k2) (bne' k3) (bne' k4) (bne' k5) w
set_option maxRecDepth 20000 in set_option maxHeartbeats 2000000 in
theorem RRight_any (s : ByteArray) (w : World) (hs : s.size ≤ 100000) : Calls Tryd.prog 9 #[.string s] w fun e w' => e = .returned (.bool (rgtB (bts s))) ∧ w' = w := by
  have CS := fun a c w => state_any a c w
  have HS : Hid (s.size ≤ 100000) := hs
  go_enter Tryd.func9, Tryd.ntmps9
  go_wp2_with fail
  go_loopg [3, 4] s.size (fun r p3 p4 wr => wr = w ∧ ∃ (i : Nat) (a : Int), i + r = s.size ∧ p4 = .int .i64 i ∧ p3 = .int .i64 a ∧ Hid (a = stL 0 ((bts s).take i)))
  case atStart => exact ⟨rfl, 0, 0, by omega, rfl, rfl, rfl⟩
  case round =>
    obtain ⟨hww, i, a, hk, rfl, rfl, HA⟩ := hrel
    obtain rfl := hww.symm
    by_cases hi : i < s.size
    · have hat := bts_at hi
      have HT : Hid (stI a ((s[i]'hi).toNat : Int) = stL 0 ((bts s).take (i + 1))) := by
        show _ = _
        rw [takeS (by rw [bts_len]; exact hi), stL_snoc, ← HA.out, hat]
      have hi' : (i : Int) < s.size := by omega
      have e1 : IntKind.i64.wrap ((i : Int) + 1) = (i : Int) + 1 := by rw [IntKind.wrap_i64]; have := HS.out; omega
      clear hat
      go_wp2_with fail
      refine (CS _ _ _).mono ?_
      rintro e w2 ⟨rfl, e2⟩
      obtain rfl := e2.symm
      go_wp2_with fail
      go_roundg (s.size - (i + 1))
      case measure => omega
      case rel => exact ⟨rfl, i + 1, _, by omega, by simp, rfl, HT.out⟩
    · have hi' : ¬ (i : Int) < s.size := by omega
      have HE : Hid (rgtB (bts s) = okS a) := by
        show _ = _
        have := HA.out
        rw [List.take_of_length_le (by rw [bts_len]; omega)] at this
        rw [this]; rfl
      cases h2 : (a == 2) with
      | true =>
        have H2 : Hid ((a == 2) = true) := h2
        go_wp2_with fail
        go_ret
        exact ⟨by rw [HE.out]; unfold okS; rw [H2.out]; rfl, rfl⟩
      | false =>
        have H2 : Hid ((a == 2) = false) := h2
        cases h4 : (a == 4) with
        | true =>
          have H4 : Hid ((a == 4) = true) := h4
          go_wp2_with fail
          go_ret
          exact ⟨by rw [HE.out]; unfold okS; rw [H2.out, H4.out]; rfl, rfl⟩
        | false =>
          have H4 : Hid ((a == 4) = false) := h4
          obtain ⟨b, hb⟩ : ∃ b, (a == 7) = b := ⟨_, rfl⟩
          have H7 : Hid ((a == 7) = b) := hb
          go_wp2_with fail
          go_ret
          exact ⟨by rw [HE.out]; unfold okS; rw [H2.out, H4.out, H7.out]; rfl, rfl⟩

end Go.Proofs.YtfpifbfnebfdaaaDoor
