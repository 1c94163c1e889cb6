/- gromalaw05 over the loaded program: awake; gromaref05.Deep. -/
import Derived.Test.YtaackkfegkmpkaaE20
namespace Go.Proofs.Ytaackkfegkmpkaa
open Go.RowKit Go.Shelf
attribute [local go_sem] Gr.size Gr.cell? Gr.frozen? Gr.setCell Gr.drew Gr.drewN Gr.of_drew Gr.of_drewN Gr.gr Gr.lt_of1 Gr.le_of1 Gr.lt_of2 Gr.le_of2 Gr.lt_of3 Gr.le_of3 Gr.lt_of4 Gr.le_of4 Gr.lt_of5 Gr.le_of5 Gr.lt_of6 Gr.le_of6 Gr.lt_of7 Gr.le_of7 Gr.lt_of8 Gr.le_of8 Gr.lt_of9 Gr.le_of9 Gr.lt_of10 Gr.le_of10 Gr.lt_of11 Gr.le_of11 Gr.lt_of12 Gr.le_of12 Gr.lt_of13 Gr.le_of13 Gr.lt_of14 Gr.le_of14 Gr.lt_of15 Gr.le_of15 Gr.lt_of16 Gr.le_of16 Gr.lt_of17 Gr.le_of17 Gr.lt_of18 Gr.le_of18 Gr.lt_of19 Gr.le_of19 Gr.lt_of20 Gr.le_of20 Gr.lt_of21 Gr.le_of21 Gr.lt_of22 Gr.le_of22 Gr.lt_of23 Gr.le_of23 Gr.lt_of24 Gr.le_of24
theorem i64_lit {z : Int} (h : decide (-9223372036854775808 ≤ z ∧ z < 9223372036854775808) = true) : I64 z := of_decide_eq_true (p := -9223372036854775808 ≤ z ∧ z < 9223372036854775808) h
theorem below_wr {S : List Nat} {w w1 w2 : World} {n : Nat} (h : Below n w w1) (hn : n ≤ w.heap.size) (hg : Wr S w1 w2) (hS : ∀ b ∈ S, n ≤ b) : Below n w w2 := h.trans (hg.below (Nat.le_trans hn h.size) hS)
set_option maxRecDepth 20000 in set_option maxHeartbeats 1000000 in
theorem awake_any (w : World) : Calls Try.prog 10 #[] w fun e w' => e = .returned (.bool true) ∧ Below w.heap.size w w' := by
  go_enter Try.func10, Try.ntmps10
  go_wp2_with fail
  refine (New_any 9 w).mono ?_
  rintro e w1 ⟨rfl, e1⟩
  have S1 : St tq w1 w.heap.size 9 .nil := e1 ▸ New_St tq 9 w
  have B1 : Below w.heap.size w w1 := e1 ▸ ((IsGr.refl w).alloc _).below
  obtain ⟨t, ht⟩ : ∃ t, w.heap.size = t := ⟨_, rfl⟩
  rw [ht] at S1
  have lt : Hid (t = w.heap.size) := ht.symm
  rw [ht]
  clear e1 ht
  go_wp2_with fail
  refine (Put_new tens_ordr 50 (i64_lit (by decide)) _ S1 rfl (by simp [AT.inl])).mono ?_
  rintro e w2 ⟨b1, hb1, rfl, S2, W2⟩
  replace S2 : St tq w2 t 9 (.nd b1 50 .nil .nil) := S2
  have B2 := below_wr B1 (Nat.le_refl _) W2 (by simp [AT.ids, AT.inl, lt.out])
  have k1 : w.heap.size ≤ b1 := Nat.le_trans B1.size hb1
  clear S1 W2 B1 hb1
  go_wp2_with fail
  refine (Put_new tens_ordr 30 (i64_lit (by decide)) _ S2 rfl (by simp [AT.inl])).mono ?_
  rintro e w3 ⟨b2, hb2, rfl, S3, W3⟩
  replace S3 : St tq w3 t 9 (.nd b1 50 (.nd b2 30 .nil .nil) .nil) := S3
  have B3 := below_wr B2 (Nat.le_refl _) W3 (by simp [AT.ids, AT.inl, lt.out, k1])
  have k2 : w.heap.size ≤ b2 := Nat.le_trans B2.size hb2
  clear S2 W3 B2 hb2
  go_wp2_with fail
  refine (Put_new tens_ordr 80 (i64_lit (by decide)) _ S3 rfl (by simp [AT.inl])).mono ?_
  rintro e w4 ⟨b3, hb3, rfl, S4, W4⟩
  replace S4 : St tq w4 t 9 (.nd b1 50 (.nd b2 30 .nil .nil) (.nd b3 80 .nil .nil)) := S4
  have B4 := below_wr B3 (Nat.le_refl _) W4 (by simp [AT.ids, AT.inl, lt.out, k1, k2])
  clear S3 W4 B3 hb3 k1 k2
  go_wp2_with fail
  refine (Put_old tens_ordr 55 (i64_lit (by decide)) _ S4 rfl).mono ?_
  rintro e w5 ⟨rfl, hg5⟩
  have S5 := S4.gr hg5
  have B5 := B4.trans (hg5.below.mono B4.size)
  clear S4 hg5 B4
  go_wp2_with fail
  refine (Next_any tens_ordr 50 (i64_lit (by decide)) _ S5 80 true ⟨rfl, rfl⟩).mono ?_
  rintro e w6 ⟨rfl, hg6⟩
  have S6 := S5.gr hg6
  have B6 := B5.trans (hg6.below.mono B5.size)
  clear S5 hg6 B5
  go_wp2_with fail
  refine (Next_any tens_ordr 40 (i64_lit (by decide)) _ S6 50 true ⟨rfl, rfl⟩).mono ?_
  rintro e w7 ⟨rfl, hg7⟩
  have S7 := S6.gr hg7
  have B7 := B6.trans (hg7.below.mono B6.size)
  clear S6 hg7 B6
  have CL := Len_any _ S7
  have CC := Check_any tens_ordr _ S7 (by simp [AT.inl])
  have CD := fun w' (hb : Below w7.heap.size w7 w') => Deep_any _ (S7.wr (Wr.of_below hb) (by simp))
  replace CL : Calls Try.prog 13 #[.pointer (some ⟨t, 0, none⟩)] w7 fun e w' => e = .returned (.int .i64 3) ∧ w' = w7 := CL
  replace CD : ∀ w', Below w7.heap.size w7 w' → Calls Try.prog 23 #[.pointer (some ⟨t, 0, none⟩)] w' fun e w'' => e = .returned (.int .i64 2) ∧ w'' = w' := CD
  clear S7
  go_wp2_with fail
  refine CL.mono ?_
  rintro e w8 ⟨rfl, e8⟩
  obtain rfl := e8.symm
  go_wp2_with fail
  refine CC.mono ?_
  rintro e w9 ⟨rfl, h9⟩
  go_wp2_with fail
  refine (CD _ h9).mono ?_
  rintro e wa ⟨rfl, ea⟩
  obtain rfl := ea.symm
  go_wp2_with fail
  go_ret
  exact ⟨rfl, lt.out ▸ B7.trans (h9.mono B7.size)⟩
theorem least_lt (d : Nat) : least (d + 1) < least (d + 2) := by
  simp only [least]; have := least_mono d; cases d with
  | zero => simp [least]
  | succ d => have : 0 < least (d + 1) := by
                induction d with
                | zero => simp [least]
                | succ d ih => simp only [least]; omega
              omega
theorem least_le {a b : Nat} (h : a ≤ b) : least a ≤ least b := by
  induction b with
  | zero => obtain rfl : a = 0 := by omega
            exact Nat.le_refl _
  | succ b ih =>
    rcases Nat.lt_or_ge b a with h1 | h1
    · obtain rfl : a = b + 1 := by omega
      exact Nat.le_refl _
    · exact Nat.le_trans (ih h1) (least_mono b)
set_option maxRecDepth 20000 in set_option maxHeartbeats 1000000 in
theorem RDeep_any (n : Nat) (hn : n ≤ 1000) (w : World) : Calls Try.prog 24 #[.int .i64 (n : Nat)] w fun e w' => ∃ d : Nat, n < least (d + 1) ∧ d ≤ n ∧ e = .returned (.int .i64 d) ∧ w' = w := by
  have hn' : (n : Int) ≤ 1000 := by omega
  go_enter Try.func24, Try.ntmps24
  go_wp2_with fail
  go_loopg [3, 4, 5] n (fun r p3 p4 p5 wr => wr = w ∧ ∃ d a b : Nat, p3 = .int .i64 a ∧ p4 = .int .i64 b ∧ p5 = .int .i64 d ∧ n < b + r ∧ d ≤ n ∧ a ≤ b ∧ b ≤ 2 * n + 1 ∧ Hid (a = least d ∧ b = least (d + 1) ∧ d < b ∧ (d = 0 ∨ a ≤ n)))
  case atStart => exact ⟨rfl, 0, 0, 1, rfl, rfl, rfl, by omega, by omega, by omega, by omega, rfl, rfl, by omega, Or.inl rfl⟩
  case round =>
    obtain ⟨rfl, d, a, b, rfl, rfl, rfl, hr, hd, hab, hb, hQ⟩ := hrel
    by_cases hbn : b ≤ n
    · have hbn' : (b : Int) ≤ n := by omega
      have e1 : IntKind.i64.wrap ((a : Int) + b) = (a : Int) + b := by rw [IntKind.wrap_i64]; omega
      have e2 : IntKind.i64.wrap ((a : Int) + b + 1) = (a : Int) + b + 1 := by rw [IntKind.wrap_i64]; omega
      have e3 : IntKind.i64.wrap ((d : Int) + 1) = (d : Int) + 1 := by rw [IntKind.wrap_i64]; omega
      go_wp2_with fail
      have q := hQ.out
      have hlt := least_lt d
      have e4 : least (d + 2) = least d + least (d + 1) + 1 := rfl
      go_roundg (n - (a + b))
      case measure => omega
      case rel => exact ⟨rfl, d + 1, b, a + b + 1, by simp, by simp, by simp, by omega, by omega, by omega, by omega, q.2.1, by rw [e4]; omega, by omega, Or.inr hbn⟩
    · have hbn' : ¬ (b : Int) ≤ n := by omega
      go_wp2_with fail
      go_ret
      have q := hQ.out
      exact ⟨d, by omega, hd, rfl, rfl⟩
end Go.Proofs.Ytaackkfegkmpkaa
