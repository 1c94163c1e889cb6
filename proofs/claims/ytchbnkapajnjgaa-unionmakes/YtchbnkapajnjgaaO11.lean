/- gromalaw08 over the loaded program: UnionMakes' law. -/
import Derived.Test.YtchbnkapajnjgaaO10
namespace Go.Proofs.Ytchbnkapajnjgaa
open Go.RowKit Go.Shelf
attribute [local go_sem] Gr.size Gr.cell? Gr.frozen? Gr.setCell Gr.drew Gr.drewN Gr.of_drew Gr.of_drewN Gr.gr Gr.lt_of1 Gr.le_of1 Gr.lt_of2 Gr.le_of2 Gr.lt_of3 Gr.le_of3 Gr.lt_of4 Gr.le_of4 Gr.lt_of5 Gr.le_of5 Gr.lt_of6 Gr.le_of6 Gr.lt_of7 Gr.le_of7 Gr.lt_of8 Gr.le_of8 Gr.lt_of9 Gr.le_of9 Gr.lt_of10 Gr.le_of10 Gr.lt_of11 Gr.le_of11 Gr.lt_of12 Gr.le_of12 Gr.lt_of13 Gr.le_of13 Gr.lt_of14 Gr.le_of14 Gr.lt_of15 Gr.le_of15 Gr.lt_of16 Gr.le_of16 Gr.lt_of17 Gr.le_of17 Gr.lt_of18 Gr.le_of18 Gr.lt_of19 Gr.le_of19 Gr.lt_of20 Gr.le_of20 Gr.lt_of21 Gr.le_of21 Gr.lt_of22 Gr.le_of22 Gr.lt_of23 Gr.le_of23 Gr.lt_of24 Gr.le_of24
theorem Un.sbr {w : World} {base t gu gz gm m : Nat} (h : Un w base t gu gz gm (rng m)) : Sb w t gu gz gm m (m : Nat) := by
  have := h.sb
  rw [rng_len, cntU_rng (Nat.le_refl _)] at this
  exact this
theorem wth_self (m : Nat) : wth (m : Int) (m : Int) = false := by unfold wth; simp

set_option maxRecDepth 20000 in set_option maxHeartbeats 2000000 in
theorem law_makes_in (m : Nat) (hm : m ≤ 1048576) (w : World) : Calls Try.prog 6 #[.int .i64 m] w fun e w' => e = .returned (.bool true) ∧ Below w.heap.size w w' := by
  have CN := New_any m w
  have q1 : ¬ (m : Int) < 0 := by omega
  have q2 : ¬ (1048576 : Int) < m := by omega
  have q3 : (m : Int) ≤ 1048576 := by omega
  rw [show mkn (m : Int) = m by unfold mkn; rw [if_pos (by omega)]; omega] at CN
  go_enter Try.func6, Try.ntmps6
  go_wp2_with fail
  refine CN.mono ?_
  clear CN
  rintro e w1 ⟨t, rfl, ⟨gu, gz, gm, hu⟩, hb⟩
  have C1 := Least_no (m : Nat) w1 hu.sbr (wth_self _)
  have C2 := Len_any w1 hu.sbr
  have C3 := Count_any w1 hu.sbr
  have C4 := awake_any w1
  have HB : Hid (Below w.heap.size w w1) := hb
  clear hu hb
  go_wp2_with fail
  refine C1.mono ?_
  clear C1
  rintro e w2 ⟨rfl, e2⟩
  obtain rfl := e2.symm
  go_wp2_with fail
  refine C2.mono ?_
  clear C2
  rintro e w2 ⟨rfl, e2⟩
  obtain rfl := e2.symm
  go_wp2_with fail
  refine C3.mono ?_
  clear C3
  rintro e w2 ⟨rfl, e2⟩
  obtain rfl := e2.symm
  go_wp2_with fail
  refine C4.mono ?_
  clear C4
  rintro e w2 ⟨rfl, hb2⟩
  go_wp2_with fail
  go_ret
  exact ⟨rfl, HB.out.trans (hb2.mono HB.out.size)⟩

set_option maxRecDepth 20000 in set_option maxHeartbeats 2000000 in
theorem law_makes_lo (k : Int) (q1 : k < 0) (w : World) : Calls Try.prog 6 #[.int .i64 k] w fun e w' => e = .returned (.bool true) ∧ Below w.heap.size w w' := by
  have CN := New_any k w
  rw [show mkn k = 0 by unfold mkn; rw [if_neg (by omega)]] at CN
  go_enter Try.func6, Try.ntmps6
  go_wp2_with fail
  refine CN.mono ?_
  clear CN
  rintro e w1 ⟨t, rfl, ⟨gu, gz, gm, hu⟩, hb⟩
  have C1 := Least_no (0 : Nat) w1 hu.sbr (wth_self _)
  have C2 := Len_any w1 hu.sbr
  have C3 := Count_any w1 hu.sbr
  have C4 := awake_any w1
  have HB : Hid (Below w.heap.size w w1) := hb
  clear hu hb
  go_wp2_with fail
  refine C1.mono ?_
  clear C1
  rintro e w2 ⟨rfl, e2⟩
  obtain rfl := e2.symm
  go_wp2_with fail
  refine C2.mono ?_
  clear C2
  rintro e w2 ⟨rfl, e2⟩
  obtain rfl := e2.symm
  go_wp2_with fail
  refine C3.mono ?_
  clear C3
  rintro e w2 ⟨rfl, e2⟩
  obtain rfl := e2.symm
  go_wp2_with fail
  refine C4.mono ?_
  clear C4
  rintro e w2 ⟨rfl, hb2⟩
  go_wp2_with fail
  go_ret
  exact ⟨rfl, HB.out.trans (hb2.mono HB.out.size)⟩

set_option maxRecDepth 20000 in set_option maxHeartbeats 2000000 in
theorem law_makes_hi (k : Int) (q2 : 1048576 < k) (w : World) : Calls Try.prog 6 #[.int .i64 k] w fun e w' => e = .returned (.bool true) ∧ Below w.heap.size w w' := by
  have CN := New_any k w
  have q1 : ¬ k < 0 := by omega
  rw [show mkn k = 0 by unfold mkn; rw [if_neg (by omega)]] at CN
  go_enter Try.func6, Try.ntmps6
  go_wp2_with fail
  refine CN.mono ?_
  clear CN
  rintro e w1 ⟨t, rfl, ⟨gu, gz, gm, hu⟩, hb⟩
  have C1 := Least_no (0 : Nat) w1 hu.sbr (wth_self _)
  have C2 := Len_any w1 hu.sbr
  have C3 := Count_any w1 hu.sbr
  have C4 := awake_any w1
  have HB : Hid (Below w.heap.size w w1) := hb
  clear hu hb
  go_wp2_with fail
  refine C1.mono ?_
  clear C1
  rintro e w2 ⟨rfl, e2⟩
  obtain rfl := e2.symm
  go_wp2_with fail
  refine C2.mono ?_
  clear C2
  rintro e w2 ⟨rfl, e2⟩
  obtain rfl := e2.symm
  go_wp2_with fail
  refine C3.mono ?_
  clear C3
  rintro e w2 ⟨rfl, e2⟩
  obtain rfl := e2.symm
  go_wp2_with fail
  refine C4.mono ?_
  clear C4
  rintro e w2 ⟨rfl, hb2⟩
  go_wp2_with fail
  go_ret
  exact ⟨rfl, HB.out.trans (hb2.mono HB.out.size)⟩
theorem law_makes (k : Int) (w : World) : Calls Try.prog 6 #[.int .i64 k] w fun e w' => e = .returned (.bool true) ∧ Below w.heap.size w w' := by
  by_cases h1 : k < 0
  · exact law_makes_lo k h1 w
  · by_cases h2 : 1048576 < k
    · exact law_makes_hi k h2 w
    · have h := law_makes_in k.toNat (by omega) w
      have hk : ((k.toNat : Nat) : Int) = k := by omega
      rw [hk] at h
      exact h
theorem law_makes_row (k : Int) (_ : -9223372036854775808 ≤ k) (_ : k < 9223372036854775808) (w : World) : Calls Try.prog 6 #[.int .i64 k] w fun e w' => e = .returned (.bool true) ∧ Below w.heap.size w w' := law_makes k w
end Go.Proofs.Ytchbnkapajnjgaa
