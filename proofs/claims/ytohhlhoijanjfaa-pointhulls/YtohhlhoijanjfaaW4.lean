/- Contracts of package wide over the loaded program: how long a size is. -/
import Derived.Test.YtohhlhoijanjfaaW3
import Derived.Test.YtohhlhoijanjfaaM2
import Derived.Test.YtohhlhoijanjfaaShelf
namespace Go.Proofs.Ytohhlhoijanjfaa
open Go.RowKit Go.Shelf
attribute [local go_sem] Gr.size Gr.cell? Gr.frozen? Gr.setCell Gr.drew Gr.drewN Gr.of_drew Gr.of_drewN Gr.gr Gr.lt_of1 Gr.le_of1 Gr.lt_of2 Gr.le_of2 Gr.lt_of3 Gr.le_of3 Gr.lt_of4 Gr.le_of4 Gr.lt_of5 Gr.le_of5 Gr.lt_of6 Gr.le_of6 Gr.lt_of7 Gr.le_of7 Gr.lt_of8 Gr.le_of8

set_option maxHeartbeats 1000000 in
theorem length_any (x0 x1 x2 x3 x : Int) (hx : Is x0 x1 x2 x3 x) (w : World) :
    Calls Try.prog 98 #[.agg #[.int .u64 x0, .int .u64 x1, .int .u64 x2, .int .u64 x3]] w fun e w' => ∃ L : Nat, e = .returned (.int .i64 L) ∧ L ≤ 256 ∧ BL x L ∧ IsGr w w' := by
  have hX := hx
  obtain ⟨a0, b0, a1, b1, a2, b2, a3, b3, hE⟩ := hX
  clear hE
  by_cases h3 : x3 = 0
  · by_cases h2 : x2 = 0
    · by_cases h1 : x1 = 0
      · by_cases h0 : x0 = 0
        · subst h0 h1 h2 h3
          go_enter Try.func98, Try.ntmps98
          go_wp2
          refine wp_loop_rounds 5 ?_
          rw [rounds_succ]; go_wp2
          rw [rounds_succ]; go_wp2
          rw [rounds_succ]; go_wp2
          rw [rounds_succ]; go_wp2
          rw [rounds_succ]; go_wp2
          go_ret
          exact ⟨0, rfl, by omega, by rw [show x = 0 by unfold Is at hx; omega]; exact BL.zero, (by with_reducible repeat (first | exact IsGr.refl _ | refine IsGr.gr ?_ _ _ | refine IsGr.alloc ?_ _ | refine IsGr.drew ?_ | refine IsGr.drewN ?_ _))⟩
        · have hb := bl_word x0 (by omega) (by omega)
          generalize hL : Lib.bitLen x0.toNat = L at hb
          have HL : Hid (Lib.bitLen x0.toNat = L) := hL
          clear hL
          obtain ⟨l1, l2, l3⟩ := hb
          have hR : L ≤ 256 ∧ BL x L := ⟨by omega, by rwa [show x = x0 by unfold Is at hx; omega]⟩
          clear hx l3
          subst h1 h2 h3
          go_enter Try.func98, Try.ntmps98
          go_wp2
          refine wp_loop_rounds 5 ?_
          rw [rounds_succ]; go_wp2
          rw [rounds_succ]; go_wp2
          rw [rounds_succ]; go_wp2
          rw [rounds_succ]; go_wp2_with fail
          refine (Try.bits_Len64 x0 _ (by omega) (by omega)).mono ?_
          rintro e w1 ⟨rfl, hw⟩
          rw [hw, HL.out]
          go_wp2
          go_ret
          exact ⟨L, rfl, hR.1, hR.2, (by with_reducible repeat (first | exact IsGr.refl _ | refine IsGr.gr ?_ _ _ | refine IsGr.alloc ?_ _ | refine IsGr.drew ?_ | refine IsGr.drewN ?_ _))⟩
      · have hb := bl_word x1 (by omega) (by omega)
        generalize hL : Lib.bitLen x1.toNat = L at hb
        have HL : Hid (Lib.bitLen x1.toNat = L) := hL
        clear hL
        obtain ⟨l1, l2, l3⟩ := hb
        have hR : BL x (64 + L) := bl_shift x1 x x0 L 64 l1 l3 (by unfold Is at hx; omega) (by omega) (by omega)
        clear hx l3
        subst h2 h3
        go_enter Try.func98, Try.ntmps98
        go_wp2
        refine wp_loop_rounds 5 ?_
        rw [rounds_succ]; go_wp2
        rw [rounds_succ]; go_wp2
        rw [rounds_succ]; go_wp2_with fail
        refine (Try.bits_Len64 x1 _ (by omega) (by omega)).mono ?_
        rintro e w1 ⟨rfl, hw⟩
        rw [hw, HL.out]
        go_wp2
        go_ret
        exact ⟨64 + L, by simp, by omega, hR, (by with_reducible repeat (first | exact IsGr.refl _ | refine IsGr.gr ?_ _ _ | refine IsGr.alloc ?_ _ | refine IsGr.drew ?_ | refine IsGr.drewN ?_ _))⟩
    · have hb := bl_word x2 (by omega) (by omega)
      generalize hL : Lib.bitLen x2.toNat = L at hb
      have HL : Hid (Lib.bitLen x2.toNat = L) := hL
      clear hL
      obtain ⟨l1, l2, l3⟩ := hb
      have hR : BL x (128 + L) := bl_shift x2 x (x0 + 18446744073709551616 * x1) L 128 l1 l3 (by unfold Is at hx; omega) (by omega) (by omega)
      clear hx l3
      subst h3
      go_enter Try.func98, Try.ntmps98
      go_wp2
      refine wp_loop_rounds 5 ?_
      rw [rounds_succ]; go_wp2
      rw [rounds_succ]; go_wp2_with fail
      refine (Try.bits_Len64 x2 _ (by omega) (by omega)).mono ?_
      rintro e w1 ⟨rfl, hw⟩
      rw [hw, HL.out]
      go_wp2
      go_ret
      exact ⟨128 + L, by simp, by omega, hR, (by with_reducible repeat (first | exact IsGr.refl _ | refine IsGr.gr ?_ _ _ | refine IsGr.alloc ?_ _ | refine IsGr.drew ?_ | refine IsGr.drewN ?_ _))⟩
  · have hb := bl_word x3 (by omega) (by omega)
    generalize hL : Lib.bitLen x3.toNat = L at hb
    have HL : Hid (Lib.bitLen x3.toNat = L) := hL
    clear hL
    obtain ⟨l1, l2, l3⟩ := hb
    have hR : BL x (192 + L) := bl_shift x3 x (x0 + 18446744073709551616 * x1 + 340282366920938463463374607431768211456 * x2) L 192 l1 l3 (by unfold Is at hx; omega) (by omega) (by omega)
    clear hx l3
    go_enter Try.func98, Try.ntmps98
    go_wp2
    refine wp_loop_rounds 5 ?_
    rw [rounds_succ]; go_wp2_with fail
    refine (Try.bits_Len64 x3 _ (by omega) (by omega)).mono ?_
    rintro e w1 ⟨rfl, hw⟩
    rw [hw, HL.out]
    go_wp2
    go_ret
    exact ⟨192 + L, by simp, by omega, hR, (by with_reducible repeat (first | exact IsGr.refl _ | refine IsGr.gr ?_ _ _ | refine IsGr.alloc ?_ _ | refine IsGr.drew ?_ | refine IsGr.drewN ?_ _))⟩

end Go.Proofs.Ytohhlhoijanjfaa
