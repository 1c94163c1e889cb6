/- What package lex answers, proved: for LexTokens, LexNumbers, LexTexts, LexAll. -/
import Derived.Test.YtpgcfnpnpmpkeaaD11
namespace Go.Proofs.Ytpgcfnpnpmpkeaa
open Go.RowKit Go.Shelf
attribute [local go_sem] Gr.size Gr.cell? Gr.frozen? Gr.setCell Gr.drew Gr.drewN Gr.of_drew Gr.of_drewN Gr.gr Gr.lt_of1 Gr.le_of1 Gr.lt_of2 Gr.le_of2 Gr.lt_of3 Gr.le_of3 Gr.lt_of4 Gr.le_of4 Gr.lt_of5 Gr.le_of5 Gr.lt_of6 Gr.le_of6 Gr.lt_of7 Gr.le_of7 Gr.lt_of8 Gr.le_of8 Gr.lt_of9 Gr.le_of9 Gr.lt_of10 Gr.le_of10 Gr.lt_of11 Gr.le_of11 Gr.lt_of12 Gr.le_of12 Gr.lt_of13 Gr.le_of13 Gr.lt_of14 Gr.le_of14 Gr.lt_of15 Gr.le_of15 Gr.lt_of16 Gr.le_of16 Gr.lt_of17 Gr.le_of17 Gr.lt_of18 Gr.le_of18 Gr.lt_of19 Gr.le_of19 Gr.lt_of20 Gr.le_of20 Gr.lt_of21 Gr.le_of21 Gr.lt_of22 Gr.le_of22 Gr.lt_of23 Gr.le_of23 Gr.lt_of24 Gr.le_of24
theorem lexC : LexC where
  tokens := fun s w hs => ltokens_any s w hs
  right := fun s w hs => lright_any s w (by omega)
  upper := fun s w hs => lUpper_any s w (by omega)
  text := fun k i j s w _ => ltext_any k i j s w
set_option maxRecDepth 20000 in
set_option maxHeartbeats 2000000 in
theorem lAll_any (s : ByteArray) (w : World) : Calls Try.prog 15 #[.string s] w fun e w' => e = .returned (.func (.func 24) #[] #[.pointer (some ⟨w.heap.size, 0, none⟩)]) ∧ w' = w.alloc (.cells #[.string s] 9) := by
  go_enter Try.func15, Try.ntmps15
  go_wp2_with fail
  go_ret
  exact ⟨rfl, rfl⟩
theorem lexA : LexA where
  all := fun s w hs => (lAll_any s w).mono (by
    rintro e w' ⟨rfl, rfl⟩
    have hg : IsGr w (w.alloc (.cells #[.string s] 9)) := (IsGr.refl w).alloc _
    refine ⟨_, _, rfl, [w.heap.size], hg.below, enters_of Try.func24 (by kernel_rfl) rfl, fun z hz => by simp at hz; simp; omega, fun m W0 hm hW hk => ?_⟩
    have hc := (cell_new w (.string s) 9).1
    exact lall_in s hs w.heap.size W0.heap.size m W0 rfl ((World.cell?_of_block (a := ⟨w.heap.size, 0, none⟩) (hk _ (by simp))).trans hc) hm)
theorem law_all_row (s : ByteArray) (x : Int) (_ : -9223372036854775808 ≤ x) (_ : x < 9223372036854775808) (w : World) : Calls Try.prog 6 #[.string s, .int .i64 x] w fun e w' => e = .returned (.bool true) ∧ Below w.heap.size w w' := law_all lexC lexA s x w
end Go.Proofs.Ytpgcfnpnpmpkeaa
