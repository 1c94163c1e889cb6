/- Package lex over the loaded program: what a byte is (blank, letter, digit, kind, within), and a run of bytes (skip). -/
import Derived.Test.YtfpifbfnebfdaaaDoorC2
namespace Go.Proofs.YtfpifbfnebfdaaaDoor
open Go.RowKit Go.Shelf
attribute [local go_sem] Gr.size Gr.cell? Gr.frozen? Gr.setCell Gr.drew Gr.drewN Gr.of_drew Gr.of_drewN Gr.gr Gr.lt_of1 Gr.le_of1 Gr.lt_of2 Gr.le_of2 Gr.lt_of3 Gr.le_of3 Gr.lt_of4 Gr.le_of4 Gr.lt_of5 Gr.le_of5 Gr.lt_of6 Gr.le_of6 Gr.lt_of7 Gr.le_of7 Gr.lt_of8 Gr.le_of8 Gr.lt_of9 Gr.le_of9 Gr.lt_of10 Gr.le_of10 Gr.lt_of11 Gr.le_of11 Gr.lt_of12 Gr.le_of12 Gr.lt_of13 Gr.le_of13 Gr.lt_of14 Gr.le_of14 Gr.lt_of15 Gr.le_of15 Gr.lt_of16 Gr.le_of16 Gr.lt_of17 Gr.le_of17 Gr.lt_of18 Gr.le_of18 Gr.lt_of19 Gr.le_of19 Gr.lt_of20 Gr.le_of20 Gr.lt_of21 Gr.le_of21 Gr.lt_of22 Gr.le_of22 Gr.lt_of23 Gr.le_of23 Gr.lt_of24 Gr.le_of24
/-- The kind of the tokens that begin with a byte. -/
def kdI (c : Int) : Nat := if ltB c = true then 1 else if sgB c = true then 2 else if c = 40 then 3 else if c = 41 then 4 else if c = 44 then 5 else 0
set_option maxRecDepth 20000 in set_option maxHeartbeats 2000000 in
theorem ldigit_any (c : Int) (w : World) : Calls Tryd.prog 70 #[.int .u8 c] w fun e w' => e = .returned (.bool (dgB c)) ∧ w' = w := by
  obtain ⟨b, hb⟩ : ∃ b, dgB c = b := ⟨_, rfl⟩
  rw [hb]
  unfold dgB at hb
  by_cases h : 48 ≤ c
  · have hb2 : decide (c ≤ 57) = b := by rw [← hb, decide_eq_true h]; rfl
    have h' : decide (48 ≤ c) = true := decide_eq_true h
    clear hb
    go_enter Tryd.func70, Tryd.ntmps70
    go_wp2_with fail
    go_ret
    first | exact ⟨rfl, rfl⟩ | (refine ⟨?_, rfl⟩; rw [← hb2]; rfl)
  · have hb2 : b = false := by rw [← hb, decide_eq_false h]; rfl
    subst hb2
    have h' : decide (48 ≤ c) = false := decide_eq_false h
    clear hb
    go_enter Tryd.func70, Tryd.ntmps70
    go_wp2_with fail
    go_ret
    exact ⟨rfl, rfl⟩
end Go.Proofs.YtfpifbfnebfdaaaDoor
