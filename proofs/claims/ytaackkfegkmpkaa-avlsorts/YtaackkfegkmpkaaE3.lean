/- Contracts of package avl over the loaded program: other, depth, told, measured, lean. -/
import Derived.Test.YtaackkfegkmpkaaE2
import Derived.Test.YtaackkfegkmpkaaH2
import Derived.Deep.RegionWith
import Derived.RegionTactic
namespace Go.Proofs.Ytaackkfegkmpkaa
open Go.RowKit
attribute [local go_sem] Gr.size Gr.cell? Gr.frozen? Gr.setCell Gr.drew Gr.drewN Gr.of_drew Gr.of_drewN Gr.gr Gr.lt_of1 Gr.le_of1 Gr.lt_of2 Gr.le_of2 Gr.lt_of3 Gr.le_of3 Gr.lt_of4 Gr.le_of4 Gr.lt_of5 Gr.le_of5 Gr.lt_of6 Gr.le_of6 Gr.lt_of7 Gr.le_of7 Gr.lt_of8 Gr.le_of8 Gr.lt_of9 Gr.le_of9 Gr.lt_of10 Gr.le_of10 Gr.lt_of11 Gr.le_of11 Gr.lt_of12 Gr.le_of12 Gr.lt_of13 Gr.le_of13 Gr.lt_of14 Gr.le_of14 Gr.lt_of15 Gr.le_of15 Gr.lt_of16 Gr.le_of16 Gr.lt_of17 Gr.le_of17 Gr.lt_of18 Gr.le_of18 Gr.lt_of19 Gr.le_of19 Gr.lt_of20 Gr.le_of20 Gr.lt_of21 Gr.le_of21 Gr.lt_of22 Gr.le_of22 Gr.lt_of23 Gr.le_of23 Gr.lt_of24 Gr.le_of24

theorem ret_i5 {a b : Int} (h : a = b) : Ending.returned (.int .i64 a) = Ending.returned (.int .i64 b) := by rw [h]
theorem ret_b5 {a b : Bool} (h : a = b) : Ending.returned (.bool a) = Ending.returned (.bool b) := by rw [h]
set_option maxRecDepth 20000 in set_option maxHeartbeats 2000000 in
theorem other0_any (w : World) : Calls Try.prog 45 #[.int .i64 0] w fun e w' => e = .returned (.int .i64 1) ∧ w' = w := by
  go_enter Try.func45, Try.ntmps45
  go_wp2
  go_ret
  exact ⟨rfl, rfl⟩
set_option maxRecDepth 20000 in set_option maxHeartbeats 2000000 in
theorem other1_any (w : World) : Calls Try.prog 45 #[.int .i64 1] w fun e w' => e = .returned (.int .i64 0) ∧ w' = w := by
  go_enter Try.func45, Try.ntmps45
  go_wp2
  go_ret
  exact ⟨rfl, rfl⟩
set_option maxRecDepth 20000 in set_option maxHeartbeats 2000000 in
theorem depth_any (t : AT) (w : World) (h : InT w t) : Calls Try.prog 40 #[.pointer t.ptr] w fun e w' => e = .returned (.int .i64 t.ht) ∧ w' = w := by
  cases t with
  | nil =>
    show Calls _ _ #[.pointer none] w _
    go_enter Try.func40, Try.ntmps40
    go_wp2
    go_ret
    exact ⟨rfl, rfl⟩
  | nd b v l r =>
    have c := h.1.c3
    show Calls _ _ #[.pointer (some ⟨b, 0, none⟩)] w _
    generalize (AT.nd b v l r).ht = d at c
    go_enter Try.func40, Try.ntmps40
    go_wp2
    go_ret
    exact ⟨rfl, rfl⟩
set_option maxRecDepth 20000 in set_option maxHeartbeats 2000000 in
theorem measured_any (b : Nat) (v d : Int) (l r : AT) (w : World) (h : Nd w b v l.ptr r.ptr d) (hl : InT w l) (hr : InT w r) (kl : l.ht ≤ 1000) (kr : r.ht ≤ 1000) :
    Calls Try.prog 43 #[.pointer (some ⟨b, 0, none⟩)] w fun e w' => e = .returned (.int .i64 ((1 + max l.ht r.ht : Nat) : Int)) ∧ IsGr w w' := by
  have C1 := fun w' (hg : IsGr w w') => depth_any l w' (hl.gr hg)
  have C2 := fun w' (hg : IsGr w w') => depth_any r w' (hr.gr hg)
  have c1 := h.c1
  have c2 := h.c2
  have hlt := h.lt
  generalize l.ptr = pl at *
  generalize r.ptr = pr at *
  clear hl hr h
  go_enter Try.func43, Try.ntmps43
  go_wp2_with fail
  go_quiet (first | (go_at_call_of 40 pl; refine Calls.quiet_of_same (C1 _ ?_); exact (by with_reducible repeat (first | exact IsGr.refl _ | refine IsGr.gr ?_ _ _ | refine IsGr.alloc ?_ _ | refine IsGr.drew ?_ | refine IsGr.drewN ?_ _))) | (go_at_call_of 40 pr; refine Calls.quiet_of_same (C2 _ ?_); exact (by with_reducible repeat (first | exact IsGr.refl _ | refine IsGr.gr ?_ _ _ | refine IsGr.alloc ?_ _ | refine IsGr.drew ?_ | refine IsGr.drewN ?_ _))))
  go_wp2
  all_goals (go_ret; refine ⟨ret_i5 ?_, (by with_reducible repeat (first | exact IsGr.refl _ | refine IsGr.gr ?_ _ _ | refine IsGr.alloc ?_ _ | refine IsGr.drew ?_ | refine IsGr.drewN ?_ _))⟩; rw [IntKind.wrap_i64]; simp only [Nat.max_def]; split <;> omega)

set_option maxRecDepth 20000 in set_option maxHeartbeats 2000000 in
theorem lean0_any (b : Nat) (v d : Int) (l r : AT) (w : World) (h : Nd w b v l.ptr r.ptr d) (hl : InT w l) (hr : InT w r) (kl : l.ht ≤ 1000) (kr : r.ht ≤ 1000) :
    Calls Try.prog 44 #[.pointer (some ⟨b, 0, none⟩), .int .i64 0] w fun e w' => e = .returned (.int .i64 ((l.ht : Int) - r.ht)) ∧ IsGr w w' := by
  have C1 := fun w' (hg : IsGr w w') => depth_any l w' (hl.gr hg)
  have C2 := fun w' (hg : IsGr w w') => depth_any r w' (hr.gr hg)
  have c1 := h.c1
  have c2 := h.c2
  have hlt := h.lt
  generalize l.ptr = pl at *
  generalize r.ptr = pr at *
  clear hl hr h
  go_enter Try.func44, Try.ntmps44
  go_wp2_with fail
  go_quiet (first | (go_at_call 45; exact Calls.quiet_of_same (other0_any _)) | (go_at_call_of 40 pl; refine Calls.quiet_of_same (C1 _ ?_); exact (by with_reducible repeat (first | exact IsGr.refl _ | refine IsGr.gr ?_ _ _ | refine IsGr.alloc ?_ _ | refine IsGr.drew ?_ | refine IsGr.drewN ?_ _))) | (go_at_call_of 40 pr; refine Calls.quiet_of_same (C2 _ ?_); exact (by with_reducible repeat (first | exact IsGr.refl _ | refine IsGr.gr ?_ _ _ | refine IsGr.alloc ?_ _ | refine IsGr.drew ?_ | refine IsGr.drewN ?_ _))))
  go_wp2
  go_ret
  refine ⟨ret_i5 ?_, (by with_reducible repeat (first | exact IsGr.refl _ | refine IsGr.gr ?_ _ _ | refine IsGr.alloc ?_ _ | refine IsGr.drew ?_ | refine IsGr.drewN ?_ _))⟩
  rw [IntKind.wrap_i64]
  omega
set_option maxRecDepth 20000 in set_option maxHeartbeats 2000000 in
theorem lean1_any (b : Nat) (v d : Int) (l r : AT) (w : World) (h : Nd w b v l.ptr r.ptr d) (hl : InT w l) (hr : InT w r) (kl : l.ht ≤ 1000) (kr : r.ht ≤ 1000) :
    Calls Try.prog 44 #[.pointer (some ⟨b, 0, none⟩), .int .i64 1] w fun e w' => e = .returned (.int .i64 ((r.ht : Int) - l.ht)) ∧ IsGr w w' := by
  have C1 := fun w' (hg : IsGr w w') => depth_any l w' (hl.gr hg)
  have C2 := fun w' (hg : IsGr w w') => depth_any r w' (hr.gr hg)
  have c1 := h.c1
  have c2 := h.c2
  have hlt := h.lt
  generalize l.ptr = pl at *
  generalize r.ptr = pr at *
  clear hl hr h
  go_enter Try.func44, Try.ntmps44
  go_wp2_with fail
  go_quiet (first | (go_at_call 45; exact Calls.quiet_of_same (other1_any _)) | (go_at_call_of 40 pl; refine Calls.quiet_of_same (C1 _ ?_); exact (by with_reducible repeat (first | exact IsGr.refl _ | refine IsGr.gr ?_ _ _ | refine IsGr.alloc ?_ _ | refine IsGr.drew ?_ | refine IsGr.drewN ?_ _))) | (go_at_call_of 40 pr; refine Calls.quiet_of_same (C2 _ ?_); exact (by with_reducible repeat (first | exact IsGr.refl _ | refine IsGr.gr ?_ _ _ | refine IsGr.alloc ?_ _ | refine IsGr.drew ?_ | refine IsGr.drewN ?_ _))))
  go_wp2
  go_ret
  refine ⟨ret_i5 ?_, (by with_reducible repeat (first | exact IsGr.refl _ | refine IsGr.gr ?_ _ _ | refine IsGr.alloc ?_ _ | refine IsGr.drew ?_ | refine IsGr.drewN ?_ _))⟩
  rw [IntKind.wrap_i64]
  omega
set_option maxRecDepth 20000 in set_option maxHeartbeats 2000000 in
theorem told_nil (w : World) : Calls Try.prog 34 #[.pointer none] w fun e w' => e = .returned (.tuple #[.int .i64 0, .bool false]) ∧ w' = w := by
  go_enter Try.func34, Try.ntmps34
  go_wp2
  exact bodyPost_ret (v := .tuple #[.int .i64 0, .bool false]) (by simp [results, Try.results34, go_sem]) rfl ⟨rfl, rfl⟩
set_option maxRecDepth 20000 in set_option maxHeartbeats 2000000 in
theorem told_any (b : Nat) (v d : Int) (p q : Option Addr) (w : World) (h : Nd w b v p q d) : Calls Try.prog 34 #[.pointer (some ⟨b, 0, none⟩)] w fun e w' => e = .returned (.tuple #[.int .i64 v, .bool true]) ∧ w' = w := by
  have c0 := h.c0
  go_enter Try.func34, Try.ntmps34
  go_wp2
  exact bodyPost_ret (v := .tuple #[.int .i64 v, .bool true]) (by simp [results, Try.results34, go_sem]) rfl ⟨rfl, rfl⟩
end Go.Proofs.Ytaackkfegkmpkaa
