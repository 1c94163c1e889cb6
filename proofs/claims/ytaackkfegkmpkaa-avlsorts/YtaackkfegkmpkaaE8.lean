/- Contracts of package avl over the loaded program: place. -/
import Derived.Test.YtaackkfegkmpkaaE7
import Derived.Shelf.Abstract
namespace Go.Proofs.Ytaackkfegkmpkaa
open Go.RowKit
attribute [local go_sem] Gr.size Gr.cell? Gr.frozen? Gr.setCell Gr.drew Gr.drewN Gr.of_drew Gr.of_drewN Gr.gr Gr.lt_of1 Gr.le_of1 Gr.lt_of2 Gr.le_of2 Gr.lt_of3 Gr.le_of3 Gr.lt_of4 Gr.le_of4 Gr.lt_of5 Gr.le_of5 Gr.lt_of6 Gr.le_of6 Gr.lt_of7 Gr.le_of7 Gr.lt_of8 Gr.le_of8 Gr.lt_of9 Gr.le_of9 Gr.lt_of10 Gr.le_of10 Gr.lt_of11 Gr.le_of11 Gr.lt_of12 Gr.le_of12 Gr.lt_of13 Gr.le_of13 Gr.lt_of14 Gr.le_of14 Gr.lt_of15 Gr.le_of15 Gr.lt_of16 Gr.le_of16 Gr.lt_of17 Gr.le_of17 Gr.lt_of18 Gr.le_of18 Gr.lt_of19 Gr.le_of19 Gr.lt_of20 Gr.le_of20 Gr.lt_of21 Gr.le_of21 Gr.lt_of22 Gr.le_of22 Gr.lt_of23 Gr.le_of23 Gr.lt_of24 Gr.le_of24
theorem nilf (f : Nat) (w : World) : (binOp BinOp.eql 25 (.func (.func f) #[] #[]) .nilFunc).run Try.prog w = .ok (.bool false) w := by
  first | rfl | simp [binOp, run_underlying Try.underlying25, go_sem]
/-- An int. -/
def I64 (z : Int) : Prop := -9223372036854775808 ≤ z ∧ z < 9223372036854775808
/-- m tells how x stands to y. -/
def Sg (m x y : Int) : Prop := (m < 0 ↔ x < y) ∧ (0 < m ↔ y < x)
/-- Function f is the order by the keys k. -/
def Ordr (f : Nat) (k : Int → Int) : Prop := Enters Try.prog f ∧ ∀ (a b : Int) (w : World), I64 a → I64 b → Calls Try.prog f #[.int .i64 a, .int .i64 b] w fun e w' => ∃ m, Sg m (k a) (k b) ∧ e = .returned (.int .i64 m) ∧ IsGr w w'
theorem Sg.cases {m x y : Int} (h : Sg m x y) : (x < y → decide (m < 0) = true) ∧ (x = y → decide (m < 0) = false ∧ decide (0 < m) = false) ∧ (y < x → decide (m < 0) = false ∧ decide (0 < m) = true) := by
  unfold Sg at h
  refine ⟨fun h1 => decide_eq_true (by omega), fun h1 => ⟨decide_eq_false (by omega), decide_eq_false (by omega)⟩, fun h1 => ⟨decide_eq_false (by omega), decide_eq_true (by omega)⟩⟩
/-- The order of the set at t. -/
def OrdAt (w : World) (t f : Nat) : Prop := w.cell? ⟨t, 0, none⟩ = some (.func (.func f) #[] #[])

set_option maxRecDepth 20000 in set_option maxHeartbeats 2000000 in
theorem place_lt {f : Nat} {k : Int → Int} (hO : Ordr f k) (t : Nat) (a b : Int) (w : World) (h : OrdAt w t f) (ha : I64 a) (hb : I64 b) (hk : k a < k b) :
    Calls Try.prog 33 #[.pointer (some ⟨t, 0, none⟩), .int .i64 a, .int .i64 b] w fun e w' => e = .returned (.int .i64 0) ∧ IsGr w w' := by
  have C := fun w => hO.2 a b w ha hb
  have hE : ∀ args w, (callFunc f args).run Try.prog w = .ok (.enter f args) w := hO.1
  unfold OrdAt at h
  have hn := fun w => nilf f w
  clear hO
  go_enter Try.func33, Try.ntmps33
  go_wp2_with fail
  refine (C _).mono ?_
  rintro e w1 ⟨m, hs, rfl, hg⟩
  have d1 := hs.cases.1 hk
  clear hs
  go_wp2_with fail
  go_ret
  exact ⟨rfl, hg⟩

set_option maxRecDepth 20000 in set_option maxHeartbeats 2000000 in
theorem place_eq {f : Nat} {k : Int → Int} (hO : Ordr f k) (t : Nat) (a b : Int) (w : World) (h : OrdAt w t f) (ha : I64 a) (hb : I64 b) (hk : k a = k b) :
    Calls Try.prog 33 #[.pointer (some ⟨t, 0, none⟩), .int .i64 a, .int .i64 b] w fun e w' => e = .returned (.int .i64 2) ∧ IsGr w w' := by
  have C := fun w => hO.2 a b w ha hb
  have hE : ∀ args w, (callFunc f args).run Try.prog w = .ok (.enter f args) w := hO.1
  unfold OrdAt at h
  have hn := fun w => nilf f w
  clear hO
  go_enter Try.func33, Try.ntmps33
  go_wp2_with fail
  refine (C _).mono ?_
  rintro e w1 ⟨m, hs, rfl, hg⟩
  obtain ⟨d1, d2⟩ := hs.cases.2.1 hk
  clear hs
  go_wp2_with fail
  go_ret
  exact ⟨rfl, hg⟩

set_option maxRecDepth 20000 in set_option maxHeartbeats 2000000 in
theorem place_gt {f : Nat} {k : Int → Int} (hO : Ordr f k) (t : Nat) (a b : Int) (w : World) (h : OrdAt w t f) (ha : I64 a) (hb : I64 b) (hk : k b < k a) :
    Calls Try.prog 33 #[.pointer (some ⟨t, 0, none⟩), .int .i64 a, .int .i64 b] w fun e w' => e = .returned (.int .i64 1) ∧ IsGr w w' := by
  have C := fun w => hO.2 a b w ha hb
  have hE : ∀ args w, (callFunc f args).run Try.prog w = .ok (.enter f args) w := hO.1
  unfold OrdAt at h
  have hn := fun w => nilf f w
  clear hO
  go_enter Try.func33, Try.ntmps33
  go_wp2_with fail
  refine (C _).mono ?_
  rintro e w1 ⟨m, hs, rfl, hg⟩
  obtain ⟨d1, d2⟩ := hs.cases.2.2 hk
  clear hs
  go_wp2_with fail
  go_ret
  exact ⟨rfl, hg⟩
end Go.Proofs.Ytaackkfegkmpkaa
