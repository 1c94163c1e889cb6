/- Contracts of package ratio over the loaded program: Right, Sign, told, Of, New, Floor, Whole. -/
import Derived.Test.YtecohcgcffhlnaaW13
import Derived.Test.YtecohcgcffhlnaaW11
import Derived.Test.YtecohcgcffhlnaaG2
namespace Go.Proofs.Ytecohcgcffhlnaa
open Go.RowKit Go.Shelf
attribute [local go_sem] Gr.size Gr.cell? Gr.frozen? Gr.setCell Gr.drew Gr.drewN Gr.of_drew Gr.of_drewN Gr.gr Gr.lt_of1 Gr.le_of1 Gr.lt_of2 Gr.le_of2 Gr.lt_of3 Gr.le_of3 Gr.lt_of4 Gr.le_of4 Gr.lt_of5 Gr.le_of5 Gr.lt_of6 Gr.le_of6 Gr.lt_of7 Gr.le_of7 Gr.lt_of8 Gr.le_of8 Gr.lt_of9 Gr.le_of9 Gr.lt_of10 Gr.le_of10 Gr.lt_of11 Gr.le_of11 Gr.lt_of12 Gr.le_of12 Gr.lt_of13 Gr.le_of13 Gr.lt_of14 Gr.le_of14 Gr.lt_of15 Gr.le_of15 Gr.lt_of16 Gr.le_of16 Gr.lt_of17 Gr.le_of17 Gr.lt_of18 Gr.le_of18 Gr.lt_of19 Gr.le_of19 Gr.lt_of20 Gr.le_of20 Gr.lt_of21 Gr.le_of21 Gr.lt_of22 Gr.le_of22 Gr.lt_of23 Gr.le_of23 Gr.lt_of24 Gr.le_of24

set_option maxHeartbeats 4000000 in
theorem Right_any (n0 n1 n2 n3 d0 d1 d2 d3 d : Int) (hd : IsI d0 d1 d2 d3 d) (w : World) :
    Calls Try.prog 17 #[.agg #[.int .u64 n0, .int .u64 n1, .int .u64 n2, .int .u64 n3, .int .u64 d0, .int .u64 d1, .int .u64 d2, .int .u64 d3]] w fun e w' => e = .returned (.bool (decide (0 < d))) ∧ IsGr w w' := by
  have CS := fun w => Sign_any d0 d1 d2 d3 d hd w
  obtain ⟨K, hK, hK2⟩ : ∃ K, cmpI d 0 = K ∧ Hid (decide (0 < K) = decide (0 < d)) := by
    refine ⟨_, rfl, ?_⟩
    unfold Hid cmpI
    rw [decide_eq_decide]
    repeat' split
    all_goals omega
  rw [hK] at CS
  clear hK
  go_enter Try.func17, Try.ntmps17
  go_wp2_with fail
  refine (CS _).mono ?_
  rintro e w1 ⟨rfl, os1, n1, rfl⟩
  go_wp2
  go_ret
  exact ⟨ret_bool hK2.out, (by with_reducible repeat (first | exact IsGr.refl _ | refine IsGr.gr ?_ _ _ | refine IsGr.alloc ?_ _ | refine IsGr.drew ?_ | refine IsGr.drewN ?_ _))⟩

set_option maxHeartbeats 4000000 in
theorem RSign_any (n0 n1 n2 n3 n d0 d1 d2 d3 d : Int) (hn : IsI n0 n1 n2 n3 n) (hd : IsI d0 d1 d2 d3 d) (w : World) :
    Calls Try.prog 53 #[.agg #[.int .u64 n0, .int .u64 n1, .int .u64 n2, .int .u64 n3, .int .u64 d0, .int .u64 d1, .int .u64 d2, .int .u64 d3]] w fun e w' => e = .returned (.int .i64 (if 0 < d then cmpI n 0 else 0)) ∧ IsGr w w' := by
  have CR := fun w => Right_any n0 n1 n2 n3 d0 d1 d2 d3 d hd w
  by_cases h : 0 < d
  · rw [show decide (0 < d) = true by simp [h]] at CR
    rw [if_pos h]
    have CS := fun w => Sign_any n0 n1 n2 n3 n hn w
    generalize cmpI n 0 = K at CS
    clear h
    go_enter Try.func53, Try.ntmps53
    go_wp2_with fail
    refine (CR _).mono ?_
    rintro e w1 ⟨rfl, os1, m1, rfl⟩
    go_wp2_with fail
    refine (CS _).mono ?_
    rintro e w1 ⟨rfl, os2, m2, rfl⟩
    go_wp2
    go_ret
    exact ⟨rfl, (by with_reducible repeat (first | exact IsGr.refl _ | refine IsGr.gr ?_ _ _ | refine IsGr.alloc ?_ _ | refine IsGr.drew ?_ | refine IsGr.drewN ?_ _))⟩
  · rw [show decide (0 < d) = false by simp; omega] at CR
    rw [if_neg h]
    clear h
    go_enter Try.func53, Try.ntmps53
    go_wp2_with fail
    refine (CR _).mono ?_
    rintro e w1 ⟨rfl, os1, m1, rfl⟩
    go_wp2
    go_ret
    exact ⟨rfl, (by with_reducible repeat (first | exact IsGr.refl _ | refine IsGr.gr ?_ _ _ | refine IsGr.alloc ?_ _ | refine IsGr.drew ?_ | refine IsGr.drewN ?_ _))⟩

set_option maxHeartbeats 4000000 in
theorem rtold_t (n0 n1 n2 n3 d0 d1 d2 d3 : Int) (w : World) :
    Calls Try.prog 46 #[.agg #[.int .u64 n0, .int .u64 n1, .int .u64 n2, .int .u64 n3, .int .u64 d0, .int .u64 d1, .int .u64 d2, .int .u64 d3], .bool true] w fun e w' => e = .returned (.tuple #[.agg #[.int .u64 n0, .int .u64 n1, .int .u64 n2, .int .u64 n3, .int .u64 d0, .int .u64 d1, .int .u64 d2, .int .u64 d3], .bool true]) ∧ IsGr w w' := by
  go_enter Try.func46, Try.ntmps46
  go_wp2
  exact bodyPost_ret (v := .tuple #[.agg #[.int .u64 n0, .int .u64 n1, .int .u64 n2, .int .u64 n3, .int .u64 d0, .int .u64 d1, .int .u64 d2, .int .u64 d3], .bool true]) (by simp [results, Try.results46, go_sem]) rfl ⟨rfl, (by with_reducible repeat (first | exact IsGr.refl _ | refine IsGr.gr ?_ _ _ | refine IsGr.alloc ?_ _ | refine IsGr.drew ?_ | refine IsGr.drewN ?_ _))⟩
set_option maxHeartbeats 4000000 in
theorem rtold_f (n0 n1 n2 n3 d0 d1 d2 d3 : Int) (w : World) :
    Calls Try.prog 46 #[.agg #[.int .u64 n0, .int .u64 n1, .int .u64 n2, .int .u64 n3, .int .u64 d0, .int .u64 d1, .int .u64 d2, .int .u64 d3], .bool false] w fun e w' => e = .returned (.tuple #[.agg #[.int .u64 0, .int .u64 0, .int .u64 0, .int .u64 0, .int .u64 0, .int .u64 0, .int .u64 0, .int .u64 0], .bool false]) ∧ IsGr w w' := by
  go_enter Try.func46, Try.ntmps46
  go_wp2
  exact bodyPost_ret (v := .tuple #[.agg #[.int .u64 0, .int .u64 0, .int .u64 0, .int .u64 0, .int .u64 0, .int .u64 0, .int .u64 0, .int .u64 0], .bool false]) (by simp [results, Try.results46, go_sem]) rfl ⟨rfl, (by with_reducible repeat (first | exact IsGr.refl _ | refine IsGr.gr ?_ _ _ | refine IsGr.alloc ?_ _ | refine IsGr.drew ?_ | refine IsGr.drewN ?_ _))⟩

set_option maxHeartbeats 4000000 in
theorem ROf_any (n : Int) (n0 : -9223372036854775808 ≤ n) (n1 : n < 9223372036854775808) (w : World) :
    Calls Try.prog 18 #[.int .i64 n] w fun e w' => ∃ s0 s1 s2 s3 o0 o1 o2 o3 : Int, e = .returned (.agg #[.int .u64 s0, .int .u64 s1, .int .u64 s2, .int .u64 s3, .int .u64 o0, .int .u64 o1, .int .u64 o2, .int .u64 o3]) ∧ IsI s0 s1 s2 s3 n ∧ IsI o0 o1 o2 o3 1 ∧ IsGr w w' := by
  have C1 := fun w => Of_any n n0 n1 w
  have C2 := fun w => Of_any 1 (by omega) (by omega) w
  go_enter Try.func18, Try.ntmps18
  go_wp2_with fail
  refine (C1 _).mono ?_
  rintro e w1 ⟨s0, s1, s2, s3, rfl, hs, os1, m1, rfl⟩
  go_wp2_with fail
  refine (C2 _).mono ?_
  rintro e w1 ⟨o0, o1, o2, o3, rfl, ho, os2, m2, rfl⟩
  go_wp2
  exact bodyPost_ret (v := .agg #[.int .u64 s0, .int .u64 s1, .int .u64 s2, .int .u64 s3, .int .u64 o0, .int .u64 o1, .int .u64 o2, .int .u64 o3]) (by simp [results, Try.results18, go_sem]) rfl ⟨s0, s1, s2, s3, o0, o1, o2, o3, rfl, hs, ho, (by with_reducible repeat (first | exact IsGr.refl _ | refine IsGr.gr ?_ _ _ | refine IsGr.alloc ?_ _ | refine IsGr.drew ?_ | refine IsGr.drewN ?_ _))⟩

/-- What a fraction is told as: these numbers, or nothing. -/
def RTold (yes : Bool) (n d s0 s1 s2 s3 t0 t1 t2 t3 : Int) (ok : Bool) : Prop :=
  (yes = true ∧ ok = true ∧ IsI s0 s1 s2 s3 n ∧ IsI t0 t1 t2 t3 d) ∨ (yes = false ∧ ok = false ∧ s0 = 0 ∧ s1 = 0 ∧ s2 = 0 ∧ s3 = 0 ∧ t0 = 0 ∧ t1 = 0 ∧ t2 = 0 ∧ t3 = 0)

/-- What the whole number below is told as. -/
def FloorT (n d s0 s1 s2 s3 : Int) (ok : Bool) : Prop := (0 < d → ok = true ∧ IsI s0 s1 s2 s3 (n.fdiv d)) ∧ (¬ 0 < d → ok = false ∧ s0 = 0 ∧ s1 = 0 ∧ s2 = 0 ∧ s3 = 0)

set_option maxHeartbeats 4000000 in
theorem Floor_any (n0 n1 n2 n3 n d0 d1 d2 d3 d : Int) (hn : IsI n0 n1 n2 n3 n) (hd : IsI d0 d1 d2 d3 d) (w : World) :
    Calls Try.prog 51 #[.agg #[.int .u64 n0, .int .u64 n1, .int .u64 n2, .int .u64 n3, .int .u64 d0, .int .u64 d1, .int .u64 d2, .int .u64 d3]] w fun e w' => ∃ (s0 s1 s2 s3 : Int) (ok : Bool), e = .returned (.tuple #[.agg #[.int .u64 s0, .int .u64 s1, .int .u64 s2, .int .u64 s3], .bool ok]) ∧ FloorT n d s0 s1 s2 s3 ok ∧ IsGr w w' := by
  have CR := fun w => Right_any n0 n1 n2 n3 d0 d1 d2 d3 d hd w
  by_cases h : 0 < d
  · rw [show decide (0 < d) = true by simp [h]] at CR
    have CD := fun w => Div_all n0 n1 n2 n3 n d0 d1 d2 d3 d hn hd w
    have HD : Hid (0 < d) := h
    clear h
    go_enter Try.func51, Try.ntmps51
    go_wp2_with fail
    refine (CR _).mono ?_
    rintro e w1 ⟨rfl, os1, m1, rfl⟩
    go_wp2_with fail
    refine (CD _).mono ?_
    rintro e w1 ⟨q0, q1, q2, q3, r0, r1, r2, r3, ok, rfl, hD, os2, m2, rfl⟩
    obtain ⟨rfl, hq⟩ : ok = true ∧ IsI q0 q1 q2 q3 (n.fdiv d) := by
      have h := HD.out
      rcases hD with ⟨a, _, c, _⟩ | ⟨_, h2, _⟩
      · exact ⟨a, c⟩
      · omega
    clear hD
    go_wp2
    exact bodyPost_ret (v := .tuple #[.agg #[.int .u64 q0, .int .u64 q1, .int .u64 q2, .int .u64 q3], .bool true]) (by simp [results, Try.results51, go_sem]) rfl ⟨q0, q1, q2, q3, true, rfl, ⟨fun _ => ⟨rfl, hq⟩, fun h => absurd HD.out h⟩, (by with_reducible repeat (first | exact IsGr.refl _ | refine IsGr.gr ?_ _ _ | refine IsGr.alloc ?_ _ | refine IsGr.drew ?_ | refine IsGr.drewN ?_ _))⟩
  · rw [show decide (0 < d) = false by simp; omega] at CR
    have HD : Hid (¬ 0 < d) := h
    clear h
    go_enter Try.func51, Try.ntmps51
    go_wp2_with fail
    refine (CR _).mono ?_
    rintro e w1 ⟨rfl, os1, m1, rfl⟩
    go_wp2
    exact bodyPost_ret (v := .tuple #[.agg #[.int .u64 0, .int .u64 0, .int .u64 0, .int .u64 0], .bool false]) (by simp [results, Try.results51, go_sem]) rfl ⟨0, 0, 0, 0, false, rfl, ⟨fun h => absurd h (by have := HD.out; omega), fun _ => ⟨rfl, rfl, rfl, rfl, rfl⟩⟩, (by with_reducible repeat (first | exact IsGr.refl _ | refine IsGr.gr ?_ _ _ | refine IsGr.alloc ?_ _ | refine IsGr.drew ?_ | refine IsGr.drewN ?_ _))⟩

set_option maxHeartbeats 4000000 in
theorem Whole_any (n0 n1 n2 n3 n d0 d1 d2 d3 d : Int) (hn : IsI n0 n1 n2 n3 n) (hd : IsI d0 d1 d2 d3 d) (w : World) :
    Calls Try.prog 54 #[.agg #[.int .u64 n0, .int .u64 n1, .int .u64 n2, .int .u64 n3, .int .u64 d0, .int .u64 d1, .int .u64 d2, .int .u64 d3]] w fun e w' => e = .returned (.bool (decide (0 < d) && decide (n.fmod d = 0))) ∧ IsGr w w' := by
  have CR := fun w => Right_any n0 n1 n2 n3 d0 d1 d2 d3 d hd w
  by_cases h : 0 < d
  · have hd0 : decide (0 < d) = true := by simp [h]
    rw [hd0] at CR ⊢
    rw [Bool.true_and]
    have CD := fun w => Div_all n0 n1 n2 n3 n d0 d1 d2 d3 d hn hd w
    have HD : Hid (0 < d) := h
    have hr0 : -57896044618658097711785492504343953926634992332820282019728792003956564819968 ≤ 0 ∧ (0 : Int) < 57896044618658097711785492504343953926634992332820282019728792003956564819968 := by omega
    obtain ⟨B, hB⟩ : ∃ B, decide (n.fmod d = 0) = B := ⟨_, rfl⟩
    have HB : Hid (decide (n.fmod d = 0) = B) := hB
    rw [hB]
    clear h hB hd0
    go_enter Try.func54, Try.ntmps54
    go_wp2_with fail
    refine (CR _).mono ?_
    rintro e w1 ⟨rfl, os1, m1, rfl⟩
    go_wp2_with fail
    refine (CD _).mono ?_
    rintro e w1 ⟨q0, q1, q2, q3, r0, r1, r2, r3, ok, rfl, hD, os2, m2, rfl⟩
    obtain ⟨rfl, hq⟩ : ok = true ∧ IsI r0 r1 r2 r3 (n.fmod d) := by
      have h := HD.out
      rcases hD with ⟨a, _, _, c⟩ | ⟨_, h2, _⟩
      · exact ⟨a, c⟩
      · omega
    have he : ∀ w, (Op.equalIn 10000 24 (.agg #[.int .u64 r0, .int .u64 r1, .int .u64 r2, .int .u64 r3]) (.agg #[.int .u64 0, .int .u64 0, .int .u64 0, .int .u64 0])).run Try.prog w = .ok B w := fun w => by
      rw [eqI hq.1 Is.zero, ← HB.out]
      congr 1
      rw [decide_eq_decide]
      have := hq.2
      omega
    clear hD hq
    go_wp2
    go_ret
    exact ⟨rfl, (by with_reducible repeat (first | exact IsGr.refl _ | refine IsGr.gr ?_ _ _ | refine IsGr.alloc ?_ _ | refine IsGr.drew ?_ | refine IsGr.drewN ?_ _))⟩
  · have hd0 : decide (0 < d) = false := by simp; omega
    rw [hd0] at CR ⊢
    rw [Bool.false_and]
    clear h hd0
    go_enter Try.func54, Try.ntmps54
    go_wp2_with fail
    refine (CR _).mono ?_
    rintro e w1 ⟨rfl, os1, m1, rfl⟩
    go_wp2
    go_ret
    exact ⟨rfl, (by with_reducible repeat (first | exact IsGr.refl _ | refine IsGr.gr ?_ _ _ | refine IsGr.alloc ?_ _ | refine IsGr.drew ?_ | refine IsGr.drewN ?_ _))⟩
end Go.Proofs.Ytecohcgcffhlnaa
