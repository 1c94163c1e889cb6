/- Contracts of package wide over the loaded program: quotients of Ints. -/
import Derived.Test.YtohhlhoijanjfaaW9
namespace Go.Proofs.Ytohhlhoijanjfaa
open Go.RowKit Go.Shelf
attribute [local go_sem] Gr.size Gr.cell? Gr.frozen? Gr.setCell Gr.drew Gr.drewN Gr.of_drew Gr.of_drewN Gr.gr Gr.lt_of1 Gr.le_of1 Gr.lt_of2 Gr.le_of2 Gr.lt_of3 Gr.le_of3 Gr.lt_of4 Gr.le_of4 Gr.lt_of5 Gr.le_of5 Gr.lt_of6 Gr.le_of6 Gr.lt_of7 Gr.le_of7 Gr.lt_of8 Gr.le_of8

set_option maxHeartbeats 8000000 in
theorem Div_zero (x0 x1 x2 x3 y0 y1 y2 y3 : Int) (hy : IsI y0 y1 y2 y3 0) (w : World) :
    Calls Try.prog 99 #[.agg #[.int .u64 x0, .int .u64 x1, .int .u64 x2, .int .u64 x3], .agg #[.int .u64 y0, .int .u64 y1, .int .u64 y2, .int .u64 y3]] w fun e w' => e = .returned (.tuple #[.agg #[.int .u64 0, .int .u64 0, .int .u64 0, .int .u64 0], .agg #[.int .u64 0, .int .u64 0, .int .u64 0, .int .u64 0], .bool false]) ∧ IsGr w w' := by
  have he : ∀ w, (Op.equalIn 10000 44 (.agg #[.int .u64 y0, .int .u64 y1, .int .u64 y2, .int .u64 y3]) (.agg #[.int .u64 0, .int .u64 0, .int .u64 0, .int .u64 0])).run Try.prog w = .ok true w := fun w => by
    have h := hy.1; rw [show (0 : Int) % 115792089237316195423570985008687907853269984665640564039457584007913129639936 = 0 by decide] at h; rw [eqI h Is.zero]; simp
  go_enter Try.func99, Try.ntmps99
  go_wp2
  exact bodyPost_ret (v := .tuple #[.agg #[.int .u64 0, .int .u64 0, .int .u64 0, .int .u64 0], .agg #[.int .u64 0, .int .u64 0, .int .u64 0, .int .u64 0], .bool false]) (by simp [results, Try.results99, go_sem]) rfl ⟨rfl, (by with_reducible repeat (first | exact IsGr.refl _ | refine IsGr.gr ?_ _ _ | refine IsGr.alloc ?_ _ | refine IsGr.drew ?_ | refine IsGr.drewN ?_ _))⟩

theorem told_true {z s0 s1 s2 s3 : Int} {ok : Bool} (h : Told z s0 s1 s2 s3 ok) (hr : -57896044618658097711785492504343953926634992332820282019728792003956564819968 ≤ z ∧ z < 57896044618658097711785492504343953926634992332820282019728792003956564819968) : ok = true ∧ IsI s0 s1 s2 s3 z := by
  rcases h with h | ⟨_, h, _⟩
  · exact h
  · exact absurd hr h

/-- What a quotient is told as. -/
def DivTold (x y s0 s1 s2 s3 r0 r1 r2 r3 : Int) (ok : Bool) : Prop :=
  (ok = true ∧ IsI s0 s1 s2 s3 (x.fdiv y) ∧ IsI r0 r1 r2 r3 (x.fmod y)) ∨
  (ok = false ∧ x = -57896044618658097711785492504343953926634992332820282019728792003956564819968 ∧ y = -1 ∧ s0 = 0 ∧ s1 = 0 ∧ s2 = 0 ∧ s3 = 0 ∧ r0 = 0 ∧ r1 = 0 ∧ r2 = 0 ∧ r3 = 0)

/-- Two blocks A, B, laid at a and b behind W, with whatever else lies between and behind. -/
def TwoB (W : World) (A B : Obj) (a b : Nat) (wr : World) : Prop :=
  ∃ os n os' n' os'' n'', a = W.heap.size + os.size ∧ b = W.heap.size + os.size + 1 + os'.size ∧ wr = Gr ((Gr ((Gr W os n).alloc A) os' n').alloc B) os'' n''
theorem TwoB.t1 (W : World) (A B : Obj) (a b : Nat) (o : Array Obj) (n : Nat) (h1 : a = W.heap.size + o.size) (h2 : b = W.heap.size + o.size + 1) : TwoB W A B a b (((Gr W o n).alloc A).alloc B) :=
  ⟨o, n, #[], _, #[], _, h1, h2, by rw [← Gr.nil, ← Gr.nil]⟩
theorem TwoB.t2 (W : World) (A B : Obj) (a b : Nat) (o : Array Obj) (n : Nat) (o' : Array Obj) (n' : Nat) (h1 : a = W.heap.size + o.size) (h2 : b = W.heap.size + o.size + 1) : TwoB W A B a b (Gr (((Gr W o n).alloc A).alloc B) o' n') :=
  ⟨o, n, #[], _, o', n', h1, h2, by rw [← Gr.nil]⟩
theorem TwoB.t3 (W : World) (A B : Obj) (a b : Nat) (o : Array Obj) (n : Nat) (o' : Array Obj) (n' : Nat) (h1 : a = W.heap.size + o.size) (h2 : b = W.heap.size + o.size + 1 + o'.size) : TwoB W A B a b ((Gr ((Gr W o n).alloc A) o' n').alloc B) :=
  ⟨o, n, o', n', #[], _, h1, h2, by rw [← Gr.nil]⟩
theorem TwoB.t4 (W : World) (A B : Obj) (a b : Nat) (o : Array Obj) (n : Nat) (o' : Array Obj) (n' : Nat) (o'' : Array Obj) (n'' : Nat) (h1 : a = W.heap.size + o.size) (h2 : b = W.heap.size + o.size + 1 + o'.size) : TwoB W A B a b (Gr ((Gr ((Gr W o n).alloc A) o' n').alloc B) o'' n'') :=
  ⟨o, n, o', n', o'', n'', h1, h2, rfl⟩
theorem TwoB.t5 (W : World) (A B : Obj) (a b : Nat) (o : Array Obj) (n : Nat) (h1 : a = W.heap.size) (h2 : b = W.heap.size + 1) : TwoB W A B a b (Gr ((W.alloc A).alloc B) o n) :=
  ⟨#[], _, #[], _, o, n, h1, h2, by rw [← Gr.nil, ← Gr.nil]⟩
theorem TwoB.t6 (W : World) (A B : Obj) (a b : Nat) (o : Array Obj) (n : Nat) (h1 : a = W.heap.size) (h2 : b = W.heap.size + 1 + o.size) : TwoB W A B a b ((Gr (W.alloc A) o n).alloc B) :=
  ⟨#[], _, o, n, #[], _, h1, by simpa using h2, by rw [← Gr.nil, ← Gr.nil]⟩
theorem TwoB.t7 (W : World) (A B : Obj) (a b : Nat) (o : Array Obj) (n : Nat) (o' : Array Obj) (n' : Nat) (h1 : a = W.heap.size) (h2 : b = W.heap.size + 1 + o.size) : TwoB W A B a b (Gr ((Gr (W.alloc A) o n).alloc B) o' n') :=
  ⟨#[], _, o, n, o', n', h1, by simpa using h2, by rw [← Gr.nil]⟩

set_option maxHeartbeats 20000000 in
theorem Div_any (x0 x1 x2 x3 x y0 y1 y2 y3 y : Int) (hx : IsI x0 x1 x2 x3 x) (hy : IsI y0 y1 y2 y3 y) (hy0 : y ≠ 0) (w : World) :
    Calls Try.prog 99 #[.agg #[.int .u64 x0, .int .u64 x1, .int .u64 x2, .int .u64 x3], .agg #[.int .u64 y0, .int .u64 y1, .int .u64 y2, .int .u64 y3]] w fun e w' => ∃ (s0 s1 s2 s3 r0 r1 r2 r3 : Int) (ok : Bool), e = .returned (.tuple #[.agg #[.int .u64 s0, .int .u64 s1, .int .u64 s2, .int .u64 s3], .agg #[.int .u64 r0, .int .u64 r1, .int .u64 r2, .int .u64 r3], .bool ok]) ∧ DivTold x y s0 s1 s2 s3 r0 r1 r2 r3 ok ∧ IsGr w w' := by
  have SX := fun w => sizeOf_abs hx w
  have SY := fun w => sizeOf_abs hy w
  have BX := fun w => below_neg hx w
  have BY := fun w => below_neg hy w
  have hya : abs y ≠ 0 := by unfold abs; split <;> omega
  have he : ∀ w, (Op.equalIn 10000 44 (.agg #[.int .u64 y0, .int .u64 y1, .int .u64 y2, .int .u64 y3]) (.agg #[.int .u64 0, .int .u64 0, .int .u64 0, .int .u64 0])).run Try.prog w = .ok false w := fun w => by
    have h := hy.2; rw [eqI hy.1 Is.zero]; simp; omega
  have HR : Hid (abs x ≤ 57896044618658097711785492504343953926634992332820282019728792003956564819968 ∧ abs y ≤ 57896044618658097711785492504343953926634992332820282019728792003956564819968 ∧ 0 < abs y ∧ 0 ≤ abs x ∧ (abs x = 57896044618658097711785492504343953926634992332820282019728792003956564819968 → x = -57896044618658097711785492504343953926634992332820282019728792003956564819968) ∧ -57896044618658097711785492504343953926634992332820282019728792003956564819968 ≤ x ∧ x < 57896044618658097711785492504343953926634992332820282019728792003956564819968 ∧ -57896044618658097711785492504343953926634992332820282019728792003956564819968 ≤ y ∧ y < 57896044618658097711785492504343953926634992332820282019728792003956564819968) := by
    have h1 := hx.2; have h2 := hy.2; unfold Hid abs; split <;> split <;> omega
  obtain ⟨bx, hbx⟩ : ∃ b, decide (x < 0) = b := ⟨_, rfl⟩
  obtain ⟨by', hby⟩ : ∃ b, decide (y < 0) = b := ⟨_, rfl⟩
  rw [hbx] at BX; rw [hby] at BY
  have HB : Hid (decide (x < 0) = bx ∧ decide (y < 0) = by') := ⟨hbx, hby⟩
  clear hbx hby
  go_enter Try.func99, Try.ntmps99
  go_upto_region 3 with fail
  go_cut [7, 8] (fun t7 t8 wr => ∃ (a b : Nat) (p0 p1 p2 p3 r0 r1 r2 r3 : Int), t7 = .pointer (some ⟨a, 0, none⟩) ∧ t8 = .pointer (some ⟨b, 0, none⟩) ∧ Is p0 p1 p2 p3 (abs x / abs y) ∧ Is r0 r1 r2 r3 (abs x % abs y) ∧ (TwoB ((((w.alloc (.cells #[.int .u64 x0, .int .u64 x1, .int .u64 x2, .int .u64 x3] 44)).alloc (.cells #[.int .u64 y0, .int .u64 y1, .int .u64 y2, .int .u64 y3] 44)).alloc (.cells #[.int .u64 0, .int .u64 0, .int .u64 0, .int .u64 0] 44)).alloc (.cells #[.int .u64 0, .int .u64 0, .int .u64 0, .int .u64 0] 44)) (.cells #[.int .u64 p0, .int .u64 p1, .int .u64 p2, .int .u64 p3] 123) (.cells #[.int .u64 r0, .int .u64 r1, .int .u64 r2, .int .u64 r3] 123) a b wr ∨ TwoB ((((w.alloc (.cells #[.int .u64 x0, .int .u64 x1, .int .u64 x2, .int .u64 x3] 44)).alloc (.cells #[.int .u64 y0, .int .u64 y1, .int .u64 y2, .int .u64 y3] 44)).alloc (.cells #[.int .u64 0, .int .u64 0, .int .u64 0, .int .u64 0] 44)).alloc (.cells #[.int .u64 0, .int .u64 0, .int .u64 0, .int .u64 0] 44)) (.cells #[.int .u64 r0, .int .u64 r1, .int .u64 r2, .int .u64 r3] 123) (.cells #[.int .u64 p0, .int .u64 p1, .int .u64 p2, .int .u64 p3] 123) b a wr))
  case first =>
    go_region_held3 (fun w' => (w'.cell? ⟨w.heap.size, 0, none⟩ = some (.int .u64 x0) ∧ w'.cell? ⟨w.heap.size, 1, none⟩ = some (.int .u64 x1) ∧ w'.cell? ⟨w.heap.size, 2, none⟩ = some (.int .u64 x2) ∧ w'.cell? ⟨w.heap.size, 3, none⟩ = some (.int .u64 x3)) ∧ (w'.cell? ⟨w.heap.size + 1, 0, none⟩ = some (.int .u64 y0) ∧ w'.cell? ⟨w.heap.size + 1, 1, none⟩ = some (.int .u64 y1) ∧ w'.cell? ⟨w.heap.size + 1, 2, none⟩ = some (.int .u64 y2) ∧ w'.cell? ⟨w.heap.size + 1, 3, none⟩ = some (.int .u64 y3))) (simp [go_sem])
      ((first | (go_at_call_of 97 (Value.int IntKind.u64 x0); refine (SX _).mono ?_; rintro e w1 ⟨u0, u1, u2, u3, rfl, hu, os2, n2, rfl⟩) | (go_at_call_of 97 (Value.int IntKind.u64 y0); refine (SY _).mono ?_; rintro e w1 ⟨v0, v1, v2, v3, rfl, hv, os3, n3, rfl⟩) | (go_at_call 122; refine (divided_any u0 u1 u2 u3 (abs x) v0 v1 v2 v3 (abs y) hu hv hya _).mono ?_; rintro e w1 ⟨p0, p1, p2, p3, r0, r1, r2, r3, rfl, hp, hr, os4, n4, rfl⟩)))
    all_goals
      go_wp2
      go_meet
      case rel =>
        refine ⟨_, _, p0, p1, p2, p3, r0, r1, r2, r3, rfl, rfl, hp, hr, ?_⟩
        first
          | (refine Or.inl ?_; (with_reducible apply TwoB.t1) <;> (simp; done))
          | (refine Or.inl ?_; (with_reducible apply TwoB.t2) <;> (simp; done))
          | (refine Or.inl ?_; (with_reducible apply TwoB.t3) <;> (simp; done))
          | (refine Or.inl ?_; (with_reducible apply TwoB.t4) <;> (simp; done))
          | (refine Or.inl ?_; (with_reducible apply TwoB.t5) <;> (simp; done))
          | (refine Or.inl ?_; (with_reducible apply TwoB.t6) <;> (simp; done))
          | (refine Or.inl ?_; (with_reducible apply TwoB.t7) <;> (simp; done))
          | (refine Or.inr ?_; (with_reducible apply TwoB.t1) <;> (simp; done))
          | (refine Or.inr ?_; (with_reducible apply TwoB.t2) <;> (simp; done))
          | (refine Or.inr ?_; (with_reducible apply TwoB.t3) <;> (simp; done))
          | (refine Or.inr ?_; (with_reducible apply TwoB.t4) <;> (simp; done))
          | (refine Or.inr ?_; (with_reducible apply TwoB.t5) <;> (simp; done))
          | (refine Or.inr ?_; (with_reducible apply TwoB.t6) <;> (simp; done))
          | (refine Or.inr ?_; (with_reducible apply TwoB.t7) <;> (simp; done))
  case rest =>
    obtain ⟨ta, tb, p0, p1, p2, p3, r0, r1, r2, r3, rfl, rfl, hp, hr, hcase⟩ := hcut
    rcases hcase with hcase | hcase
    · skip
      obtain ⟨os, n, os', n', os'', n'', ha, hb, rfl⟩ := hcase
      simp at ha hb
      subst ha hb
      go_upto_region 4 with fail
      go_region_held3 (fun w' => (w'.cell? ⟨w.heap.size, 0, none⟩ = some (.int .u64 x0) ∧ w'.cell? ⟨w.heap.size, 1, none⟩ = some (.int .u64 x1) ∧ w'.cell? ⟨w.heap.size, 2, none⟩ = some (.int .u64 x2) ∧ w'.cell? ⟨w.heap.size, 3, none⟩ = some (.int .u64 x3)) ∧ (w'.cell? ⟨w.heap.size + 1, 0, none⟩ = some (.int .u64 y0) ∧ w'.cell? ⟨w.heap.size + 1, 1, none⟩ = some (.int .u64 y1) ∧ w'.cell? ⟨w.heap.size + 1, 2, none⟩ = some (.int .u64 y2) ∧ w'.cell? ⟨w.heap.size + 1, 3, none⟩ = some (.int .u64 y3))) (simp [go_sem])
        ((first | (go_at_call_of 118 (Value.int IntKind.u64 x0); refine (BX _).mono ?_; rintro e w1 ⟨rfl, os2, n2, rfl⟩) | (go_at_call_of 118 (Value.int IntKind.u64 y0); refine (BY _).mono ?_; rintro e w1 ⟨rfl, os3, n3, rfl⟩)))
      all_goals
        obtain ⟨D, hD⟩ : ∃ D, (!(bx == by')) = D := ⟨_, rfl⟩
        rw [hD]
        have HD0 : Hid ((bx != by') = D) := hD
        clear hD
        cases D with
        | false =>
          have hadj : Adj x y (abs x / abs y) (abs x % abs y) := Or.inr ⟨Or.inl (by rw [HB.out.1, HB.out.2]; exact HD0.out), rfl, rfl⟩
          have hq := (hadj).quot hy0
          have hov := fun ho => (hadj).over hy0 HR.out.2.2.2.2.2.1 HR.out.2.2.2.2.2.2.1 ho
          rw [HB.out.1, HB.out.2, HD0.out] at hq hov
          have CS1 := fun w => signed_told p0 p1 p2 p3 _ false hp w
          have CS2 := fun w => signed_told r0 r1 r2 r3 _ by' hr w
          rw [← hq.1] at CS1 hov; rw [← hq.2.1] at CS2
          have HM : Hid (-57896044618658097711785492504343953926634992332820282019728792003956564819968 ≤ x.fmod y ∧ x.fmod y < 57896044618658097711785492504343953926634992332820282019728792003956564819968) := by
            have a := hq.2.1; have b := hq.2.2.1; have c := hq.2.2.2.1; have e := HR.out.2.1; unfold Hid; rw [a]; unfold sgn; split <;> omega
          have HOV : Hid (¬ (-57896044618658097711785492504343953926634992332820282019728792003956564819968 ≤ x.fdiv y ∧ x.fdiv y < 57896044618658097711785492504343953926634992332820282019728792003956564819968) → x = -57896044618658097711785492504343953926634992332820282019728792003956564819968 ∧ y = -1) := hov
          have HAD : Hid True := trivial
          clear hq hov hadj
          go_wp2_with fail
          refine (CS1 _).mono ?_
          rintro e w1 ⟨s0, s1, s2, s3, ok, rfl, hT, os5, n5, rfl⟩
          cases ok with
          | false =>
            have hDT : DivTold x y 0 0 0 0 0 0 0 0 false := by
              rcases hT with ⟨h, _⟩ | ⟨_, h, _⟩
              · cases h
              · have hh := HOV.out h; exact Or.inr ⟨rfl, hh.1, hh.2, rfl, rfl, rfl, rfl, rfl, rfl, rfl, rfl⟩
            go_wp2
            exact bodyPost_ret (v := .tuple #[.agg #[.int .u64 0, .int .u64 0, .int .u64 0, .int .u64 0], .agg #[.int .u64 0, .int .u64 0, .int .u64 0, .int .u64 0], .bool false]) (by simp [results, Try.results99, go_sem]) rfl ⟨0, 0, 0, 0, 0, 0, 0, 0, false, rfl, hDT, (by with_reducible repeat (first | exact IsGr.refl _ | refine IsGr.gr ?_ _ _ | refine IsGr.alloc ?_ _ | refine IsGr.drew ?_ | refine IsGr.drewN ?_ _))⟩
          | true =>
            have hS : IsI s0 s1 s2 s3 (x.fdiv y) := by
              rcases hT with ⟨_, h⟩ | ⟨h, _⟩
              · exact h
              · cases h
            clear hT
            go_upto_region 10 with fail
            go_region_held3 (fun w' => (w'.cell? ⟨w.heap.size + 1, 0, none⟩ = some (.int .u64 y0) ∧ w'.cell? ⟨w.heap.size + 1, 1, none⟩ = some (.int .u64 y1) ∧ w'.cell? ⟨w.heap.size + 1, 2, none⟩ = some (.int .u64 y2) ∧ w'.cell? ⟨w.heap.size + 1, 3, none⟩ = some (.int .u64 y3)) ∧ (w'.cell? ⟨w.heap.size + 1 + 1 + 1 + 1 + os.size + 1 + os'.size, 0, none⟩ = some (.int .u64 r0) ∧ w'.cell? ⟨w.heap.size + 1 + 1 + 1 + 1 + os.size + 1 + os'.size, 1, none⟩ = some (.int .u64 r1) ∧ w'.cell? ⟨w.heap.size + 1 + 1 + 1 + 1 + os.size + 1 + os'.size, 2, none⟩ = some (.int .u64 r2) ∧ w'.cell? ⟨w.heap.size + 1 + 1 + 1 + 1 + os.size + 1 + os'.size, 3, none⟩ = some (.int .u64 r3))) (simp [go_sem])
              ((first | (go_at_call 118; refine (BY _).mono ?_; rintro e w1 ⟨rfl, os6, n6, rfl⟩) | (go_at_call 120; refine (CS2 _).mono ?_; rintro e w1 ⟨t0, t1, t2, t3, ok2, rfl, hT2, os7, n7, rfl⟩; obtain ⟨rfl, hS2⟩ := told_true hT2 HM.out)))
            all_goals
              have hDT : DivTold x y s0 s1 s2 s3 t0 t1 t2 t3 true := Or.inl ⟨rfl, hS, hS2⟩
              go_wp2
              go_region
              go_wp2
              exact bodyPost_ret (v := .tuple #[.agg #[.int .u64 s0, .int .u64 s1, .int .u64 s2, .int .u64 s3], .agg #[.int .u64 t0, .int .u64 t1, .int .u64 t2, .int .u64 t3], .bool true]) (by simp [results, Try.results99, go_sem]) rfl ⟨s0, s1, s2, s3, t0, t1, t2, t3, true, rfl, hDT, (by with_reducible repeat (first | exact IsGr.refl _ | refine IsGr.gr ?_ _ _ | refine IsGr.alloc ?_ _ | refine IsGr.drew ?_ | refine IsGr.drewN ?_ _))⟩
        | true =>
          by_cases hz : abs x % abs y = 0
          · have hadj : Adj x y (abs x / abs y) (abs x % abs y) := Or.inr ⟨Or.inr hz, rfl, rfl⟩
            have hez : ∀ w, (Op.equalIn 10000 123 (.agg #[.int .u64 r0, .int .u64 r1, .int .u64 r2, .int .u64 r3]) (.agg #[.int .u64 0, .int .u64 0, .int .u64 0, .int .u64 0])).run Try.prog w = .ok true w := fun w => by rw [eqS hr Is.zero]; simp [hz]
            clear hz
            have hq := (hadj).quot hy0
            have hov := fun ho => (hadj).over hy0 HR.out.2.2.2.2.2.1 HR.out.2.2.2.2.2.2.1 ho
            rw [HB.out.1, HB.out.2, HD0.out] at hq hov
            have CS1 := fun w => signed_told p0 p1 p2 p3 _ true hp w
            have CS2 := fun w => signed_told r0 r1 r2 r3 _ by' hr w
            rw [← hq.1] at CS1 hov; rw [← hq.2.1] at CS2
            have HM : Hid (-57896044618658097711785492504343953926634992332820282019728792003956564819968 ≤ x.fmod y ∧ x.fmod y < 57896044618658097711785492504343953926634992332820282019728792003956564819968) := by
              have a := hq.2.1; have b := hq.2.2.1; have c := hq.2.2.2.1; have e := HR.out.2.1; unfold Hid; rw [a]; unfold sgn; split <;> omega
            have HOV : Hid (¬ (-57896044618658097711785492504343953926634992332820282019728792003956564819968 ≤ x.fdiv y ∧ x.fdiv y < 57896044618658097711785492504343953926634992332820282019728792003956564819968) → x = -57896044618658097711785492504343953926634992332820282019728792003956564819968 ∧ y = -1) := hov
            have HAD : Hid True := trivial
            clear hq hov hadj
            go_wp2_with fail
            refine (CS1 _).mono ?_
            rintro e w1 ⟨s0, s1, s2, s3, ok, rfl, hT, os5, n5, rfl⟩
            cases ok with
            | false =>
              have hDT : DivTold x y 0 0 0 0 0 0 0 0 false := by
                rcases hT with ⟨h, _⟩ | ⟨_, h, _⟩
                · cases h
                · have hh := HOV.out h; exact Or.inr ⟨rfl, hh.1, hh.2, rfl, rfl, rfl, rfl, rfl, rfl, rfl, rfl⟩
              go_wp2
              exact bodyPost_ret (v := .tuple #[.agg #[.int .u64 0, .int .u64 0, .int .u64 0, .int .u64 0], .agg #[.int .u64 0, .int .u64 0, .int .u64 0, .int .u64 0], .bool false]) (by simp [results, Try.results99, go_sem]) rfl ⟨0, 0, 0, 0, 0, 0, 0, 0, false, rfl, hDT, (by with_reducible repeat (first | exact IsGr.refl _ | refine IsGr.gr ?_ _ _ | refine IsGr.alloc ?_ _ | refine IsGr.drew ?_ | refine IsGr.drewN ?_ _))⟩
            | true =>
              have hS : IsI s0 s1 s2 s3 (x.fdiv y) := by
                rcases hT with ⟨_, h⟩ | ⟨h, _⟩
                · exact h
                · cases h
              clear hT
              go_upto_region 10 with fail
              go_region_held3 (fun w' => (w'.cell? ⟨w.heap.size + 1, 0, none⟩ = some (.int .u64 y0) ∧ w'.cell? ⟨w.heap.size + 1, 1, none⟩ = some (.int .u64 y1) ∧ w'.cell? ⟨w.heap.size + 1, 2, none⟩ = some (.int .u64 y2) ∧ w'.cell? ⟨w.heap.size + 1, 3, none⟩ = some (.int .u64 y3)) ∧ (w'.cell? ⟨w.heap.size + 1 + 1 + 1 + 1 + os.size + 1 + os'.size, 0, none⟩ = some (.int .u64 r0) ∧ w'.cell? ⟨w.heap.size + 1 + 1 + 1 + 1 + os.size + 1 + os'.size, 1, none⟩ = some (.int .u64 r1) ∧ w'.cell? ⟨w.heap.size + 1 + 1 + 1 + 1 + os.size + 1 + os'.size, 2, none⟩ = some (.int .u64 r2) ∧ w'.cell? ⟨w.heap.size + 1 + 1 + 1 + 1 + os.size + 1 + os'.size, 3, none⟩ = some (.int .u64 r3))) (simp [go_sem])
                ((first | (go_at_call 118; refine (BY _).mono ?_; rintro e w1 ⟨rfl, os6, n6, rfl⟩) | (go_at_call 120; refine (CS2 _).mono ?_; rintro e w1 ⟨t0, t1, t2, t3, ok2, rfl, hT2, os7, n7, rfl⟩; obtain ⟨rfl, hS2⟩ := told_true hT2 HM.out)))
              all_goals
                have hDT : DivTold x y s0 s1 s2 s3 t0 t1 t2 t3 true := Or.inl ⟨rfl, hS, hS2⟩
                go_wp2
                go_region
                go_wp2
                exact bodyPost_ret (v := .tuple #[.agg #[.int .u64 s0, .int .u64 s1, .int .u64 s2, .int .u64 s3], .agg #[.int .u64 t0, .int .u64 t1, .int .u64 t2, .int .u64 t3], .bool true]) (by simp [results, Try.results99, go_sem]) rfl ⟨s0, s1, s2, s3, t0, t1, t2, t3, true, rfl, hDT, (by with_reducible repeat (first | exact IsGr.refl _ | refine IsGr.gr ?_ _ _ | refine IsGr.alloc ?_ _ | refine IsGr.drew ?_ | refine IsGr.drewN ?_ _))⟩
          · have hez : ∀ w, (Op.equalIn 10000 123 (.agg #[.int .u64 r0, .int .u64 r1, .int .u64 r2, .int .u64 r3]) (.agg #[.int .u64 0, .int .u64 0, .int .u64 0, .int .u64 0])).run Try.prog w = .ok false w := fun w => by rw [eqS hr Is.zero]; simp [hz]
            have hadj : Adj x y (abs x / abs y + 1) (abs y - abs x % abs y) := Or.inl ⟨by rw [HB.out.1, HB.out.2]; exact HD0.out, hz, rfl, rfl⟩
            have HQ : Hid (0 ≤ abs x / abs y ∧ abs x / abs y ≤ 57896044618658097711785492504343953926634992332820282019728792003956564819968 ∧ 0 ≤ abs x % abs y ∧ abs x % abs y < abs y) := by
              have a := HR.out; exact ⟨Int.ediv_nonneg a.2.2.2.1 (Int.le_of_lt a.2.2.1), Int.le_trans (Int.ediv_le_self _ a.2.2.2.1) a.1, Int.emod_nonneg _ hya, Int.emod_lt_of_pos _ a.2.2.1⟩
            have CPl := fun w => plus_any p0 p1 p2 p3 _ 1 0 0 0 1 hp (by unfold Is; omega) w
            rw [show (abs x / abs y + 1) % 115792089237316195423570985008687907853269984665640564039457584007913129639936 = abs x / abs y + 1 by have := HQ.out; omega] at CPl
            clear hz
            go_upto_region 6 with fail
            go_cut [] (fun wr => ∃ (l0 l1 l2 l3 m0 m1 m2 m3 : Int) (os9 : Array Obj) (n9 : Nat), Is l0 l1 l2 l3 (abs x / abs y + 1) ∧ Is m0 m1 m2 m3 (abs y - abs x % abs y) ∧ wr = Gr ((Gr ((Gr ((((w.alloc (.cells #[.int .u64 x0, .int .u64 x1, .int .u64 x2, .int .u64 x3] 44)).alloc (.cells #[.int .u64 y0, .int .u64 y1, .int .u64 y2, .int .u64 y3] 44)).alloc (.cells #[.int .u64 0, .int .u64 0, .int .u64 0, .int .u64 0] 44)).alloc (.cells #[.int .u64 0, .int .u64 0, .int .u64 0, .int .u64 0] 44)) os n).alloc (.cells #[.int .u64 l0, .int .u64 l1, .int .u64 l2, .int .u64 l3] 123)) os' n').alloc (.cells #[.int .u64 m0, .int .u64 m1, .int .u64 m2, .int .u64 m3] 123)) os9 n9)
            case first =>
              go_region_with (first | (go_at_call 123; refine (CPl _).mono ?_; rintro e w1 ⟨l0, l1, l2, l3, rfl, hl, os5, n5, rfl⟩) | (go_at_call 97; refine (SY _).mono ?_; rintro e w1 ⟨v0, v1, v2, v3, rfl, hv, os6, n6, rfl⟩) | (go_at_call 117; refine (minus_any v0 v1 v2 v3 _ r0 r1 r2 r3 _ hv hr _).mono ?_; rintro e w1 ⟨m0, m1, m2, m3, rfl, hm, os7, n7, rfl⟩))
              all_goals
                rw [show (abs y - abs x % abs y) % 115792089237316195423570985008687907853269984665640564039457584007913129639936 = abs y - abs x % abs y by have := HQ.out; have := HR.out; omega] at hm
                go_wp2
                go_meet
                case rel => exact ⟨l0, l1, l2, l3, m0, m1, m2, m3, _, _, hl, hm, rfl⟩
            case rest =>
              obtain ⟨l0, l1, l2, l3, m0, m1, m2, m3, os9, n9, hl, hm, rfl⟩ := hcut
              have hq := (hadj).quot hy0
              have hov := fun ho => (hadj).over hy0 HR.out.2.2.2.2.2.1 HR.out.2.2.2.2.2.2.1 ho
              rw [HB.out.1, HB.out.2, HD0.out] at hq hov
              have CS1 := fun w => signed_told l0 l1 l2 l3 _ true hl w
              have CS2 := fun w => signed_told m0 m1 m2 m3 _ by' hm w
              rw [← hq.1] at CS1 hov; rw [← hq.2.1] at CS2
              have HM : Hid (-57896044618658097711785492504343953926634992332820282019728792003956564819968 ≤ x.fmod y ∧ x.fmod y < 57896044618658097711785492504343953926634992332820282019728792003956564819968) := by
                have a := hq.2.1; have b := hq.2.2.1; have c := hq.2.2.2.1; have e := HR.out.2.1; unfold Hid; rw [a]; unfold sgn; split <;> omega
              have HOV : Hid (¬ (-57896044618658097711785492504343953926634992332820282019728792003956564819968 ≤ x.fdiv y ∧ x.fdiv y < 57896044618658097711785492504343953926634992332820282019728792003956564819968) → x = -57896044618658097711785492504343953926634992332820282019728792003956564819968 ∧ y = -1) := hov
              have HAD : Hid True := trivial
              clear hq hov hadj
              go_wp2_with fail
              refine (CS1 _).mono ?_
              rintro e w1 ⟨s0, s1, s2, s3, ok, rfl, hT, os5, n5, rfl⟩
              cases ok with
              | false =>
                have hDT : DivTold x y 0 0 0 0 0 0 0 0 false := by
                  rcases hT with ⟨h, _⟩ | ⟨_, h, _⟩
                  · cases h
                  · have hh := HOV.out h; exact Or.inr ⟨rfl, hh.1, hh.2, rfl, rfl, rfl, rfl, rfl, rfl, rfl, rfl⟩
                go_wp2
                exact bodyPost_ret (v := .tuple #[.agg #[.int .u64 0, .int .u64 0, .int .u64 0, .int .u64 0], .agg #[.int .u64 0, .int .u64 0, .int .u64 0, .int .u64 0], .bool false]) (by simp [results, Try.results99, go_sem]) rfl ⟨0, 0, 0, 0, 0, 0, 0, 0, false, rfl, hDT, (by with_reducible repeat (first | exact IsGr.refl _ | refine IsGr.gr ?_ _ _ | refine IsGr.alloc ?_ _ | refine IsGr.drew ?_ | refine IsGr.drewN ?_ _))⟩
              | true =>
                have hS : IsI s0 s1 s2 s3 (x.fdiv y) := by
                  rcases hT with ⟨_, h⟩ | ⟨h, _⟩
                  · exact h
                  · cases h
                clear hT
                go_upto_region 10 with fail
                go_region_held3 (fun w' => (w'.cell? ⟨w.heap.size + 1, 0, none⟩ = some (.int .u64 y0) ∧ w'.cell? ⟨w.heap.size + 1, 1, none⟩ = some (.int .u64 y1) ∧ w'.cell? ⟨w.heap.size + 1, 2, none⟩ = some (.int .u64 y2) ∧ w'.cell? ⟨w.heap.size + 1, 3, none⟩ = some (.int .u64 y3)) ∧ (w'.cell? ⟨w.heap.size + 1 + 1 + 1 + 1 + os.size + 1 + os'.size, 0, none⟩ = some (.int .u64 m0) ∧ w'.cell? ⟨w.heap.size + 1 + 1 + 1 + 1 + os.size + 1 + os'.size, 1, none⟩ = some (.int .u64 m1) ∧ w'.cell? ⟨w.heap.size + 1 + 1 + 1 + 1 + os.size + 1 + os'.size, 2, none⟩ = some (.int .u64 m2) ∧ w'.cell? ⟨w.heap.size + 1 + 1 + 1 + 1 + os.size + 1 + os'.size, 3, none⟩ = some (.int .u64 m3))) (simp [go_sem])
                  ((first | (go_at_call 118; refine (BY _).mono ?_; rintro e w1 ⟨rfl, os6, n6, rfl⟩) | (go_at_call 120; refine (CS2 _).mono ?_; rintro e w1 ⟨t0, t1, t2, t3, ok2, rfl, hT2, os7, n7, rfl⟩; obtain ⟨rfl, hS2⟩ := told_true hT2 HM.out)))
                all_goals
                  have hDT : DivTold x y s0 s1 s2 s3 t0 t1 t2 t3 true := Or.inl ⟨rfl, hS, hS2⟩
                  go_wp2
                  go_region
                  go_wp2
                  exact bodyPost_ret (v := .tuple #[.agg #[.int .u64 s0, .int .u64 s1, .int .u64 s2, .int .u64 s3], .agg #[.int .u64 t0, .int .u64 t1, .int .u64 t2, .int .u64 t3], .bool true]) (by simp [results, Try.results99, go_sem]) rfl ⟨s0, s1, s2, s3, t0, t1, t2, t3, true, rfl, hDT, (by with_reducible repeat (first | exact IsGr.refl _ | refine IsGr.gr ?_ _ _ | refine IsGr.alloc ?_ _ | refine IsGr.drew ?_ | refine IsGr.drewN ?_ _))⟩
    · skip
      obtain ⟨os, n, os', n', os'', n'', ha, hb, rfl⟩ := hcase
      simp at ha hb
      subst ha hb
      go_upto_region 4 with fail
      go_region_held3 (fun w' => (w'.cell? ⟨w.heap.size, 0, none⟩ = some (.int .u64 x0) ∧ w'.cell? ⟨w.heap.size, 1, none⟩ = some (.int .u64 x1) ∧ w'.cell? ⟨w.heap.size, 2, none⟩ = some (.int .u64 x2) ∧ w'.cell? ⟨w.heap.size, 3, none⟩ = some (.int .u64 x3)) ∧ (w'.cell? ⟨w.heap.size + 1, 0, none⟩ = some (.int .u64 y0) ∧ w'.cell? ⟨w.heap.size + 1, 1, none⟩ = some (.int .u64 y1) ∧ w'.cell? ⟨w.heap.size + 1, 2, none⟩ = some (.int .u64 y2) ∧ w'.cell? ⟨w.heap.size + 1, 3, none⟩ = some (.int .u64 y3))) (simp [go_sem])
        ((first | (go_at_call_of 118 (Value.int IntKind.u64 x0); refine (BX _).mono ?_; rintro e w1 ⟨rfl, os2, n2, rfl⟩) | (go_at_call_of 118 (Value.int IntKind.u64 y0); refine (BY _).mono ?_; rintro e w1 ⟨rfl, os3, n3, rfl⟩)))
      all_goals
        obtain ⟨D, hD⟩ : ∃ D, (!(bx == by')) = D := ⟨_, rfl⟩
        rw [hD]
        have HD0 : Hid ((bx != by') = D) := hD
        clear hD
        cases D with
        | false =>
          have hadj : Adj x y (abs x / abs y) (abs x % abs y) := Or.inr ⟨Or.inl (by rw [HB.out.1, HB.out.2]; exact HD0.out), rfl, rfl⟩
          have hq := (hadj).quot hy0
          have hov := fun ho => (hadj).over hy0 HR.out.2.2.2.2.2.1 HR.out.2.2.2.2.2.2.1 ho
          rw [HB.out.1, HB.out.2, HD0.out] at hq hov
          have CS1 := fun w => signed_told p0 p1 p2 p3 _ false hp w
          have CS2 := fun w => signed_told r0 r1 r2 r3 _ by' hr w
          rw [← hq.1] at CS1 hov; rw [← hq.2.1] at CS2
          have HM : Hid (-57896044618658097711785492504343953926634992332820282019728792003956564819968 ≤ x.fmod y ∧ x.fmod y < 57896044618658097711785492504343953926634992332820282019728792003956564819968) := by
            have a := hq.2.1; have b := hq.2.2.1; have c := hq.2.2.2.1; have e := HR.out.2.1; unfold Hid; rw [a]; unfold sgn; split <;> omega
          have HOV : Hid (¬ (-57896044618658097711785492504343953926634992332820282019728792003956564819968 ≤ x.fdiv y ∧ x.fdiv y < 57896044618658097711785492504343953926634992332820282019728792003956564819968) → x = -57896044618658097711785492504343953926634992332820282019728792003956564819968 ∧ y = -1) := hov
          have HAD : Hid True := trivial
          clear hq hov hadj
          go_wp2_with fail
          refine (CS1 _).mono ?_
          rintro e w1 ⟨s0, s1, s2, s3, ok, rfl, hT, os5, n5, rfl⟩
          cases ok with
          | false =>
            have hDT : DivTold x y 0 0 0 0 0 0 0 0 false := by
              rcases hT with ⟨h, _⟩ | ⟨_, h, _⟩
              · cases h
              · have hh := HOV.out h; exact Or.inr ⟨rfl, hh.1, hh.2, rfl, rfl, rfl, rfl, rfl, rfl, rfl, rfl⟩
            go_wp2
            exact bodyPost_ret (v := .tuple #[.agg #[.int .u64 0, .int .u64 0, .int .u64 0, .int .u64 0], .agg #[.int .u64 0, .int .u64 0, .int .u64 0, .int .u64 0], .bool false]) (by simp [results, Try.results99, go_sem]) rfl ⟨0, 0, 0, 0, 0, 0, 0, 0, false, rfl, hDT, (by with_reducible repeat (first | exact IsGr.refl _ | refine IsGr.gr ?_ _ _ | refine IsGr.alloc ?_ _ | refine IsGr.drew ?_ | refine IsGr.drewN ?_ _))⟩
          | true =>
            have hS : IsI s0 s1 s2 s3 (x.fdiv y) := by
              rcases hT with ⟨_, h⟩ | ⟨h, _⟩
              · exact h
              · cases h
            clear hT
            go_upto_region 10 with fail
            go_region_held3 (fun w' => (w'.cell? ⟨w.heap.size + 1, 0, none⟩ = some (.int .u64 y0) ∧ w'.cell? ⟨w.heap.size + 1, 1, none⟩ = some (.int .u64 y1) ∧ w'.cell? ⟨w.heap.size + 1, 2, none⟩ = some (.int .u64 y2) ∧ w'.cell? ⟨w.heap.size + 1, 3, none⟩ = some (.int .u64 y3)) ∧ (w'.cell? ⟨w.heap.size + 1 + 1 + 1 + 1 + os.size, 0, none⟩ = some (.int .u64 r0) ∧ w'.cell? ⟨w.heap.size + 1 + 1 + 1 + 1 + os.size, 1, none⟩ = some (.int .u64 r1) ∧ w'.cell? ⟨w.heap.size + 1 + 1 + 1 + 1 + os.size, 2, none⟩ = some (.int .u64 r2) ∧ w'.cell? ⟨w.heap.size + 1 + 1 + 1 + 1 + os.size, 3, none⟩ = some (.int .u64 r3))) (simp [go_sem])
              ((first | (go_at_call 118; refine (BY _).mono ?_; rintro e w1 ⟨rfl, os6, n6, rfl⟩) | (go_at_call 120; refine (CS2 _).mono ?_; rintro e w1 ⟨t0, t1, t2, t3, ok2, rfl, hT2, os7, n7, rfl⟩; obtain ⟨rfl, hS2⟩ := told_true hT2 HM.out)))
            all_goals
              have hDT : DivTold x y s0 s1 s2 s3 t0 t1 t2 t3 true := Or.inl ⟨rfl, hS, hS2⟩
              go_wp2
              go_region
              go_wp2
              exact bodyPost_ret (v := .tuple #[.agg #[.int .u64 s0, .int .u64 s1, .int .u64 s2, .int .u64 s3], .agg #[.int .u64 t0, .int .u64 t1, .int .u64 t2, .int .u64 t3], .bool true]) (by simp [results, Try.results99, go_sem]) rfl ⟨s0, s1, s2, s3, t0, t1, t2, t3, true, rfl, hDT, (by with_reducible repeat (first | exact IsGr.refl _ | refine IsGr.gr ?_ _ _ | refine IsGr.alloc ?_ _ | refine IsGr.drew ?_ | refine IsGr.drewN ?_ _))⟩
        | true =>
          by_cases hz : abs x % abs y = 0
          · have hadj : Adj x y (abs x / abs y) (abs x % abs y) := Or.inr ⟨Or.inr hz, rfl, rfl⟩
            have hez : ∀ w, (Op.equalIn 10000 123 (.agg #[.int .u64 r0, .int .u64 r1, .int .u64 r2, .int .u64 r3]) (.agg #[.int .u64 0, .int .u64 0, .int .u64 0, .int .u64 0])).run Try.prog w = .ok true w := fun w => by rw [eqS hr Is.zero]; simp [hz]
            clear hz
            have hq := (hadj).quot hy0
            have hov := fun ho => (hadj).over hy0 HR.out.2.2.2.2.2.1 HR.out.2.2.2.2.2.2.1 ho
            rw [HB.out.1, HB.out.2, HD0.out] at hq hov
            have CS1 := fun w => signed_told p0 p1 p2 p3 _ true hp w
            have CS2 := fun w => signed_told r0 r1 r2 r3 _ by' hr w
            rw [← hq.1] at CS1 hov; rw [← hq.2.1] at CS2
            have HM : Hid (-57896044618658097711785492504343953926634992332820282019728792003956564819968 ≤ x.fmod y ∧ x.fmod y < 57896044618658097711785492504343953926634992332820282019728792003956564819968) := by
              have a := hq.2.1; have b := hq.2.2.1; have c := hq.2.2.2.1; have e := HR.out.2.1; unfold Hid; rw [a]; unfold sgn; split <;> omega
            have HOV : Hid (¬ (-57896044618658097711785492504343953926634992332820282019728792003956564819968 ≤ x.fdiv y ∧ x.fdiv y < 57896044618658097711785492504343953926634992332820282019728792003956564819968) → x = -57896044618658097711785492504343953926634992332820282019728792003956564819968 ∧ y = -1) := hov
            have HAD : Hid True := trivial
            clear hq hov hadj
            go_wp2_with fail
            refine (CS1 _).mono ?_
            rintro e w1 ⟨s0, s1, s2, s3, ok, rfl, hT, os5, n5, rfl⟩
            cases ok with
            | false =>
              have hDT : DivTold x y 0 0 0 0 0 0 0 0 false := by
                rcases hT with ⟨h, _⟩ | ⟨_, h, _⟩
                · cases h
                · have hh := HOV.out h; exact Or.inr ⟨rfl, hh.1, hh.2, rfl, rfl, rfl, rfl, rfl, rfl, rfl, rfl⟩
              go_wp2
              exact bodyPost_ret (v := .tuple #[.agg #[.int .u64 0, .int .u64 0, .int .u64 0, .int .u64 0], .agg #[.int .u64 0, .int .u64 0, .int .u64 0, .int .u64 0], .bool false]) (by simp [results, Try.results99, go_sem]) rfl ⟨0, 0, 0, 0, 0, 0, 0, 0, false, rfl, hDT, (by with_reducible repeat (first | exact IsGr.refl _ | refine IsGr.gr ?_ _ _ | refine IsGr.alloc ?_ _ | refine IsGr.drew ?_ | refine IsGr.drewN ?_ _))⟩
            | true =>
              have hS : IsI s0 s1 s2 s3 (x.fdiv y) := by
                rcases hT with ⟨_, h⟩ | ⟨h, _⟩
                · exact h
                · cases h
              clear hT
              go_upto_region 10 with fail
              go_region_held3 (fun w' => (w'.cell? ⟨w.heap.size + 1, 0, none⟩ = some (.int .u64 y0) ∧ w'.cell? ⟨w.heap.size + 1, 1, none⟩ = some (.int .u64 y1) ∧ w'.cell? ⟨w.heap.size + 1, 2, none⟩ = some (.int .u64 y2) ∧ w'.cell? ⟨w.heap.size + 1, 3, none⟩ = some (.int .u64 y3)) ∧ (w'.cell? ⟨w.heap.size + 1 + 1 + 1 + 1 + os.size, 0, none⟩ = some (.int .u64 r0) ∧ w'.cell? ⟨w.heap.size + 1 + 1 + 1 + 1 + os.size, 1, none⟩ = some (.int .u64 r1) ∧ w'.cell? ⟨w.heap.size + 1 + 1 + 1 + 1 + os.size, 2, none⟩ = some (.int .u64 r2) ∧ w'.cell? ⟨w.heap.size + 1 + 1 + 1 + 1 + os.size, 3, none⟩ = some (.int .u64 r3))) (simp [go_sem])
                ((first | (go_at_call 118; refine (BY _).mono ?_; rintro e w1 ⟨rfl, os6, n6, rfl⟩) | (go_at_call 120; refine (CS2 _).mono ?_; rintro e w1 ⟨t0, t1, t2, t3, ok2, rfl, hT2, os7, n7, rfl⟩; obtain ⟨rfl, hS2⟩ := told_true hT2 HM.out)))
              all_goals
                have hDT : DivTold x y s0 s1 s2 s3 t0 t1 t2 t3 true := Or.inl ⟨rfl, hS, hS2⟩
                go_wp2
                go_region
                go_wp2
                exact bodyPost_ret (v := .tuple #[.agg #[.int .u64 s0, .int .u64 s1, .int .u64 s2, .int .u64 s3], .agg #[.int .u64 t0, .int .u64 t1, .int .u64 t2, .int .u64 t3], .bool true]) (by simp [results, Try.results99, go_sem]) rfl ⟨s0, s1, s2, s3, t0, t1, t2, t3, true, rfl, hDT, (by with_reducible repeat (first | exact IsGr.refl _ | refine IsGr.gr ?_ _ _ | refine IsGr.alloc ?_ _ | refine IsGr.drew ?_ | refine IsGr.drewN ?_ _))⟩
          · have hez : ∀ w, (Op.equalIn 10000 123 (.agg #[.int .u64 r0, .int .u64 r1, .int .u64 r2, .int .u64 r3]) (.agg #[.int .u64 0, .int .u64 0, .int .u64 0, .int .u64 0])).run Try.prog w = .ok false w := fun w => by rw [eqS hr Is.zero]; simp [hz]
            have hadj : Adj x y (abs x / abs y + 1) (abs y - abs x % abs y) := Or.inl ⟨by rw [HB.out.1, HB.out.2]; exact HD0.out, hz, rfl, rfl⟩
            have HQ : Hid (0 ≤ abs x / abs y ∧ abs x / abs y ≤ 57896044618658097711785492504343953926634992332820282019728792003956564819968 ∧ 0 ≤ abs x % abs y ∧ abs x % abs y < abs y) := by
              have a := HR.out; exact ⟨Int.ediv_nonneg a.2.2.2.1 (Int.le_of_lt a.2.2.1), Int.le_trans (Int.ediv_le_self _ a.2.2.2.1) a.1, Int.emod_nonneg _ hya, Int.emod_lt_of_pos _ a.2.2.1⟩
            have CPl := fun w => plus_any p0 p1 p2 p3 _ 1 0 0 0 1 hp (by unfold Is; omega) w
            rw [show (abs x / abs y + 1) % 115792089237316195423570985008687907853269984665640564039457584007913129639936 = abs x / abs y + 1 by have := HQ.out; omega] at CPl
            clear hz
            go_upto_region 6 with fail
            go_cut [] (fun wr => ∃ (l0 l1 l2 l3 m0 m1 m2 m3 : Int) (os9 : Array Obj) (n9 : Nat), Is l0 l1 l2 l3 (abs x / abs y + 1) ∧ Is m0 m1 m2 m3 (abs y - abs x % abs y) ∧ wr = Gr ((Gr ((Gr ((((w.alloc (.cells #[.int .u64 x0, .int .u64 x1, .int .u64 x2, .int .u64 x3] 44)).alloc (.cells #[.int .u64 y0, .int .u64 y1, .int .u64 y2, .int .u64 y3] 44)).alloc (.cells #[.int .u64 0, .int .u64 0, .int .u64 0, .int .u64 0] 44)).alloc (.cells #[.int .u64 0, .int .u64 0, .int .u64 0, .int .u64 0] 44)) os n).alloc (.cells #[.int .u64 m0, .int .u64 m1, .int .u64 m2, .int .u64 m3] 123)) os' n').alloc (.cells #[.int .u64 l0, .int .u64 l1, .int .u64 l2, .int .u64 l3] 123)) os9 n9)
            case first =>
              go_region_with (first | (go_at_call 123; refine (CPl _).mono ?_; rintro e w1 ⟨l0, l1, l2, l3, rfl, hl, os5, n5, rfl⟩) | (go_at_call 97; refine (SY _).mono ?_; rintro e w1 ⟨v0, v1, v2, v3, rfl, hv, os6, n6, rfl⟩) | (go_at_call 117; refine (minus_any v0 v1 v2 v3 _ r0 r1 r2 r3 _ hv hr _).mono ?_; rintro e w1 ⟨m0, m1, m2, m3, rfl, hm, os7, n7, rfl⟩))
              all_goals
                rw [show (abs y - abs x % abs y) % 115792089237316195423570985008687907853269984665640564039457584007913129639936 = abs y - abs x % abs y by have := HQ.out; have := HR.out; omega] at hm
                go_wp2
                go_meet
                case rel => exact ⟨l0, l1, l2, l3, m0, m1, m2, m3, _, _, hl, hm, rfl⟩
            case rest =>
              obtain ⟨l0, l1, l2, l3, m0, m1, m2, m3, os9, n9, hl, hm, rfl⟩ := hcut
              have hq := (hadj).quot hy0
              have hov := fun ho => (hadj).over hy0 HR.out.2.2.2.2.2.1 HR.out.2.2.2.2.2.2.1 ho
              rw [HB.out.1, HB.out.2, HD0.out] at hq hov
              have CS1 := fun w => signed_told l0 l1 l2 l3 _ true hl w
              have CS2 := fun w => signed_told m0 m1 m2 m3 _ by' hm w
              rw [← hq.1] at CS1 hov; rw [← hq.2.1] at CS2
              have HM : Hid (-57896044618658097711785492504343953926634992332820282019728792003956564819968 ≤ x.fmod y ∧ x.fmod y < 57896044618658097711785492504343953926634992332820282019728792003956564819968) := by
                have a := hq.2.1; have b := hq.2.2.1; have c := hq.2.2.2.1; have e := HR.out.2.1; unfold Hid; rw [a]; unfold sgn; split <;> omega
              have HOV : Hid (¬ (-57896044618658097711785492504343953926634992332820282019728792003956564819968 ≤ x.fdiv y ∧ x.fdiv y < 57896044618658097711785492504343953926634992332820282019728792003956564819968) → x = -57896044618658097711785492504343953926634992332820282019728792003956564819968 ∧ y = -1) := hov
              have HAD : Hid True := trivial
              clear hq hov hadj
              go_wp2_with fail
              refine (CS1 _).mono ?_
              rintro e w1 ⟨s0, s1, s2, s3, ok, rfl, hT, os5, n5, rfl⟩
              cases ok with
              | false =>
                have hDT : DivTold x y 0 0 0 0 0 0 0 0 false := by
                  rcases hT with ⟨h, _⟩ | ⟨_, h, _⟩
                  · cases h
                  · have hh := HOV.out h; exact Or.inr ⟨rfl, hh.1, hh.2, rfl, rfl, rfl, rfl, rfl, rfl, rfl, rfl⟩
                go_wp2
                exact bodyPost_ret (v := .tuple #[.agg #[.int .u64 0, .int .u64 0, .int .u64 0, .int .u64 0], .agg #[.int .u64 0, .int .u64 0, .int .u64 0, .int .u64 0], .bool false]) (by simp [results, Try.results99, go_sem]) rfl ⟨0, 0, 0, 0, 0, 0, 0, 0, false, rfl, hDT, (by with_reducible repeat (first | exact IsGr.refl _ | refine IsGr.gr ?_ _ _ | refine IsGr.alloc ?_ _ | refine IsGr.drew ?_ | refine IsGr.drewN ?_ _))⟩
              | true =>
                have hS : IsI s0 s1 s2 s3 (x.fdiv y) := by
                  rcases hT with ⟨_, h⟩ | ⟨h, _⟩
                  · exact h
                  · cases h
                clear hT
                go_upto_region 10 with fail
                go_region_held3 (fun w' => (w'.cell? ⟨w.heap.size + 1, 0, none⟩ = some (.int .u64 y0) ∧ w'.cell? ⟨w.heap.size + 1, 1, none⟩ = some (.int .u64 y1) ∧ w'.cell? ⟨w.heap.size + 1, 2, none⟩ = some (.int .u64 y2) ∧ w'.cell? ⟨w.heap.size + 1, 3, none⟩ = some (.int .u64 y3)) ∧ (w'.cell? ⟨w.heap.size + 1 + 1 + 1 + 1 + os.size, 0, none⟩ = some (.int .u64 m0) ∧ w'.cell? ⟨w.heap.size + 1 + 1 + 1 + 1 + os.size, 1, none⟩ = some (.int .u64 m1) ∧ w'.cell? ⟨w.heap.size + 1 + 1 + 1 + 1 + os.size, 2, none⟩ = some (.int .u64 m2) ∧ w'.cell? ⟨w.heap.size + 1 + 1 + 1 + 1 + os.size, 3, none⟩ = some (.int .u64 m3))) (simp [go_sem])
                  ((first | (go_at_call 118; refine (BY _).mono ?_; rintro e w1 ⟨rfl, os6, n6, rfl⟩) | (go_at_call 120; refine (CS2 _).mono ?_; rintro e w1 ⟨t0, t1, t2, t3, ok2, rfl, hT2, os7, n7, rfl⟩; obtain ⟨rfl, hS2⟩ := told_true hT2 HM.out)))
                all_goals
                  have hDT : DivTold x y s0 s1 s2 s3 t0 t1 t2 t3 true := Or.inl ⟨rfl, hS, hS2⟩
                  go_wp2
                  go_region
                  go_wp2
                  exact bodyPost_ret (v := .tuple #[.agg #[.int .u64 s0, .int .u64 s1, .int .u64 s2, .int .u64 s3], .agg #[.int .u64 t0, .int .u64 t1, .int .u64 t2, .int .u64 t3], .bool true]) (by simp [results, Try.results99, go_sem]) rfl ⟨s0, s1, s2, s3, t0, t1, t2, t3, true, rfl, hDT, (by with_reducible repeat (first | exact IsGr.refl _ | refine IsGr.gr ?_ _ _ | refine IsGr.alloc ?_ _ | refine IsGr.drew ?_ | refine IsGr.drewN ?_ _))⟩
end Go.Proofs.Ytohhlhoijanjfaa
