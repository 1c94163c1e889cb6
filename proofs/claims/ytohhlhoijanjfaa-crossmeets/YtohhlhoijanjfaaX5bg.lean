/- Contracts of package cross over the loaded program: meetAlong. -/
import Derived.Test.YtohhlhoijanjfaaGB
namespace Go.Proofs.Ytohhlhoijanjfaa
open Go.RowKit Go.Shelf
attribute [local go_sem] Gr.size Gr.cell? Gr.frozen? Gr.setCell Gr.drew Gr.drewN Gr.of_drew Gr.of_drewN Gr.gr Gr.lt_of1 Gr.le_of1 Gr.lt_of2 Gr.le_of2 Gr.lt_of3 Gr.le_of3 Gr.lt_of4 Gr.le_of4 Gr.lt_of5 Gr.le_of5 Gr.lt_of6 Gr.le_of6 Gr.lt_of7 Gr.le_of7 Gr.lt_of8 Gr.le_of8 Gr.lt_of9 Gr.le_of9 Gr.lt_of10 Gr.le_of10 Gr.lt_of11 Gr.le_of11 Gr.lt_of12 Gr.le_of12 Gr.lt_of13 Gr.le_of13 Gr.lt_of14 Gr.le_of14 Gr.lt_of15 Gr.le_of15 Gr.lt_of16 Gr.le_of16 Gr.lt_of17 Gr.le_of17 Gr.lt_of18 Gr.le_of18 Gr.lt_of19 Gr.le_of19 Gr.lt_of20 Gr.le_of20 Gr.lt_of21 Gr.le_of21 Gr.lt_of22 Gr.le_of22 Gr.lt_of23 Gr.le_of23 Gr.lt_of24 Gr.le_of24

/-- p is that one of l and m that comes later. -/
def Later (l1 l2 m1 m2 p1 p2 : Int) : Prop := (cmpP l1 l2 m1 m2 < 0 ∧ p1 = m1 ∧ p2 = m2) ∨ (¬ cmpP l1 l2 m1 m2 < 0 ∧ p1 = l1 ∧ p2 = l2)
/-- q is that one of h and k that comes earlier. -/
def Sooner (h1 h2 k1 k2 q1 q2 : Int) : Prop := (0 < cmpP h1 h2 k1 k2 ∧ q1 = k1 ∧ q2 = k2) ∨ (¬ 0 < cmpP h1 h2 k1 k2 ∧ q1 = h1 ∧ q2 = h2)
/-- What segments that go one way meet in. -/
def AlongT (o o' : Bool) (p1 p2 q1 q2 K : Int) (V : Value) : Prop := ((o && o') = false ∧ K = 0 ∧ V = .agg #[.int .u64 0, .int .u64 0, .int .u64 0, .int .u64 0, .int .u64 0, .int .u64 0, .int .u64 0, .int .u64 0, .int .u64 0, .int .u64 0, .int .u64 0, .int .u64 0]) ∨ ((o && o') = true ∧ (p1 = q1 ∧ p2 = q2) ∧ K = 1 ∧ V = .agg #[.int .u64 (wd0 p1), .int .u64 (wd1 p1), .int .u64 (wd2 p1), .int .u64 (wd3 p1), .int .u64 (wd0 p2), .int .u64 (wd1 p2), .int .u64 (wd2 p2), .int .u64 (wd3 p2), .int .u64 (wd0 1), .int .u64 (wd1 1), .int .u64 (wd2 1), .int .u64 (wd3 1)]) ∨ ((o && o') = true ∧ ¬ (p1 = q1 ∧ p2 = q2) ∧ K = 2 ∧ V = .agg #[.int .u64 0, .int .u64 0, .int .u64 0, .int .u64 0, .int .u64 0, .int .u64 0, .int .u64 0, .int .u64 0, .int .u64 0, .int .u64 0, .int .u64 0, .int .u64 0])

set_option maxRecDepth 20000 in set_option maxHeartbeats 8000000 in
theorem meetAlong_mk (a1 a2 b1 b2 c1 c2 d1 d2 l1 l2 h1 h2 m1 m2 k1 k2 p1 p2 q1 q2 K : Int) (V : Value) (H : Ends2 a1 a2 b1 b2 l1 l2 h1 h2) (H' : Ends2 c1 c2 d1 d2 m1 m2 k1 k2)
    (hX : cmpP l1 l2 m1 m2 < 0) (e1 : p1 = m1) (e2 : p2 = m2) (hY : 0 < cmpP h1 h2 k1 k2) (e3 : q1 = k1) (e4 : q2 = k2) (HT : AlongT (onP a1 a2 b1 b2 p1 p2) (onP c1 c2 d1 d2 p1 p2) p1 p2 q1 q2 K V) (w : World) :
    Calls Try.prog 61 #[.agg #[.int .i64 a1, .int .i64 a2, .int .i64 b1, .int .i64 b2], .agg #[.int .i64 c1, .int .i64 c2, .int .i64 d1, .int .i64 d2]] w fun e w' => e = .returned (.tuple #[.int .i64 K, V]) ∧ IsGr w w' := by
  have C1 := fun w => Ends_any a1 a2 b1 b2 l1 l2 h1 h2 H w
  have C2 := fun w => Ends_any c1 c2 d1 d2 m1 m2 k1 k2 H' w
  have C3 := fun w => PCmp_any l1 l2 m1 m2 w
  have C4 := fun w => PCmp_any h1 h2 k1 k2 w
  have C5 := fun w => On_any a1 a2 b1 b2 p1 p2 w
  have C6 := fun w => On_any c1 c2 d1 d2 p1 p2 w
  have CA : Hid (onP a1 a2 b1 b2 p1 p2 = true → ∀ w, Calls Try.prog 37 #[.agg #[.int .i64 p1, .int .i64 p2]] w fun e w' => e = .returned (.agg #[.int .u64 (wd0 p1), .int .u64 (wd1 p1), .int .u64 (wd2 p1), .int .u64 (wd3 p1), .int .u64 (wd0 p2), .int .u64 (wd1 p2), .int .u64 (wd2 p2), .int .u64 (wd3 p2), .int .u64 (wd0 1), .int .u64 (wd1 1), .int .u64 (wd2 1), .int .u64 (wd3 1)]) ∧ IsGr w w') := fun h w => At_yes p1 p2 (onP_right h).2.2 w
  clear H H'
  generalize cmpP l1 l2 m1 m2 = X at *
  generalize cmpP h1 h2 k1 k2 = Y at *
  generalize ho : onP a1 a2 b1 b2 p1 p2 = o at *
  generalize ho' : onP c1 c2 d1 d2 p1 p2 = o' at *
  clear ho ho'
  subst e1 e2 e3 e4
  cases o
  · obtain ⟨rfl, rfl⟩ : K = 0 ∧ V = .agg #[.int .u64 0, .int .u64 0, .int .u64 0, .int .u64 0, .int .u64 0, .int .u64 0, .int .u64 0, .int .u64 0, .int .u64 0, .int .u64 0, .int .u64 0, .int .u64 0] := by
      rcases HT with ⟨_, h⟩ | ⟨h, _⟩ | ⟨h, _⟩
      · exact h
      · cases h
      · cases h
    clear HT CA
    go_enter Try.func61, Try.ntmps61
    go_wp2_with fail
    refine (C1 _).mono ?_
    rintro e w1 ⟨rfl, os1, m1, rfl⟩
    go_wp2_with fail
    refine (C2 _).mono ?_
    rintro e w1 ⟨rfl, os2, m2, rfl⟩
    go_wp2_with fail
    refine (C3 _).mono ?_
    rintro e w1 ⟨rfl, os3, m3, rfl⟩
    go_wp2_with fail
    refine (C4 _).mono ?_
    rintro e w1 ⟨rfl, os4, m4, rfl⟩
    go_wp2_with fail
    refine (C5 _).mono ?_
    rintro e w1 ⟨rfl, os5, m5, rfl⟩
    go_wp2
    exact bodyPost_ret (v := .tuple #[.int .i64 0, .agg #[.int .u64 0, .int .u64 0, .int .u64 0, .int .u64 0, .int .u64 0, .int .u64 0, .int .u64 0, .int .u64 0, .int .u64 0, .int .u64 0, .int .u64 0, .int .u64 0]]) (by simp [results, Try.results61, go_sem]) rfl ⟨rfl, (by with_reducible repeat (first | exact IsGr.refl _ | refine IsGr.gr ?_ _ _ | refine IsGr.alloc ?_ _ | refine IsGr.drew ?_ | refine IsGr.drewN ?_ _))⟩
  · cases o'
    · obtain ⟨rfl, rfl⟩ : K = 0 ∧ V = .agg #[.int .u64 0, .int .u64 0, .int .u64 0, .int .u64 0, .int .u64 0, .int .u64 0, .int .u64 0, .int .u64 0, .int .u64 0, .int .u64 0, .int .u64 0, .int .u64 0] := by
        rcases HT with ⟨_, h⟩ | ⟨h, _⟩ | ⟨h, _⟩
        · exact h
        · cases h
        · cases h
      clear HT CA
      go_enter Try.func61, Try.ntmps61
      go_wp2_with fail
      refine (C1 _).mono ?_
      rintro e w1 ⟨rfl, os1, m1, rfl⟩
      go_wp2_with fail
      refine (C2 _).mono ?_
      rintro e w1 ⟨rfl, os2, m2, rfl⟩
      go_wp2_with fail
      refine (C3 _).mono ?_
      rintro e w1 ⟨rfl, os3, m3, rfl⟩
      go_wp2_with fail
      refine (C4 _).mono ?_
      rintro e w1 ⟨rfl, os4, m4, rfl⟩
      go_wp2_with fail
      refine (C5 _).mono ?_
      rintro e w1 ⟨rfl, os5, m5, rfl⟩
      go_wp2_with fail
      refine (C6 _).mono ?_
      rintro e w1 ⟨rfl, os6, m6, rfl⟩
      go_wp2
      exact bodyPost_ret (v := .tuple #[.int .i64 0, .agg #[.int .u64 0, .int .u64 0, .int .u64 0, .int .u64 0, .int .u64 0, .int .u64 0, .int .u64 0, .int .u64 0, .int .u64 0, .int .u64 0, .int .u64 0, .int .u64 0]]) (by simp [results, Try.results61, go_sem]) rfl ⟨rfl, (by with_reducible repeat (first | exact IsGr.refl _ | refine IsGr.gr ?_ _ _ | refine IsGr.alloc ?_ _ | refine IsGr.drew ?_ | refine IsGr.drewN ?_ _))⟩
    · have CP := CA.out rfl
      clear CA
      by_cases e1 : p1 = q1
      · by_cases e2 : p2 = q2
        · obtain ⟨rfl, rfl⟩ : K = 1 ∧ V = .agg #[.int .u64 (wd0 p1), .int .u64 (wd1 p1), .int .u64 (wd2 p1), .int .u64 (wd3 p1), .int .u64 (wd0 p2), .int .u64 (wd1 p2), .int .u64 (wd2 p2), .int .u64 (wd3 p2), .int .u64 (wd0 1), .int .u64 (wd1 1), .int .u64 (wd2 1), .int .u64 (wd3 1)] := by
            rcases HT with ⟨h, _⟩ | ⟨_, _, h⟩ | ⟨_, h, _⟩
            · cases h
            · exact h
            · exact absurd ⟨e1, e2⟩ h
          clear HT
          subst e1 e2
          go_enter Try.func61, Try.ntmps61
          go_wp2_with fail
          refine (C1 _).mono ?_
          rintro e w1 ⟨rfl, os1, m1, rfl⟩
          go_wp2_with fail
          refine (C2 _).mono ?_
          rintro e w1 ⟨rfl, os2, m2, rfl⟩
          go_wp2_with fail
          refine (C3 _).mono ?_
          rintro e w1 ⟨rfl, os3, m3, rfl⟩
          go_wp2_with fail
          refine (C4 _).mono ?_
          rintro e w1 ⟨rfl, os4, m4, rfl⟩
          go_wp2_with fail
          refine (C5 _).mono ?_
          rintro e w1 ⟨rfl, os5, m5, rfl⟩
          go_wp2_with fail
          refine (C6 _).mono ?_
          rintro e w1 ⟨rfl, os6, m6, rfl⟩
          go_wp2_with fail
          refine (CP _).mono ?_
          rintro e w1 ⟨rfl, os7, m7, rfl⟩
          go_wp2
          exact bodyPost_ret (v := .tuple #[.int .i64 1, .agg #[.int .u64 (wd0 p1), .int .u64 (wd1 p1), .int .u64 (wd2 p1), .int .u64 (wd3 p1), .int .u64 (wd0 p2), .int .u64 (wd1 p2), .int .u64 (wd2 p2), .int .u64 (wd3 p2), .int .u64 (wd0 1), .int .u64 (wd1 1), .int .u64 (wd2 1), .int .u64 (wd3 1)]]) (by simp [results, Try.results61, go_sem]) rfl ⟨rfl, (by with_reducible repeat (first | exact IsGr.refl _ | refine IsGr.gr ?_ _ _ | refine IsGr.alloc ?_ _ | refine IsGr.drew ?_ | refine IsGr.drewN ?_ _))⟩
        · obtain ⟨rfl, rfl⟩ : K = 2 ∧ V = .agg #[.int .u64 0, .int .u64 0, .int .u64 0, .int .u64 0, .int .u64 0, .int .u64 0, .int .u64 0, .int .u64 0, .int .u64 0, .int .u64 0, .int .u64 0, .int .u64 0] := by
            rcases HT with ⟨h, _⟩ | ⟨_, h, _⟩ | ⟨_, _, h⟩
            · cases h
            · exact absurd h.2 e2
            · exact h
          subst e1
          have e2' : (p2 == q2) = false := by simp [e2]
          clear HT CP
          go_enter Try.func61, Try.ntmps61
          go_wp2_with fail
          refine (C1 _).mono ?_
          rintro e w1 ⟨rfl, os1, m1, rfl⟩
          go_wp2_with fail
          refine (C2 _).mono ?_
          rintro e w1 ⟨rfl, os2, m2, rfl⟩
          go_wp2_with fail
          refine (C3 _).mono ?_
          rintro e w1 ⟨rfl, os3, m3, rfl⟩
          go_wp2_with fail
          refine (C4 _).mono ?_
          rintro e w1 ⟨rfl, os4, m4, rfl⟩
          go_wp2_with fail
          refine (C5 _).mono ?_
          rintro e w1 ⟨rfl, os5, m5, rfl⟩
          go_wp2_with fail
          refine (C6 _).mono ?_
          rintro e w1 ⟨rfl, os6, m6, rfl⟩
          go_wp2
          exact bodyPost_ret (v := .tuple #[.int .i64 2, .agg #[.int .u64 0, .int .u64 0, .int .u64 0, .int .u64 0, .int .u64 0, .int .u64 0, .int .u64 0, .int .u64 0, .int .u64 0, .int .u64 0, .int .u64 0, .int .u64 0]]) (by simp [results, Try.results61, go_sem]) rfl ⟨rfl, (by with_reducible repeat (first | exact IsGr.refl _ | refine IsGr.gr ?_ _ _ | refine IsGr.alloc ?_ _ | refine IsGr.drew ?_ | refine IsGr.drewN ?_ _))⟩
      · obtain ⟨rfl, rfl⟩ : K = 2 ∧ V = .agg #[.int .u64 0, .int .u64 0, .int .u64 0, .int .u64 0, .int .u64 0, .int .u64 0, .int .u64 0, .int .u64 0, .int .u64 0, .int .u64 0, .int .u64 0, .int .u64 0] := by
          rcases HT with ⟨h, _⟩ | ⟨_, h, _⟩ | ⟨_, _, h⟩
          · cases h
          · exact absurd h.1 e1
          · exact h
        have e1' : (p1 == q1) = false := by simp [e1]
        clear HT CP
        go_enter Try.func61, Try.ntmps61
        go_wp2_with fail
        refine (C1 _).mono ?_
        rintro e w1 ⟨rfl, os1, m1, rfl⟩
        go_wp2_with fail
        refine (C2 _).mono ?_
        rintro e w1 ⟨rfl, os2, m2, rfl⟩
        go_wp2_with fail
        refine (C3 _).mono ?_
        rintro e w1 ⟨rfl, os3, m3, rfl⟩
        go_wp2_with fail
        refine (C4 _).mono ?_
        rintro e w1 ⟨rfl, os4, m4, rfl⟩
        go_wp2_with fail
        refine (C5 _).mono ?_
        rintro e w1 ⟨rfl, os5, m5, rfl⟩
        go_wp2_with fail
        refine (C6 _).mono ?_
        rintro e w1 ⟨rfl, os6, m6, rfl⟩
        go_wp2
        exact bodyPost_ret (v := .tuple #[.int .i64 2, .agg #[.int .u64 0, .int .u64 0, .int .u64 0, .int .u64 0, .int .u64 0, .int .u64 0, .int .u64 0, .int .u64 0, .int .u64 0, .int .u64 0, .int .u64 0, .int .u64 0]]) (by simp [results, Try.results61, go_sem]) rfl ⟨rfl, (by with_reducible repeat (first | exact IsGr.refl _ | refine IsGr.gr ?_ _ _ | refine IsGr.alloc ?_ _ | refine IsGr.drew ?_ | refine IsGr.drewN ?_ _))⟩
set_option maxRecDepth 20000 in set_option maxHeartbeats 8000000 in
theorem meetAlong_mh (a1 a2 b1 b2 c1 c2 d1 d2 l1 l2 h1 h2 m1 m2 k1 k2 p1 p2 q1 q2 K : Int) (V : Value) (H : Ends2 a1 a2 b1 b2 l1 l2 h1 h2) (H' : Ends2 c1 c2 d1 d2 m1 m2 k1 k2)
    (hX : cmpP l1 l2 m1 m2 < 0) (e1 : p1 = m1) (e2 : p2 = m2) (hY : ¬ 0 < cmpP h1 h2 k1 k2) (e3 : q1 = h1) (e4 : q2 = h2) (HT : AlongT (onP a1 a2 b1 b2 p1 p2) (onP c1 c2 d1 d2 p1 p2) p1 p2 q1 q2 K V) (w : World) :
    Calls Try.prog 61 #[.agg #[.int .i64 a1, .int .i64 a2, .int .i64 b1, .int .i64 b2], .agg #[.int .i64 c1, .int .i64 c2, .int .i64 d1, .int .i64 d2]] w fun e w' => e = .returned (.tuple #[.int .i64 K, V]) ∧ IsGr w w' := by
  have C1 := fun w => Ends_any a1 a2 b1 b2 l1 l2 h1 h2 H w
  have C2 := fun w => Ends_any c1 c2 d1 d2 m1 m2 k1 k2 H' w
  have C3 := fun w => PCmp_any l1 l2 m1 m2 w
  have C4 := fun w => PCmp_any h1 h2 k1 k2 w
  have C5 := fun w => On_any a1 a2 b1 b2 p1 p2 w
  have C6 := fun w => On_any c1 c2 d1 d2 p1 p2 w
  have CA : Hid (onP a1 a2 b1 b2 p1 p2 = true → ∀ w, Calls Try.prog 37 #[.agg #[.int .i64 p1, .int .i64 p2]] w fun e w' => e = .returned (.agg #[.int .u64 (wd0 p1), .int .u64 (wd1 p1), .int .u64 (wd2 p1), .int .u64 (wd3 p1), .int .u64 (wd0 p2), .int .u64 (wd1 p2), .int .u64 (wd2 p2), .int .u64 (wd3 p2), .int .u64 (wd0 1), .int .u64 (wd1 1), .int .u64 (wd2 1), .int .u64 (wd3 1)]) ∧ IsGr w w') := fun h w => At_yes p1 p2 (onP_right h).2.2 w
  clear H H'
  generalize cmpP l1 l2 m1 m2 = X at *
  generalize cmpP h1 h2 k1 k2 = Y at *
  generalize ho : onP a1 a2 b1 b2 p1 p2 = o at *
  generalize ho' : onP c1 c2 d1 d2 p1 p2 = o' at *
  clear ho ho'
  subst e1 e2 e3 e4
  cases o
  · obtain ⟨rfl, rfl⟩ : K = 0 ∧ V = .agg #[.int .u64 0, .int .u64 0, .int .u64 0, .int .u64 0, .int .u64 0, .int .u64 0, .int .u64 0, .int .u64 0, .int .u64 0, .int .u64 0, .int .u64 0, .int .u64 0] := by
      rcases HT with ⟨_, h⟩ | ⟨h, _⟩ | ⟨h, _⟩
      · exact h
      · cases h
      · cases h
    clear HT CA
    go_enter Try.func61, Try.ntmps61
    go_wp2_with fail
    refine (C1 _).mono ?_
    rintro e w1 ⟨rfl, os1, m1, rfl⟩
    go_wp2_with fail
    refine (C2 _).mono ?_
    rintro e w1 ⟨rfl, os2, m2, rfl⟩
    go_wp2_with fail
    refine (C3 _).mono ?_
    rintro e w1 ⟨rfl, os3, m3, rfl⟩
    go_wp2_with fail
    refine (C4 _).mono ?_
    rintro e w1 ⟨rfl, os4, m4, rfl⟩
    go_wp2_with fail
    refine (C5 _).mono ?_
    rintro e w1 ⟨rfl, os5, m5, rfl⟩
    go_wp2
    exact bodyPost_ret (v := .tuple #[.int .i64 0, .agg #[.int .u64 0, .int .u64 0, .int .u64 0, .int .u64 0, .int .u64 0, .int .u64 0, .int .u64 0, .int .u64 0, .int .u64 0, .int .u64 0, .int .u64 0, .int .u64 0]]) (by simp [results, Try.results61, go_sem]) rfl ⟨rfl, (by with_reducible repeat (first | exact IsGr.refl _ | refine IsGr.gr ?_ _ _ | refine IsGr.alloc ?_ _ | refine IsGr.drew ?_ | refine IsGr.drewN ?_ _))⟩
  · cases o'
    · obtain ⟨rfl, rfl⟩ : K = 0 ∧ V = .agg #[.int .u64 0, .int .u64 0, .int .u64 0, .int .u64 0, .int .u64 0, .int .u64 0, .int .u64 0, .int .u64 0, .int .u64 0, .int .u64 0, .int .u64 0, .int .u64 0] := by
        rcases HT with ⟨_, h⟩ | ⟨h, _⟩ | ⟨h, _⟩
        · exact h
        · cases h
        · cases h
      clear HT CA
      go_enter Try.func61, Try.ntmps61
      go_wp2_with fail
      refine (C1 _).mono ?_
      rintro e w1 ⟨rfl, os1, m1, rfl⟩
      go_wp2_with fail
      refine (C2 _).mono ?_
      rintro e w1 ⟨rfl, os2, m2, rfl⟩
      go_wp2_with fail
      refine (C3 _).mono ?_
      rintro e w1 ⟨rfl, os3, m3, rfl⟩
      go_wp2_with fail
      refine (C4 _).mono ?_
      rintro e w1 ⟨rfl, os4, m4, rfl⟩
      go_wp2_with fail
      refine (C5 _).mono ?_
      rintro e w1 ⟨rfl, os5, m5, rfl⟩
      go_wp2_with fail
      refine (C6 _).mono ?_
      rintro e w1 ⟨rfl, os6, m6, rfl⟩
      go_wp2
      exact bodyPost_ret (v := .tuple #[.int .i64 0, .agg #[.int .u64 0, .int .u64 0, .int .u64 0, .int .u64 0, .int .u64 0, .int .u64 0, .int .u64 0, .int .u64 0, .int .u64 0, .int .u64 0, .int .u64 0, .int .u64 0]]) (by simp [results, Try.results61, go_sem]) rfl ⟨rfl, (by with_reducible repeat (first | exact IsGr.refl _ | refine IsGr.gr ?_ _ _ | refine IsGr.alloc ?_ _ | refine IsGr.drew ?_ | refine IsGr.drewN ?_ _))⟩
    · have CP := CA.out rfl
      clear CA
      by_cases e1 : p1 = q1
      · by_cases e2 : p2 = q2
        · obtain ⟨rfl, rfl⟩ : K = 1 ∧ V = .agg #[.int .u64 (wd0 p1), .int .u64 (wd1 p1), .int .u64 (wd2 p1), .int .u64 (wd3 p1), .int .u64 (wd0 p2), .int .u64 (wd1 p2), .int .u64 (wd2 p2), .int .u64 (wd3 p2), .int .u64 (wd0 1), .int .u64 (wd1 1), .int .u64 (wd2 1), .int .u64 (wd3 1)] := by
            rcases HT with ⟨h, _⟩ | ⟨_, _, h⟩ | ⟨_, h, _⟩
            · cases h
            · exact h
            · exact absurd ⟨e1, e2⟩ h
          clear HT
          subst e1 e2
          go_enter Try.func61, Try.ntmps61
          go_wp2_with fail
          refine (C1 _).mono ?_
          rintro e w1 ⟨rfl, os1, m1, rfl⟩
          go_wp2_with fail
          refine (C2 _).mono ?_
          rintro e w1 ⟨rfl, os2, m2, rfl⟩
          go_wp2_with fail
          refine (C3 _).mono ?_
          rintro e w1 ⟨rfl, os3, m3, rfl⟩
          go_wp2_with fail
          refine (C4 _).mono ?_
          rintro e w1 ⟨rfl, os4, m4, rfl⟩
          go_wp2_with fail
          refine (C5 _).mono ?_
          rintro e w1 ⟨rfl, os5, m5, rfl⟩
          go_wp2_with fail
          refine (C6 _).mono ?_
          rintro e w1 ⟨rfl, os6, m6, rfl⟩
          go_wp2_with fail
          refine (CP _).mono ?_
          rintro e w1 ⟨rfl, os7, m7, rfl⟩
          go_wp2
          exact bodyPost_ret (v := .tuple #[.int .i64 1, .agg #[.int .u64 (wd0 p1), .int .u64 (wd1 p1), .int .u64 (wd2 p1), .int .u64 (wd3 p1), .int .u64 (wd0 p2), .int .u64 (wd1 p2), .int .u64 (wd2 p2), .int .u64 (wd3 p2), .int .u64 (wd0 1), .int .u64 (wd1 1), .int .u64 (wd2 1), .int .u64 (wd3 1)]]) (by simp [results, Try.results61, go_sem]) rfl ⟨rfl, (by with_reducible repeat (first | exact IsGr.refl _ | refine IsGr.gr ?_ _ _ | refine IsGr.alloc ?_ _ | refine IsGr.drew ?_ | refine IsGr.drewN ?_ _))⟩
        · obtain ⟨rfl, rfl⟩ : K = 2 ∧ V = .agg #[.int .u64 0, .int .u64 0, .int .u64 0, .int .u64 0, .int .u64 0, .int .u64 0, .int .u64 0, .int .u64 0, .int .u64 0, .int .u64 0, .int .u64 0, .int .u64 0] := by
            rcases HT with ⟨h, _⟩ | ⟨_, h, _⟩ | ⟨_, _, h⟩
            · cases h
            · exact absurd h.2 e2
            · exact h
          subst e1
          have e2' : (p2 == q2) = false := by simp [e2]
          clear HT CP
          go_enter Try.func61, Try.ntmps61
          go_wp2_with fail
          refine (C1 _).mono ?_
          rintro e w1 ⟨rfl, os1, m1, rfl⟩
          go_wp2_with fail
          refine (C2 _).mono ?_
          rintro e w1 ⟨rfl, os2, m2, rfl⟩
          go_wp2_with fail
          refine (C3 _).mono ?_
          rintro e w1 ⟨rfl, os3, m3, rfl⟩
          go_wp2_with fail
          refine (C4 _).mono ?_
          rintro e w1 ⟨rfl, os4, m4, rfl⟩
          go_wp2_with fail
          refine (C5 _).mono ?_
          rintro e w1 ⟨rfl, os5, m5, rfl⟩
          go_wp2_with fail
          refine (C6 _).mono ?_
          rintro e w1 ⟨rfl, os6, m6, rfl⟩
          go_wp2
          exact bodyPost_ret (v := .tuple #[.int .i64 2, .agg #[.int .u64 0, .int .u64 0, .int .u64 0, .int .u64 0, .int .u64 0, .int .u64 0, .int .u64 0, .int .u64 0, .int .u64 0, .int .u64 0, .int .u64 0, .int .u64 0]]) (by simp [results, Try.results61, go_sem]) rfl ⟨rfl, (by with_reducible repeat (first | exact IsGr.refl _ | refine IsGr.gr ?_ _ _ | refine IsGr.alloc ?_ _ | refine IsGr.drew ?_ | refine IsGr.drewN ?_ _))⟩
      · obtain ⟨rfl, rfl⟩ : K = 2 ∧ V = .agg #[.int .u64 0, .int .u64 0, .int .u64 0, .int .u64 0, .int .u64 0, .int .u64 0, .int .u64 0, .int .u64 0, .int .u64 0, .int .u64 0, .int .u64 0, .int .u64 0] := by
          rcases HT with ⟨h, _⟩ | ⟨_, h, _⟩ | ⟨_, _, h⟩
          · cases h
          · exact absurd h.1 e1
          · exact h
        have e1' : (p1 == q1) = false := by simp [e1]
        clear HT CP
        go_enter Try.func61, Try.ntmps61
        go_wp2_with fail
        refine (C1 _).mono ?_
        rintro e w1 ⟨rfl, os1, m1, rfl⟩
        go_wp2_with fail
        refine (C2 _).mono ?_
        rintro e w1 ⟨rfl, os2, m2, rfl⟩
        go_wp2_with fail
        refine (C3 _).mono ?_
        rintro e w1 ⟨rfl, os3, m3, rfl⟩
        go_wp2_with fail
        refine (C4 _).mono ?_
        rintro e w1 ⟨rfl, os4, m4, rfl⟩
        go_wp2_with fail
        refine (C5 _).mono ?_
        rintro e w1 ⟨rfl, os5, m5, rfl⟩
        go_wp2_with fail
        refine (C6 _).mono ?_
        rintro e w1 ⟨rfl, os6, m6, rfl⟩
        go_wp2
        exact bodyPost_ret (v := .tuple #[.int .i64 2, .agg #[.int .u64 0, .int .u64 0, .int .u64 0, .int .u64 0, .int .u64 0, .int .u64 0, .int .u64 0, .int .u64 0, .int .u64 0, .int .u64 0, .int .u64 0, .int .u64 0]]) (by simp [results, Try.results61, go_sem]) rfl ⟨rfl, (by with_reducible repeat (first | exact IsGr.refl _ | refine IsGr.gr ?_ _ _ | refine IsGr.alloc ?_ _ | refine IsGr.drew ?_ | refine IsGr.drewN ?_ _))⟩
set_option maxRecDepth 20000 in set_option maxHeartbeats 8000000 in
theorem meetAlong_lk (a1 a2 b1 b2 c1 c2 d1 d2 l1 l2 h1 h2 m1 m2 k1 k2 p1 p2 q1 q2 K : Int) (V : Value) (H : Ends2 a1 a2 b1 b2 l1 l2 h1 h2) (H' : Ends2 c1 c2 d1 d2 m1 m2 k1 k2)
    (hX : ¬ cmpP l1 l2 m1 m2 < 0) (e1 : p1 = l1) (e2 : p2 = l2) (hY : 0 < cmpP h1 h2 k1 k2) (e3 : q1 = k1) (e4 : q2 = k2) (HT : AlongT (onP a1 a2 b1 b2 p1 p2) (onP c1 c2 d1 d2 p1 p2) p1 p2 q1 q2 K V) (w : World) :
    Calls Try.prog 61 #[.agg #[.int .i64 a1, .int .i64 a2, .int .i64 b1, .int .i64 b2], .agg #[.int .i64 c1, .int .i64 c2, .int .i64 d1, .int .i64 d2]] w fun e w' => e = .returned (.tuple #[.int .i64 K, V]) ∧ IsGr w w' := by
  have C1 := fun w => Ends_any a1 a2 b1 b2 l1 l2 h1 h2 H w
  have C2 := fun w => Ends_any c1 c2 d1 d2 m1 m2 k1 k2 H' w
  have C3 := fun w => PCmp_any l1 l2 m1 m2 w
  have C4 := fun w => PCmp_any h1 h2 k1 k2 w
  have C5 := fun w => On_any a1 a2 b1 b2 p1 p2 w
  have C6 := fun w => On_any c1 c2 d1 d2 p1 p2 w
  have CA : Hid (onP a1 a2 b1 b2 p1 p2 = true → ∀ w, Calls Try.prog 37 #[.agg #[.int .i64 p1, .int .i64 p2]] w fun e w' => e = .returned (.agg #[.int .u64 (wd0 p1), .int .u64 (wd1 p1), .int .u64 (wd2 p1), .int .u64 (wd3 p1), .int .u64 (wd0 p2), .int .u64 (wd1 p2), .int .u64 (wd2 p2), .int .u64 (wd3 p2), .int .u64 (wd0 1), .int .u64 (wd1 1), .int .u64 (wd2 1), .int .u64 (wd3 1)]) ∧ IsGr w w') := fun h w => At_yes p1 p2 (onP_right h).2.2 w
  clear H H'
  generalize cmpP l1 l2 m1 m2 = X at *
  generalize cmpP h1 h2 k1 k2 = Y at *
  generalize ho : onP a1 a2 b1 b2 p1 p2 = o at *
  generalize ho' : onP c1 c2 d1 d2 p1 p2 = o' at *
  clear ho ho'
  subst e1 e2 e3 e4
  cases o
  · obtain ⟨rfl, rfl⟩ : K = 0 ∧ V = .agg #[.int .u64 0, .int .u64 0, .int .u64 0, .int .u64 0, .int .u64 0, .int .u64 0, .int .u64 0, .int .u64 0, .int .u64 0, .int .u64 0, .int .u64 0, .int .u64 0] := by
      rcases HT with ⟨_, h⟩ | ⟨h, _⟩ | ⟨h, _⟩
      · exact h
      · cases h
      · cases h
    clear HT CA
    go_enter Try.func61, Try.ntmps61
    go_wp2_with fail
    refine (C1 _).mono ?_
    rintro e w1 ⟨rfl, os1, m1, rfl⟩
    go_wp2_with fail
    refine (C2 _).mono ?_
    rintro e w1 ⟨rfl, os2, m2, rfl⟩
    go_wp2_with fail
    refine (C3 _).mono ?_
    rintro e w1 ⟨rfl, os3, m3, rfl⟩
    go_wp2_with fail
    refine (C4 _).mono ?_
    rintro e w1 ⟨rfl, os4, m4, rfl⟩
    go_wp2_with fail
    refine (C5 _).mono ?_
    rintro e w1 ⟨rfl, os5, m5, rfl⟩
    go_wp2
    exact bodyPost_ret (v := .tuple #[.int .i64 0, .agg #[.int .u64 0, .int .u64 0, .int .u64 0, .int .u64 0, .int .u64 0, .int .u64 0, .int .u64 0, .int .u64 0, .int .u64 0, .int .u64 0, .int .u64 0, .int .u64 0]]) (by simp [results, Try.results61, go_sem]) rfl ⟨rfl, (by with_reducible repeat (first | exact IsGr.refl _ | refine IsGr.gr ?_ _ _ | refine IsGr.alloc ?_ _ | refine IsGr.drew ?_ | refine IsGr.drewN ?_ _))⟩
  · cases o'
    · obtain ⟨rfl, rfl⟩ : K = 0 ∧ V = .agg #[.int .u64 0, .int .u64 0, .int .u64 0, .int .u64 0, .int .u64 0, .int .u64 0, .int .u64 0, .int .u64 0, .int .u64 0, .int .u64 0, .int .u64 0, .int .u64 0] := by
        rcases HT with ⟨_, h⟩ | ⟨h, _⟩ | ⟨h, _⟩
        · exact h
        · cases h
        · cases h
      clear HT CA
      go_enter Try.func61, Try.ntmps61
      go_wp2_with fail
      refine (C1 _).mono ?_
      rintro e w1 ⟨rfl, os1, m1, rfl⟩
      go_wp2_with fail
      refine (C2 _).mono ?_
      rintro e w1 ⟨rfl, os2, m2, rfl⟩
      go_wp2_with fail
      refine (C3 _).mono ?_
      rintro e w1 ⟨rfl, os3, m3, rfl⟩
      go_wp2_with fail
      refine (C4 _).mono ?_
      rintro e w1 ⟨rfl, os4, m4, rfl⟩
      go_wp2_with fail
      refine (C5 _).mono ?_
      rintro e w1 ⟨rfl, os5, m5, rfl⟩
      go_wp2_with fail
      refine (C6 _).mono ?_
      rintro e w1 ⟨rfl, os6, m6, rfl⟩
      go_wp2
      exact bodyPost_ret (v := .tuple #[.int .i64 0, .agg #[.int .u64 0, .int .u64 0, .int .u64 0, .int .u64 0, .int .u64 0, .int .u64 0, .int .u64 0, .int .u64 0, .int .u64 0, .int .u64 0, .int .u64 0, .int .u64 0]]) (by simp [results, Try.results61, go_sem]) rfl ⟨rfl, (by with_reducible repeat (first | exact IsGr.refl _ | refine IsGr.gr ?_ _ _ | refine IsGr.alloc ?_ _ | refine IsGr.drew ?_ | refine IsGr.drewN ?_ _))⟩
    · have CP := CA.out rfl
      clear CA
      by_cases e1 : p1 = q1
      · by_cases e2 : p2 = q2
        · obtain ⟨rfl, rfl⟩ : K = 1 ∧ V = .agg #[.int .u64 (wd0 p1), .int .u64 (wd1 p1), .int .u64 (wd2 p1), .int .u64 (wd3 p1), .int .u64 (wd0 p2), .int .u64 (wd1 p2), .int .u64 (wd2 p2), .int .u64 (wd3 p2), .int .u64 (wd0 1), .int .u64 (wd1 1), .int .u64 (wd2 1), .int .u64 (wd3 1)] := by
            rcases HT with ⟨h, _⟩ | ⟨_, _, h⟩ | ⟨_, h, _⟩
            · cases h
            · exact h
            · exact absurd ⟨e1, e2⟩ h
          clear HT
          subst e1 e2
          go_enter Try.func61, Try.ntmps61
          go_wp2_with fail
          refine (C1 _).mono ?_
          rintro e w1 ⟨rfl, os1, m1, rfl⟩
          go_wp2_with fail
          refine (C2 _).mono ?_
          rintro e w1 ⟨rfl, os2, m2, rfl⟩
          go_wp2_with fail
          refine (C3 _).mono ?_
          rintro e w1 ⟨rfl, os3, m3, rfl⟩
          go_wp2_with fail
          refine (C4 _).mono ?_
          rintro e w1 ⟨rfl, os4, m4, rfl⟩
          go_wp2_with fail
          refine (C5 _).mono ?_
          rintro e w1 ⟨rfl, os5, m5, rfl⟩
          go_wp2_with fail
          refine (C6 _).mono ?_
          rintro e w1 ⟨rfl, os6, m6, rfl⟩
          go_wp2_with fail
          refine (CP _).mono ?_
          rintro e w1 ⟨rfl, os7, m7, rfl⟩
          go_wp2
          exact bodyPost_ret (v := .tuple #[.int .i64 1, .agg #[.int .u64 (wd0 p1), .int .u64 (wd1 p1), .int .u64 (wd2 p1), .int .u64 (wd3 p1), .int .u64 (wd0 p2), .int .u64 (wd1 p2), .int .u64 (wd2 p2), .int .u64 (wd3 p2), .int .u64 (wd0 1), .int .u64 (wd1 1), .int .u64 (wd2 1), .int .u64 (wd3 1)]]) (by simp [results, Try.results61, go_sem]) rfl ⟨rfl, (by with_reducible repeat (first | exact IsGr.refl _ | refine IsGr.gr ?_ _ _ | refine IsGr.alloc ?_ _ | refine IsGr.drew ?_ | refine IsGr.drewN ?_ _))⟩
        · obtain ⟨rfl, rfl⟩ : K = 2 ∧ V = .agg #[.int .u64 0, .int .u64 0, .int .u64 0, .int .u64 0, .int .u64 0, .int .u64 0, .int .u64 0, .int .u64 0, .int .u64 0, .int .u64 0, .int .u64 0, .int .u64 0] := by
            rcases HT with ⟨h, _⟩ | ⟨_, h, _⟩ | ⟨_, _, h⟩
            · cases h
            · exact absurd h.2 e2
            · exact h
          subst e1
          have e2' : (p2 == q2) = false := by simp [e2]
          clear HT CP
          go_enter Try.func61, Try.ntmps61
          go_wp2_with fail
          refine (C1 _).mono ?_
          rintro e w1 ⟨rfl, os1, m1, rfl⟩
          go_wp2_with fail
          refine (C2 _).mono ?_
          rintro e w1 ⟨rfl, os2, m2, rfl⟩
          go_wp2_with fail
          refine (C3 _).mono ?_
          rintro e w1 ⟨rfl, os3, m3, rfl⟩
          go_wp2_with fail
          refine (C4 _).mono ?_
          rintro e w1 ⟨rfl, os4, m4, rfl⟩
          go_wp2_with fail
          refine (C5 _).mono ?_
          rintro e w1 ⟨rfl, os5, m5, rfl⟩
          go_wp2_with fail
          refine (C6 _).mono ?_
          rintro e w1 ⟨rfl, os6, m6, rfl⟩
          go_wp2
          exact bodyPost_ret (v := .tuple #[.int .i64 2, .agg #[.int .u64 0, .int .u64 0, .int .u64 0, .int .u64 0, .int .u64 0, .int .u64 0, .int .u64 0, .int .u64 0, .int .u64 0, .int .u64 0, .int .u64 0, .int .u64 0]]) (by simp [results, Try.results61, go_sem]) rfl ⟨rfl, (by with_reducible repeat (first | exact IsGr.refl _ | refine IsGr.gr ?_ _ _ | refine IsGr.alloc ?_ _ | refine IsGr.drew ?_ | refine IsGr.drewN ?_ _))⟩
      · obtain ⟨rfl, rfl⟩ : K = 2 ∧ V = .agg #[.int .u64 0, .int .u64 0, .int .u64 0, .int .u64 0, .int .u64 0, .int .u64 0, .int .u64 0, .int .u64 0, .int .u64 0, .int .u64 0, .int .u64 0, .int .u64 0] := by
          rcases HT with ⟨h, _⟩ | ⟨_, h, _⟩ | ⟨_, _, h⟩
          · cases h
          · exact absurd h.1 e1
          · exact h
        have e1' : (p1 == q1) = false := by simp [e1]
        clear HT CP
        go_enter Try.func61, Try.ntmps61
        go_wp2_with fail
        refine (C1 _).mono ?_
        rintro e w1 ⟨rfl, os1, m1, rfl⟩
        go_wp2_with fail
        refine (C2 _).mono ?_
        rintro e w1 ⟨rfl, os2, m2, rfl⟩
        go_wp2_with fail
        refine (C3 _).mono ?_
        rintro e w1 ⟨rfl, os3, m3, rfl⟩
        go_wp2_with fail
        refine (C4 _).mono ?_
        rintro e w1 ⟨rfl, os4, m4, rfl⟩
        go_wp2_with fail
        refine (C5 _).mono ?_
        rintro e w1 ⟨rfl, os5, m5, rfl⟩
        go_wp2_with fail
        refine (C6 _).mono ?_
        rintro e w1 ⟨rfl, os6, m6, rfl⟩
        go_wp2
        exact bodyPost_ret (v := .tuple #[.int .i64 2, .agg #[.int .u64 0, .int .u64 0, .int .u64 0, .int .u64 0, .int .u64 0, .int .u64 0, .int .u64 0, .int .u64 0, .int .u64 0, .int .u64 0, .int .u64 0, .int .u64 0]]) (by simp [results, Try.results61, go_sem]) rfl ⟨rfl, (by with_reducible repeat (first | exact IsGr.refl _ | refine IsGr.gr ?_ _ _ | refine IsGr.alloc ?_ _ | refine IsGr.drew ?_ | refine IsGr.drewN ?_ _))⟩
set_option maxRecDepth 20000 in set_option maxHeartbeats 8000000 in
theorem meetAlong_lh (a1 a2 b1 b2 c1 c2 d1 d2 l1 l2 h1 h2 m1 m2 k1 k2 p1 p2 q1 q2 K : Int) (V : Value) (H : Ends2 a1 a2 b1 b2 l1 l2 h1 h2) (H' : Ends2 c1 c2 d1 d2 m1 m2 k1 k2)
    (hX : ¬ cmpP l1 l2 m1 m2 < 0) (e1 : p1 = l1) (e2 : p2 = l2) (hY : ¬ 0 < cmpP h1 h2 k1 k2) (e3 : q1 = h1) (e4 : q2 = h2) (HT : AlongT (onP a1 a2 b1 b2 p1 p2) (onP c1 c2 d1 d2 p1 p2) p1 p2 q1 q2 K V) (w : World) :
    Calls Try.prog 61 #[.agg #[.int .i64 a1, .int .i64 a2, .int .i64 b1, .int .i64 b2], .agg #[.int .i64 c1, .int .i64 c2, .int .i64 d1, .int .i64 d2]] w fun e w' => e = .returned (.tuple #[.int .i64 K, V]) ∧ IsGr w w' := by
  have C1 := fun w => Ends_any a1 a2 b1 b2 l1 l2 h1 h2 H w
  have C2 := fun w => Ends_any c1 c2 d1 d2 m1 m2 k1 k2 H' w
  have C3 := fun w => PCmp_any l1 l2 m1 m2 w
  have C4 := fun w => PCmp_any h1 h2 k1 k2 w
  have C5 := fun w => On_any a1 a2 b1 b2 p1 p2 w
  have C6 := fun w => On_any c1 c2 d1 d2 p1 p2 w
  have CA : Hid (onP a1 a2 b1 b2 p1 p2 = true → ∀ w, Calls Try.prog 37 #[.agg #[.int .i64 p1, .int .i64 p2]] w fun e w' => e = .returned (.agg #[.int .u64 (wd0 p1), .int .u64 (wd1 p1), .int .u64 (wd2 p1), .int .u64 (wd3 p1), .int .u64 (wd0 p2), .int .u64 (wd1 p2), .int .u64 (wd2 p2), .int .u64 (wd3 p2), .int .u64 (wd0 1), .int .u64 (wd1 1), .int .u64 (wd2 1), .int .u64 (wd3 1)]) ∧ IsGr w w') := fun h w => At_yes p1 p2 (onP_right h).2.2 w
  clear H H'
  generalize cmpP l1 l2 m1 m2 = X at *
  generalize cmpP h1 h2 k1 k2 = Y at *
  generalize ho : onP a1 a2 b1 b2 p1 p2 = o at *
  generalize ho' : onP c1 c2 d1 d2 p1 p2 = o' at *
  clear ho ho'
  subst e1 e2 e3 e4
  cases o
  · obtain ⟨rfl, rfl⟩ : K = 0 ∧ V = .agg #[.int .u64 0, .int .u64 0, .int .u64 0, .int .u64 0, .int .u64 0, .int .u64 0, .int .u64 0, .int .u64 0, .int .u64 0, .int .u64 0, .int .u64 0, .int .u64 0] := by
      rcases HT with ⟨_, h⟩ | ⟨h, _⟩ | ⟨h, _⟩
      · exact h
      · cases h
      · cases h
    clear HT CA
    go_enter Try.func61, Try.ntmps61
    go_wp2_with fail
    refine (C1 _).mono ?_
    rintro e w1 ⟨rfl, os1, m1, rfl⟩
    go_wp2_with fail
    refine (C2 _).mono ?_
    rintro e w1 ⟨rfl, os2, m2, rfl⟩
    go_wp2_with fail
    refine (C3 _).mono ?_
    rintro e w1 ⟨rfl, os3, m3, rfl⟩
    go_wp2_with fail
    refine (C4 _).mono ?_
    rintro e w1 ⟨rfl, os4, m4, rfl⟩
    go_wp2_with fail
    refine (C5 _).mono ?_
    rintro e w1 ⟨rfl, os5, m5, rfl⟩
    go_wp2
    exact bodyPost_ret (v := .tuple #[.int .i64 0, .agg #[.int .u64 0, .int .u64 0, .int .u64 0, .int .u64 0, .int .u64 0, .int .u64 0, .int .u64 0, .int .u64 0, .int .u64 0, .int .u64 0, .int .u64 0, .int .u64 0]]) (by simp [results, Try.results61, go_sem]) rfl ⟨rfl, (by with_reducible repeat (first | exact IsGr.refl _ | refine IsGr.gr ?_ _ _ | refine IsGr.alloc ?_ _ | refine IsGr.drew ?_ | refine IsGr.drewN ?_ _))⟩
  · cases o'
    · obtain ⟨rfl, rfl⟩ : K = 0 ∧ V = .agg #[.int .u64 0, .int .u64 0, .int .u64 0, .int .u64 0, .int .u64 0, .int .u64 0, .int .u64 0, .int .u64 0, .int .u64 0, .int .u64 0, .int .u64 0, .int .u64 0] := by
        rcases HT with ⟨_, h⟩ | ⟨h, _⟩ | ⟨h, _⟩
        · exact h
        · cases h
        · cases h
      clear HT CA
      go_enter Try.func61, Try.ntmps61
      go_wp2_with fail
      refine (C1 _).mono ?_
      rintro e w1 ⟨rfl, os1, m1, rfl⟩
      go_wp2_with fail
      refine (C2 _).mono ?_
      rintro e w1 ⟨rfl, os2, m2, rfl⟩
      go_wp2_with fail
      refine (C3 _).mono ?_
      rintro e w1 ⟨rfl, os3, m3, rfl⟩
      go_wp2_with fail
      refine (C4 _).mono ?_
      rintro e w1 ⟨rfl, os4, m4, rfl⟩
      go_wp2_with fail
      refine (C5 _).mono ?_
      rintro e w1 ⟨rfl, os5, m5, rfl⟩
      go_wp2_with fail
      refine (C6 _).mono ?_
      rintro e w1 ⟨rfl, os6, m6, rfl⟩
      go_wp2
      exact bodyPost_ret (v := .tuple #[.int .i64 0, .agg #[.int .u64 0, .int .u64 0, .int .u64 0, .int .u64 0, .int .u64 0, .int .u64 0, .int .u64 0, .int .u64 0, .int .u64 0, .int .u64 0, .int .u64 0, .int .u64 0]]) (by simp [results, Try.results61, go_sem]) rfl ⟨rfl, (by with_reducible repeat (first | exact IsGr.refl _ | refine IsGr.gr ?_ _ _ | refine IsGr.alloc ?_ _ | refine IsGr.drew ?_ | refine IsGr.drewN ?_ _))⟩
    · have CP := CA.out rfl
      clear CA
      by_cases e1 : p1 = q1
      · by_cases e2 : p2 = q2
        · obtain ⟨rfl, rfl⟩ : K = 1 ∧ V = .agg #[.int .u64 (wd0 p1), .int .u64 (wd1 p1), .int .u64 (wd2 p1), .int .u64 (wd3 p1), .int .u64 (wd0 p2), .int .u64 (wd1 p2), .int .u64 (wd2 p2), .int .u64 (wd3 p2), .int .u64 (wd0 1), .int .u64 (wd1 1), .int .u64 (wd2 1), .int .u64 (wd3 1)] := by
            rcases HT with ⟨h, _⟩ | ⟨_, _, h⟩ | ⟨_, h, _⟩
            · cases h
            · exact h
            · exact absurd ⟨e1, e2⟩ h
          clear HT
          subst e1 e2
          go_enter Try.func61, Try.ntmps61
          go_wp2_with fail
          refine (C1 _).mono ?_
          rintro e w1 ⟨rfl, os1, m1, rfl⟩
          go_wp2_with fail
          refine (C2 _).mono ?_
          rintro e w1 ⟨rfl, os2, m2, rfl⟩
          go_wp2_with fail
          refine (C3 _).mono ?_
          rintro e w1 ⟨rfl, os3, m3, rfl⟩
          go_wp2_with fail
          refine (C4 _).mono ?_
          rintro e w1 ⟨rfl, os4, m4, rfl⟩
          go_wp2_with fail
          refine (C5 _).mono ?_
          rintro e w1 ⟨rfl, os5, m5, rfl⟩
          go_wp2_with fail
          refine (C6 _).mono ?_
          rintro e w1 ⟨rfl, os6, m6, rfl⟩
          go_wp2_with fail
          refine (CP _).mono ?_
          rintro e w1 ⟨rfl, os7, m7, rfl⟩
          go_wp2
          exact bodyPost_ret (v := .tuple #[.int .i64 1, .agg #[.int .u64 (wd0 p1), .int .u64 (wd1 p1), .int .u64 (wd2 p1), .int .u64 (wd3 p1), .int .u64 (wd0 p2), .int .u64 (wd1 p2), .int .u64 (wd2 p2), .int .u64 (wd3 p2), .int .u64 (wd0 1), .int .u64 (wd1 1), .int .u64 (wd2 1), .int .u64 (wd3 1)]]) (by simp [results, Try.results61, go_sem]) rfl ⟨rfl, (by with_reducible repeat (first | exact IsGr.refl _ | refine IsGr.gr ?_ _ _ | refine IsGr.alloc ?_ _ | refine IsGr.drew ?_ | refine IsGr.drewN ?_ _))⟩
        · obtain ⟨rfl, rfl⟩ : K = 2 ∧ V = .agg #[.int .u64 0, .int .u64 0, .int .u64 0, .int .u64 0, .int .u64 0, .int .u64 0, .int .u64 0, .int .u64 0, .int .u64 0, .int .u64 0, .int .u64 0, .int .u64 0] := by
            rcases HT with ⟨h, _⟩ | ⟨_, h, _⟩ | ⟨_, _, h⟩
            · cases h
            · exact absurd h.2 e2
            · exact h
          subst e1
          have e2' : (p2 == q2) = false := by simp [e2]
          clear HT CP
          go_enter Try.func61, Try.ntmps61
          go_wp2_with fail
          refine (C1 _).mono ?_
          rintro e w1 ⟨rfl, os1, m1, rfl⟩
          go_wp2_with fail
          refine (C2 _).mono ?_
          rintro e w1 ⟨rfl, os2, m2, rfl⟩
          go_wp2_with fail
          refine (C3 _).mono ?_
          rintro e w1 ⟨rfl, os3, m3, rfl⟩
          go_wp2_with fail
          refine (C4 _).mono ?_
          rintro e w1 ⟨rfl, os4, m4, rfl⟩
          go_wp2_with fail
          refine (C5 _).mono ?_
          rintro e w1 ⟨rfl, os5, m5, rfl⟩
          go_wp2_with fail
          refine (C6 _).mono ?_
          rintro e w1 ⟨rfl, os6, m6, rfl⟩
          go_wp2
          exact bodyPost_ret (v := .tuple #[.int .i64 2, .agg #[.int .u64 0, .int .u64 0, .int .u64 0, .int .u64 0, .int .u64 0, .int .u64 0, .int .u64 0, .int .u64 0, .int .u64 0, .int .u64 0, .int .u64 0, .int .u64 0]]) (by simp [results, Try.results61, go_sem]) rfl ⟨rfl, (by with_reducible repeat (first | exact IsGr.refl _ | refine IsGr.gr ?_ _ _ | refine IsGr.alloc ?_ _ | refine IsGr.drew ?_ | refine IsGr.drewN ?_ _))⟩
      · obtain ⟨rfl, rfl⟩ : K = 2 ∧ V = .agg #[.int .u64 0, .int .u64 0, .int .u64 0, .int .u64 0, .int .u64 0, .int .u64 0, .int .u64 0, .int .u64 0, .int .u64 0, .int .u64 0, .int .u64 0, .int .u64 0] := by
          rcases HT with ⟨h, _⟩ | ⟨_, h, _⟩ | ⟨_, _, h⟩
          · cases h
          · exact absurd h.1 e1
          · exact h
        have e1' : (p1 == q1) = false := by simp [e1]
        clear HT CP
        go_enter Try.func61, Try.ntmps61
        go_wp2_with fail
        refine (C1 _).mono ?_
        rintro e w1 ⟨rfl, os1, m1, rfl⟩
        go_wp2_with fail
        refine (C2 _).mono ?_
        rintro e w1 ⟨rfl, os2, m2, rfl⟩
        go_wp2_with fail
        refine (C3 _).mono ?_
        rintro e w1 ⟨rfl, os3, m3, rfl⟩
        go_wp2_with fail
        refine (C4 _).mono ?_
        rintro e w1 ⟨rfl, os4, m4, rfl⟩
        go_wp2_with fail
        refine (C5 _).mono ?_
        rintro e w1 ⟨rfl, os5, m5, rfl⟩
        go_wp2_with fail
        refine (C6 _).mono ?_
        rintro e w1 ⟨rfl, os6, m6, rfl⟩
        go_wp2
        exact bodyPost_ret (v := .tuple #[.int .i64 2, .agg #[.int .u64 0, .int .u64 0, .int .u64 0, .int .u64 0, .int .u64 0, .int .u64 0, .int .u64 0, .int .u64 0, .int .u64 0, .int .u64 0, .int .u64 0, .int .u64 0]]) (by simp [results, Try.results61, go_sem]) rfl ⟨rfl, (by with_reducible repeat (first | exact IsGr.refl _ | refine IsGr.gr ?_ _ _ | refine IsGr.alloc ?_ _ | refine IsGr.drew ?_ | refine IsGr.drewN ?_ _))⟩
theorem meetAlong_any (a1 a2 b1 b2 c1 c2 d1 d2 l1 l2 h1 h2 m1 m2 k1 k2 p1 p2 q1 q2 K : Int) (V : Value) (H : Ends2 a1 a2 b1 b2 l1 l2 h1 h2) (H' : Ends2 c1 c2 d1 d2 m1 m2 k1 k2)
    (HL : Later l1 l2 m1 m2 p1 p2) (HS : Sooner h1 h2 k1 k2 q1 q2) (HT : AlongT (onP a1 a2 b1 b2 p1 p2) (onP c1 c2 d1 d2 p1 p2) p1 p2 q1 q2 K V) (w : World) :
    Calls Try.prog 61 #[.agg #[.int .i64 a1, .int .i64 a2, .int .i64 b1, .int .i64 b2], .agg #[.int .i64 c1, .int .i64 c2, .int .i64 d1, .int .i64 d2]] w fun e w' => e = .returned (.tuple #[.int .i64 K, V]) ∧ IsGr w w' := by
  rcases HL with ⟨hX, e1, e2⟩ | ⟨hX, e1, e2⟩ <;> rcases HS with ⟨hY, e3, e4⟩ | ⟨hY, e3, e4⟩
  · exact meetAlong_mk a1 a2 b1 b2 c1 c2 d1 d2 l1 l2 h1 h2 m1 m2 k1 k2 p1 p2 q1 q2 K V H H' hX e1 e2 hY e3 e4 HT w
  · exact meetAlong_mh a1 a2 b1 b2 c1 c2 d1 d2 l1 l2 h1 h2 m1 m2 k1 k2 p1 p2 q1 q2 K V H H' hX e1 e2 hY e3 e4 HT w
  · exact meetAlong_lk a1 a2 b1 b2 c1 c2 d1 d2 l1 l2 h1 h2 m1 m2 k1 k2 p1 p2 q1 q2 K V H H' hX e1 e2 hY e3 e4 HT w
  · exact meetAlong_lh a1 a2 b1 b2 c1 c2 d1 d2 l1 l2 h1 h2 m1 m2 k1 k2 p1 p2 q1 q2 K V H H' hX e1 e2 hY e3 e4 HT w
end Go.Proofs.Ytohhlhoijanjfaa
