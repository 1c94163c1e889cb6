/- Contracts of package point over the loaded program: Winds. -/
import Derived.Test.YtohhlhoijanjfaaU16
import Derived.Test.YtohhlhoijanjfaaU19
import Derived.Test.YtohhlhoijanjfaaU9
namespace Go.Proofs.Ytohhlhoijanjfaa
open Go.RowKit Go.Shelf
attribute [local go_sem] Gr.size Gr.cell? Gr.frozen? Gr.setCell Gr.drew Gr.drewN Gr.of_drew Gr.of_drewN Gr.gr Gr.lt_of1 Gr.le_of1 Gr.lt_of2 Gr.le_of2 Gr.lt_of3 Gr.le_of3 Gr.lt_of4 Gr.le_of4 Gr.lt_of5 Gr.le_of5 Gr.lt_of6 Gr.le_of6 Gr.lt_of7 Gr.le_of7 Gr.lt_of8 Gr.le_of8 Gr.lt_of9 Gr.le_of9 Gr.lt_of10 Gr.le_of10 Gr.lt_of11 Gr.le_of11 Gr.lt_of12 Gr.le_of12 Gr.lt_of13 Gr.le_of13 Gr.lt_of14 Gr.le_of14 Gr.lt_of15 Gr.le_of15 Gr.lt_of16 Gr.le_of16 Gr.lt_of17 Gr.le_of17 Gr.lt_of18 Gr.le_of18 Gr.lt_of19 Gr.le_of19 Gr.lt_of20 Gr.le_of20 Gr.lt_of21 Gr.le_of21 Gr.lt_of22 Gr.le_of22 Gr.lt_of23 Gr.le_of23 Gr.lt_of24 Gr.le_of24

/-- Does p lie on the segment behind the point at i? -/
def onAt (l : List (Int × Int)) (p1 p2 : Int) (i : Nat) : Bool := onP (l.getD i (0, 0)).1 (l.getD i (0, 0)).2 (nextP l i).1 (nextP l i).2 p1 p2
/-- How often the first k segments pass the ray. -/
def windK (l : List (Int × Int)) (p1 p2 : Int) : Nat → Int
  | 0 => 0
  | k + 1 => windK l p1 p2 k + passP (l.getD k (0, 0)).1 (l.getD k (0, 0)).2 (nextP l k).1 (nextP l k).2 p1 p2
/-- What Winds answers. -/
def WindT (l : List (Int × Int)) (p1 p2 r : Int) (on ok : Bool) : Prop :=
  ((allR l && rightP p1 p2) = false ∧ r = 0 ∧ on = false ∧ ok = false) ∨
  ((allR l && rightP p1 p2) = true ∧ (∃ i, i < l.length ∧ onAt l p1 p2 i = true) ∧ r = 0 ∧ on = true ∧ ok = true) ∨
  ((allR l && rightP p1 p2) = true ∧ (∀ i, i < l.length → onAt l p1 p2 i = false) ∧ r = windK l p1 p2 l.length ∧ on = false ∧ ok = true)
theorem passP_range (a1 a2 b1 b2 p1 p2 : Int) : -1 ≤ passP a1 a2 b1 b2 p1 p2 ∧ passP a1 a2 b1 b2 p1 p2 ≤ 1 := by
  unfold passP
  repeat' split
  all_goals omega
theorem windK_bound (l : List (Int × Int)) (p1 p2 : Int) : ∀ k : Nat, -(k : Int) ≤ windK l p1 p2 k ∧ windK l p1 p2 k ≤ k
  | 0 => by simp [windK]
  | k + 1 => by
    have h1 := windK_bound l p1 p2 k
    have h2 := passP_range (l.getD k (0, 0)).1 (l.getD k (0, 0)).2 (nextP l k).1 (nextP l k).2 p1 p2
    unfold windK
    omega


set_option maxRecDepth 20000 in set_option maxHeartbeats 2000000 in
theorem Winds_any (a : Option Addr) (n c : Nat) (l : List (Int × Int)) (p1 p2 : Int) (w : World) (h : Pts w (.slice a n c) l) (hn : n ≤ 4096) :
    Calls Try.prog 14 #[.slice a n c, .agg #[.int .i64 p1, .int .i64 p2]] w fun e w' => ∃ (r : Int) (on ok : Bool), e = .returned (.tuple #[.int .i64 r, .bool on, .bool ok]) ∧ WindT l p1 p2 r on ok ∧ IsGr w w' := by
  have HL : Hid (n = l.length) := h.len
  have HP : Hid (Pts w (.slice a n c) l) := h
  have Hn : Hid (n ≤ 4096) := hn
  have CA := fun w1 (hg : IsGr w w1) => allowed_any a n c l w1 (h.gr hg) hn
  have CR := fun w => PRight_any p1 p2 w
  clear h hn
  cases hR : allR l with
  | false =>
    have HT : Hid (WindT l p1 p2 0 false false) := Or.inl ⟨by rw [hR]; rfl, rfl, rfl, rfl⟩
    rw [hR] at CA
    clear hR
    go_enter Try.func14, Try.ntmps14
    go_wp2_with fail
    refine (CA _ ?_).mono ?_
    · exact (by with_reducible repeat (first | exact IsGr.refl _ | refine IsGr.gr ?_ _ _ | refine IsGr.alloc ?_ _ | refine IsGr.drew ?_ | refine IsGr.drewN ?_ _))
    rintro e w1 ⟨rfl, os1, m1, rfl⟩
    go_wp2
    exact bodyPost_ret (v := .tuple #[.int .i64 0, .bool false, .bool false]) (by simp [results, Try.results14, go_sem]) rfl ⟨0, false, false, rfl, HT.out, (by with_reducible repeat (first | exact IsGr.refl _ | refine IsGr.gr ?_ _ _ | refine IsGr.alloc ?_ _ | refine IsGr.drew ?_ | refine IsGr.drewN ?_ _))⟩
  | true =>
    cases hp : rightP p1 p2 with
    | false =>
      have HT : Hid (WindT l p1 p2 0 false false) := Or.inl ⟨by rw [hR, hp]; rfl, rfl, rfl, rfl⟩
      rw [hR] at CA
      rw [hp] at CR
      clear hR hp
      go_enter Try.func14, Try.ntmps14
      go_wp2_with fail
      refine (CA _ ?_).mono ?_
      · exact (by with_reducible repeat (first | exact IsGr.refl _ | refine IsGr.gr ?_ _ _ | refine IsGr.alloc ?_ _ | refine IsGr.drew ?_ | refine IsGr.drewN ?_ _))
      rintro e w1 ⟨rfl, os1, m1, rfl⟩
      go_wp2_with fail
      refine (CR _).mono ?_
      rintro e w1 ⟨rfl, os2, m2, rfl⟩
      go_wp2
      exact bodyPost_ret (v := .tuple #[.int .i64 0, .bool false, .bool false]) (by simp [results, Try.results14, go_sem]) rfl ⟨0, false, false, rfl, HT.out, (by with_reducible repeat (first | exact IsGr.refl _ | refine IsGr.gr ?_ _ _ | refine IsGr.alloc ?_ _ | refine IsGr.drew ?_ | refine IsGr.drewN ?_ _))⟩
    | true =>
      have HR : Hid ((allR l && rightP p1 p2) = true) := by unfold Hid; rw [hR, hp]; rfl
      rw [hR] at CA
      rw [hp] at CR
      clear hR hp
      go_enter Try.func14, Try.ntmps14
      go_wp2_with fail
      refine (CA _ ?_).mono ?_
      · exact (by with_reducible repeat (first | exact IsGr.refl _ | refine IsGr.gr ?_ _ _ | refine IsGr.alloc ?_ _ | refine IsGr.drew ?_ | refine IsGr.drewN ?_ _))
      rintro e w1 ⟨rfl, os1, m1, rfl⟩
      go_wp2_with fail
      refine (CR _).mono ?_
      rintro e w1 ⟨rfl, os2, m2, rfl⟩
      go_wp2
      go_loopw [4, 20] (fun t4 t20 wr => ∃ k : Nat, k ≤ n ∧ t20 = .int .i64 k ∧ t4 = .int .i64 (windK l p1 p2 k) ∧ Hid (∀ i, i < k → onAt l p1 p2 i = false) ∧ (wr.cell? ⟨w.heap.size, 0, none⟩ = some (.int .i64 p1) ∧ wr.cell? ⟨w.heap.size, 1, none⟩ = some (.int .i64 p2)) ∧ Hid (w.heap.size < wr.heap.size ∧ IsGr w wr)) (fun _ t20 _ => (n - intOf t20).toNat)
      case atStart => exact ⟨0, by omega, rfl, rfl, fun i hi => by omega, by simp [go_sem], ⟨by simp [Gr.size]; omega, (by with_reducible repeat (first | exact IsGr.refl _ | refine IsGr.gr ?_ _ _ | refine IsGr.alloc ?_ _ | refine IsGr.drew ?_ | refine IsGr.drewN ?_ _))⟩⟩
      case round =>
        obtain ⟨k, hk, rfl, rfl, HO, ⟨q1', q2'⟩, HW⟩ := hrel
        obtain ⟨W2, hW2⟩ : ∃ W2, W2 = wr := ⟨_, rfl⟩
        subst hW2
        have ka : w.heap.size < W2.heap.size := HW.out.1
        by_cases hkn : k < n
        · have hP := HP.out.gr HW.out.2
          have CF := fun w1 (hg : IsGr W2 w1) => follower_any _ n c l k w1 (hP.gr hg) Hn.out hkn
          have CO := fun w => On_any (l.getD k (0, 0)).1 (l.getD k (0, 0)).2 (nextP l k).1 (nextP l k).2 p1 p2 w
          have CP := fun w => passed_any (l.getD k (0, 0)).1 (l.getD k (0, 0)).2 (nextP l k).1 (nextP l k).2 p1 p2 w
          obtain ⟨g, o, rfl, hgs, hc⟩ := hP.at hkn
          obtain ⟨c1, c2⟩ := hc k hkn
          have hkn' : (k : Int) < n := by omega
          have v1 : IntKind.i64.wrap ((k : Int) + 1) = (k : Int) + 1 := by have := Hn.out; rw [IntKind.wrap_i64]; omega
          have b1 := windK_bound l p1 p2 (k + 1)
          have v2 : IntKind.i64.wrap (windK l p1 p2 k + passP (l.getD k (0, 0)).1 (l.getD k (0, 0)).2 (nextP l k).1 (nextP l k).2 p1 p2) = windK l p1 p2 k + passP (l.getD k (0, 0)).1 (l.getD k (0, 0)).2 (nextP l k).1 (nextP l k).2 p1 p2 := by
            have := Hn.out; unfold windK at b1; rw [IntKind.wrap_i64]; omega
          have HS : Hid (windK l p1 p2 (k + 1) = windK l p1 p2 k + passP (l.getD k (0, 0)).1 (l.getD k (0, 0)).2 (nextP l k).1 (nextP l k).2 p1 p2) := rfl
          have HA : Hid (onAt l p1 p2 k = onP (l.getD k (0, 0)).1 (l.getD k (0, 0)).2 (nextP l k).1 (nextP l k).2 p1 p2) := rfl
          have HG : Hid (IsGr w W2) := HW.out.2
          clear hc hP b1 CA CR HW
          generalize onP (l.getD k (0, 0)).1 (l.getD k (0, 0)).2 (nextP l k).1 (nextP l k).2 p1 p2 = O at CO HA
          generalize passP (l.getD k (0, 0)).1 (l.getD k (0, 0)).2 (nextP l k).1 (nextP l k).2 p1 p2 = Q at CP HS v2
          generalize windK l p1 p2 k = S0 at *
          generalize (l.getD k (0, 0)).1 = x at *
          generalize (l.getD k (0, 0)).2 = y at *
          generalize (nextP l k).1 = u at *
          generalize (nextP l k).2 = v at *
          cases O
          · have HO2 : Hid (∀ i, i < k + 1 → onAt l p1 p2 i = false) := fun i hi => by
              by_cases hik : i = k
              · subst hik; exact HA.out
              · exact HO.out i (by omega)
            clear HO HA
            go_wp2_with fail
            refine (CF _ ?_).mono ?_
            · exact (by with_reducible repeat (first | exact IsGr.refl _ | refine IsGr.gr ?_ _ _ | refine IsGr.alloc ?_ _ | refine IsGr.drew ?_ | refine IsGr.drewN ?_ _))
            rintro e w1 ⟨rfl, os3, m3, rfl⟩
            go_wp2_with fail
            refine (CO _).mono ?_
            rintro e w1 ⟨rfl, os4, m4, rfl⟩
            go_wp2_with fail
            refine (CP _).mono ?_
            rintro e w1 ⟨rfl, os5, m5, rfl⟩
            go_wp2
            go_roundw
            case rel =>
              refine ⟨k + 1, by omega, by go_num, by rw [HS.out], HO2.out, ?_, ⟨?_, HG.out.trans (by with_reducible repeat (first | exact IsGr.refl _ | refine IsGr.gr ?_ _ _ | refine IsGr.alloc ?_ _ | refine IsGr.drew ?_ | refine IsGr.drewN ?_ _))⟩⟩
              · simp [go_sem, q1', q2', ka]
              · simp [Gr.size]; omega
            case measure => simp [intOf]; omega
          · have HT : Hid (WindT l p1 p2 0 true true) := Or.inr (Or.inl ⟨HR.out, ⟨k, by have := HL.out; omega, HA.out⟩, rfl, rfl, rfl⟩)
            clear HO HA
            go_wp2_with fail
            refine (CF _ ?_).mono ?_
            · exact (by with_reducible repeat (first | exact IsGr.refl _ | refine IsGr.gr ?_ _ _ | refine IsGr.alloc ?_ _ | refine IsGr.drew ?_ | refine IsGr.drewN ?_ _))
            rintro e w1 ⟨rfl, os3, m3, rfl⟩
            go_wp2_with fail
            refine (CO _).mono ?_
            rintro e w1 ⟨rfl, os4, m4, rfl⟩
            go_wp2
            exact bodyPost_ret (v := .tuple #[.int .i64 0, .bool true, .bool true]) (by simp [results, Try.results14, go_sem]) rfl ⟨0, true, true, rfl, HT.out, HG.out.trans (by with_reducible repeat (first | exact IsGr.refl _ | refine IsGr.gr ?_ _ _ | refine IsGr.alloc ?_ _ | refine IsGr.drew ?_ | refine IsGr.drewN ?_ _))⟩
        · obtain rfl : k = n := by omega
          have HT : Hid (WindT l p1 p2 (windK l p1 p2 k) false true) := Or.inr (Or.inr ⟨HR.out, fun i hi => HO.out i (by have := HL.out; omega), by rw [← HL.out], rfl, rfl⟩)
          have HG : Hid (IsGr w W2) := HW.out.2
          clear HO HW
          go_wp2
          exact bodyPost_ret (v := .tuple #[.int .i64 (windK l p1 p2 k), .bool false, .bool true]) (by simp [results, Try.results14, go_sem]) rfl ⟨_, false, true, rfl, HT.out, HG.out⟩
end Go.Proofs.Ytohhlhoijanjfaa
