/- Contracts of package point over the loaded program: inReach, Right, allRight. -/
import Derived.Test.YtohhlhoijanjfaaR1
import Derived.Test.YtohhlhoijanjfaaG2
import Derived.Test.YtohhlhoijanjfaaW3
namespace Go.Proofs.Ytohhlhoijanjfaa
open Go.RowKit Go.Shelf
attribute [local go_sem] Gr.size Gr.cell? Gr.frozen? Gr.setCell Gr.drew Gr.drewN Gr.of_drew Gr.of_drewN Gr.gr Gr.lt_of1 Gr.le_of1 Gr.lt_of2 Gr.le_of2 Gr.lt_of3 Gr.le_of3 Gr.lt_of4 Gr.le_of4 Gr.lt_of5 Gr.le_of5 Gr.lt_of6 Gr.le_of6 Gr.lt_of7 Gr.le_of7 Gr.lt_of8 Gr.le_of8 Gr.lt_of9 Gr.le_of9 Gr.lt_of10 Gr.le_of10 Gr.lt_of11 Gr.le_of11 Gr.lt_of12 Gr.le_of12 Gr.lt_of13 Gr.le_of13 Gr.lt_of14 Gr.le_of14 Gr.lt_of15 Gr.le_of15 Gr.lt_of16 Gr.le_of16 Gr.lt_of17 Gr.le_of17 Gr.lt_of18 Gr.le_of18 Gr.lt_of19 Gr.le_of19 Gr.lt_of20 Gr.le_of20 Gr.lt_of21 Gr.le_of21 Gr.lt_of22 Gr.le_of22 Gr.lt_of23 Gr.le_of23 Gr.lt_of24 Gr.le_of24

/-- May it be a coordinate? -/
def reach (n : Int) : Bool := decide (-2199023255552 ≤ n ∧ n ≤ 2199023255552)
/-- Is the point right? -/
def rightP (x y : Int) : Bool := reach x && reach y
theorem reach_t {n : Int} (h : reach n = true) : -2199023255552 ≤ n ∧ n ≤ 2199023255552 := by simpa [reach] using h
theorem rightP_t {x y : Int} (h : rightP x y = true) : -2199023255552 ≤ x ∧ x ≤ 2199023255552 ∧ -2199023255552 ≤ y ∧ y ≤ 2199023255552 := by
  simp only [rightP, Bool.and_eq_true] at h
  have h1 := reach_t h.1; have h2 := reach_t h.2; omega
/-- A right point's coordinates, for the walk. -/
def RightT (x y : Int) : Prop := -2199023255552 ≤ x ∧ x ≤ 2199023255552 ∧ -2199023255552 ≤ y ∧ y ≤ 2199023255552

set_option maxHeartbeats 4000000 in
theorem inReach_any (n : Int) (w : World) : Calls Try.prog 87 #[.int .i64 n] w fun e w' => e = .returned (.bool (reach n)) ∧ IsGr w w' := by
  by_cases h : -2199023255552 ≤ n
  · by_cases h2 : n ≤ 2199023255552
    · have HR : Hid (true = reach n) := by simp [reach, Hid, h, h2]
      go_enter Try.func87, Try.ntmps87
      go_wp2
      go_ret
      exact ⟨ret_bool HR.out, (by with_reducible repeat (first | exact IsGr.refl _ | refine IsGr.gr ?_ _ _ | refine IsGr.alloc ?_ _ | refine IsGr.drew ?_ | refine IsGr.drewN ?_ _))⟩
    · have HR : Hid (false = reach n) := by simp [reach, Hid]; omega
      go_enter Try.func87, Try.ntmps87
      go_wp2
      go_ret
      exact ⟨ret_bool HR.out, (by with_reducible repeat (first | exact IsGr.refl _ | refine IsGr.gr ?_ _ _ | refine IsGr.alloc ?_ _ | refine IsGr.drew ?_ | refine IsGr.drewN ?_ _))⟩
  · have HR : Hid (false = reach n) := by simp [reach, Hid]; omega
    go_enter Try.func87, Try.ntmps87
    go_wp2
    go_ret
    exact ⟨ret_bool HR.out, (by with_reducible repeat (first | exact IsGr.refl _ | refine IsGr.gr ?_ _ _ | refine IsGr.alloc ?_ _ | refine IsGr.drew ?_ | refine IsGr.drewN ?_ _))⟩

set_option maxHeartbeats 4000000 in
theorem PRight_any (a1 a2 : Int) (w : World) : Calls Try.prog 49 #[.agg #[.int .i64 a1, .int .i64 a2]] w fun e w' => e = .returned (.bool (rightP a1 a2)) ∧ IsGr w w' := by
  have C1 := fun w => inReach_any a1 w
  have C2 := fun w => inReach_any a2 w
  have HR : Hid ((reach a1 && reach a2) = rightP a1 a2) := rfl
  generalize reach a1 = r1 at *
  generalize reach a2 = r2 at *
  cases r1
  · go_enter Try.func49, Try.ntmps49
    go_wp2_with fail
    refine (C1 _).mono ?_
    rintro e w1 ⟨rfl, os1, n1, rfl⟩
    go_wp2
    go_ret
    exact ⟨ret_bool HR.out, (by with_reducible repeat (first | exact IsGr.refl _ | refine IsGr.gr ?_ _ _ | refine IsGr.alloc ?_ _ | refine IsGr.drew ?_ | refine IsGr.drewN ?_ _))⟩
  · go_enter Try.func49, Try.ntmps49
    go_wp2_with fail
    refine (C1 _).mono ?_
    rintro e w1 ⟨rfl, os1, n1, rfl⟩
    go_wp2_with fail
    refine (C2 _).mono ?_
    rintro e w1 ⟨rfl, os2, n2, rfl⟩
    go_wp2
    go_ret
    exact ⟨ret_bool HR.out, (by with_reducible repeat (first | exact IsGr.refl _ | refine IsGr.gr ?_ _ _ | refine IsGr.alloc ?_ _ | refine IsGr.drew ?_ | refine IsGr.drewN ?_ _))⟩

/-- The slice value v holds the points l in the world w. -/
def Pts (w : World) (v : Value) (l : List (Int × Int)) : Prop :=
  ∃ (a : Option Addr) (c : Nat), v = .slice a l.length c ∧ l.length ≤ c ∧ c ≤ maxLen ∧ (l = [] ∨ ∃ g o, a = some ⟨g, o, none⟩ ∧ g < w.heap.size ∧
    ∀ i, i < l.length → w.cell? ⟨g, o + i * 2, none⟩ = some (.int .i64 (l.getD i (0, 0)).1) ∧ w.cell? ⟨g, o + i * 2 + 1, none⟩ = some (.int .i64 (l.getD i (0, 0)).2))
theorem Pts.gr {w w' : World} {v : Value} {l : List (Int × Int)} (h : Pts w v l) (hg : IsGr w w') : Pts w' v l := by
  obtain ⟨a, c, h1, h2, h3, h4⟩ := h
  refine ⟨a, c, h1, h2, h3, ?_⟩
  rcases h4 with h4 | ⟨g, o, rfl, h5, h6⟩
  · exact Or.inl h4
  · exact Or.inr ⟨g, o, rfl, by have := hg.size; omega, fun i hi => ⟨(hg.below.cell (p := ⟨g, o + i * 2, none⟩) h5).trans (h6 i hi).1, (hg.below.cell (p := ⟨g, o + i * 2 + 1, none⟩) h5).trans (h6 i hi).2⟩⟩
theorem Pts.nil (w : World) : Pts w (.slice none 0 0) [] := ⟨none, 0, rfl, by simp, by simp [maxLen], Or.inl rfl⟩
theorem Pts.at {w : World} {a : Option Addr} {n c : Nat} {l : List (Int × Int)} (h : Pts w (.slice a n c) l) {k : Nat} (hk : k < n) : ∃ g o, a = some ⟨g, o, none⟩ ∧ g < w.heap.size ∧
    ∀ i, i < n → w.cell? ⟨g, o + i * 2, none⟩ = some (.int .i64 (l.getD i (0, 0)).1) ∧ w.cell? ⟨g, o + i * 2 + 1, none⟩ = some (.int .i64 (l.getD i (0, 0)).2) := by
  obtain ⟨a', c', h1, h2, h3, h4⟩ := h
  injection h1 with e1 e2 e3
  subst e1 e2 e3
  rcases h4 with rfl | h4
  · simp at hk
  · exact h4
theorem Pts.len {w : World} {a : Option Addr} {n c : Nat} {l : List (Int × Int)} (h : Pts w (.slice a n c) l) : n = l.length := by
  obtain ⟨a', c', h1, _⟩ := h
  injection h1
/-- Are all of them right? -/
def allR (l : List (Int × Int)) : Bool := l.all fun p => rightP p.1 p.2
theorem allR_all {l : List (Int × Int)} {n : Nat} (hn : n = l.length) (h : ∀ i, i < n → rightP (l.getD i (0, 0)).1 (l.getD i (0, 0)).2 = true) : true = allR l := by
  symm
  simp only [allR, List.all_eq_true]
  intro p hp
  obtain ⟨i, hi, rfl⟩ := List.mem_iff_getElem.1 hp
  have := h i (by omega)
  simpa [List.getD, hi] using this
theorem allR_not {l : List (Int × Int)} {n k : Nat} (hn : n = l.length) (hk : k < n) (h : rightP (l.getD k (0, 0)).1 (l.getD k (0, 0)).2 = false) : false = allR l := by
  symm
  rw [Bool.eq_false_iff]
  intro hc
  simp only [allR, List.all_eq_true] at hc
  have hkl : k < l.length := by omega
  have h2 := hc l[k] (List.getElem_mem hkl)
  simp [List.getD, hkl] at h
  rw [h] at h2
  exact Bool.false_ne_true h2

set_option maxHeartbeats 4000000 in
theorem allRight_any (a : Option Addr) (n c : Nat) (l : List (Int × Int)) (w : World) (h : Pts w (.slice a n c) l) (hn : n ≤ 100000) :
    Calls Try.prog 81 #[.slice a n c] w fun e w' => e = .returned (.bool (allR l)) ∧ IsGr w w' := by
  have HL : Hid (n = l.length) := h.len
  go_enter Try.func81, Try.ntmps81
  go_wp2
  go_loopw [7] (fun t7 wr => ∃ k : Nat, k ≤ n ∧ t7 = .int .i64 k ∧ Hid (∀ i, i < k → rightP (l.getD i (0, 0)).1 (l.getD i (0, 0)).2 = true) ∧ IsGr w wr) (fun t7 _ => (n - intOf t7).toNat)
  case atStart => exact ⟨0, by omega, rfl, fun i hi => by omega, IsGr.refl _⟩
  case round =>
    obtain ⟨k, hk, rfl, HA, hg⟩ := hrel
    by_cases hkn : k < n
    · obtain ⟨g, o, rfl, hgs, hc⟩ := (h.gr hg).at hkn
      obtain ⟨c1, c2⟩ := hc k hkn
      have CR := fun w => PRight_any (l.getD k (0, 0)).1 (l.getD k (0, 0)).2 w
      have HB : Hid (∀ b, rightP (l.getD k (0, 0)).1 (l.getD k (0, 0)).2 = b → (b = false → false = allR l) ∧ (b = true → ∀ i, i < k + 1 → rightP (l.getD i (0, 0)).1 (l.getD i (0, 0)).2 = true)) := by
        rintro b hb
        refine ⟨fun e => allR_not HL.out hkn (hb.trans e), fun e i hi => ?_⟩
        by_cases hik : i = k
        · subst hik; exact hb.trans e
        · exact HA.out i (by omega)
      clear hc
      generalize hb : rightP (l.getD k (0, 0)).1 (l.getD k (0, 0)).2 = b at CR
      replace HB : Hid _ := HB.out b hb
      clear hb
      generalize (l.getD k (0, 0)).1 = x at *
      generalize (l.getD k (0, 0)).2 = y at *
      cases b
      · have HB' : Hid (false = allR l) := HB.out.1 rfl
        clear HB
        go_wp2_with fail
        refine (CR _).mono ?_
        rintro e w1 ⟨rfl, os1, n1, rfl⟩
        go_wp2
        go_ret
        exact ⟨ret_bool HB'.out, hg.trans (by with_reducible repeat (first | exact IsGr.refl _ | refine IsGr.gr ?_ _ _ | refine IsGr.alloc ?_ _ | refine IsGr.drew ?_ | refine IsGr.drewN ?_ _))⟩
      · have HB' : Hid _ := HB.out.2 rfl
        clear HB
        go_wp2_with fail
        refine (CR _).mono ?_
        rintro e w1 ⟨rfl, os1, n1, rfl⟩
        go_wp2
        go_roundw
        case rel => exact ⟨k + 1, by omega, by go_num, HB'.out, hg.trans (by with_reducible repeat (first | exact IsGr.refl _ | refine IsGr.gr ?_ _ _ | refine IsGr.alloc ?_ _ | refine IsGr.drew ?_ | refine IsGr.drewN ?_ _))⟩
        case measure => simp [intOf]; omega
    · have HB : Hid (true = allR l) := allR_all HL.out (fun i hi => HA.out i (by omega))
      go_wp2
      go_ret
      exact ⟨ret_bool HB.out, hg⟩
end Go.Proofs.Ytohhlhoijanjfaa
