/- Contracts of package point over the loaded program: allowed, follower, Area. -/
import Derived.Test.YtohhlhoijanjfaaU7
namespace Go.Proofs.Ytohhlhoijanjfaa
open Go.RowKit Go.Shelf
attribute [local go_sem] Gr.size Gr.cell? Gr.frozen? Gr.setCell Gr.drew Gr.drewN Gr.of_drew Gr.of_drewN Gr.gr Gr.lt_of1 Gr.le_of1 Gr.lt_of2 Gr.le_of2 Gr.lt_of3 Gr.le_of3 Gr.lt_of4 Gr.le_of4 Gr.lt_of5 Gr.le_of5 Gr.lt_of6 Gr.le_of6 Gr.lt_of7 Gr.le_of7 Gr.lt_of8 Gr.le_of8 Gr.lt_of9 Gr.le_of9 Gr.lt_of10 Gr.le_of10 Gr.lt_of11 Gr.le_of11 Gr.lt_of12 Gr.le_of12 Gr.lt_of13 Gr.le_of13 Gr.lt_of14 Gr.le_of14 Gr.lt_of15 Gr.le_of15 Gr.lt_of16 Gr.le_of16 Gr.lt_of17 Gr.le_of17 Gr.lt_of18 Gr.le_of18 Gr.lt_of19 Gr.le_of19 Gr.lt_of20 Gr.le_of20 Gr.lt_of21 Gr.le_of21 Gr.lt_of22 Gr.le_of22 Gr.lt_of23 Gr.le_of23 Gr.lt_of24 Gr.le_of24

set_option maxRecDepth 20000 in set_option maxHeartbeats 2000000 in
theorem allowed_any (a : Option Addr) (n c : Nat) (l : List (Int × Int)) (w : World) (h : Pts w (.slice a n c) l) (hn : n ≤ 4096) :
    Calls Try.prog 48 #[.slice a n c] w fun e w' => e = .returned (.bool (allR l)) ∧ IsGr w w' := by
  have CA := fun w1 (hg : IsGr w w1) => allRight_any a n c l w1 (h.gr hg) (by omega)
  have hle : (n : Int) ≤ 4096 := by omega
  generalize allR l = B at CA
  clear h
  go_enter Try.func48, Try.ntmps48
  go_wp2_with fail
  refine (CA _ ?_).mono ?_
  · exact (by with_reducible repeat (first | exact IsGr.refl _ | refine IsGr.gr ?_ _ _ | refine IsGr.alloc ?_ _ | refine IsGr.drew ?_ | refine IsGr.drewN ?_ _))
  rintro e w1 ⟨rfl, os1, m1, rfl⟩
  go_wp2
  go_ret
  exact ⟨rfl, (by with_reducible repeat (first | exact IsGr.refl _ | refine IsGr.gr ?_ _ _ | refine IsGr.alloc ?_ _ | refine IsGr.drew ?_ | refine IsGr.drewN ?_ _))⟩

/-- The point behind the one at i, along the closed way. -/
def nextP (l : List (Int × Int)) (i : Nat) : Int × Int := l.getD ((i + 1) % l.length) (0, 0)

set_option maxRecDepth 20000 in set_option maxHeartbeats 2000000 in
theorem follower_any (a : Option Addr) (n c : Nat) (l : List (Int × Int)) (i : Nat) (w : World) (h : Pts w (.slice a n c) l) (hn : n ≤ 4096) (hi : i < n) :
    Calls Try.prog 50 #[.slice a n c, .int .i64 i] w fun e w' => e = .returned (.agg #[.int .i64 (nextP l i).1, .int .i64 (nextP l i).2]) ∧ IsGr w w' := by
  have hl := h.len
  obtain ⟨g, o, rfl, hgs, hc⟩ := h.at hi
  have hj : (i + 1) % n < n := Nat.mod_lt _ (by omega)
  obtain ⟨c1, c2⟩ := hc _ hj
  have e1 : l.getD ((i + 1) % n) (0, 0) = nextP l i := by rw [hl]; rfl
  rw [e1] at c1 c2
  have v1 : IntKind.i64.wrap ((i : Int) + 1) = (i : Int) + 1 := by rw [IntKind.wrap_i64]; omega
  have v2 : ((i : Int) + 1).tmod (n : Int) = (((i + 1) % n : Nat) : Int) := by
    rw [Int.tmod_eq_emod_of_nonneg (by omega)]; simp
  have n0 : ((n : Int) == 0) = false := by simp; omega
  have hjn : (((i + 1) % n : Nat) : Int) < n := by omega
  generalize (nextP l i).1 = x at *
  generalize (nextP l i).2 = y at *
  generalize (i + 1) % n = j at *
  clear hc h e1 hl
  go_enter Try.func50, Try.ntmps50
  go_wp2
  exact bodyPost_ret (v := .agg #[.int .i64 x, .int .i64 y]) (by simp [results, Try.results50, go_sem]) rfl ⟨rfl, (by with_reducible repeat (first | exact IsGr.refl _ | refine IsGr.gr ?_ _ _ | refine IsGr.alloc ?_ _ | refine IsGr.drew ?_ | refine IsGr.drewN ?_ _))⟩

/-- Twice the area of the first k triangles that the origin sees. -/
def areaK (l : List (Int × Int)) : Nat → Int
  | 0 => 0
  | k + 1 => areaK l k + turnI 0 0 (l.getD k (0, 0)).1 (l.getD k (0, 0)).2 (nextP l k).1 (nextP l k).2
/-- What Area answers. -/
def AreaT (l : List (Int × Int)) (s0 s1 s2 s3 : Int) (ok : Bool) : Prop :=
  (allR l = true ∧ ok = true ∧ IsI s0 s1 s2 s3 (areaK l l.length)) ∨ (allR l = false ∧ ok = false ∧ s0 = 0 ∧ s1 = 0 ∧ s2 = 0 ∧ s3 = 0)
theorem allR_get {l : List (Int × Int)} (h : allR l = true) (i : Nat) : rightP (l.getD i (0, 0)).1 (l.getD i (0, 0)).2 = true := by
  simp only [allR, List.all_eq_true] at h
  by_cases hi : i < l.length
  · have := h l[i] (List.getElem_mem hi)
    simpa [List.getD, hi] using this
  · have : l.getD i (0, 0) = (0, 0) := by simp [List.getD, Nat.le_of_not_lt hi]
    rw [this]; rfl
theorem areaK_bound {l : List (Int × Int)} (h : allR l = true) : ∀ k, -(38685626227668133590597632 * k) ≤ areaK l k ∧ areaK l k ≤ 38685626227668133590597632 * k
  | 0 => by simp [areaK]
  | k + 1 => by
    have h1 := areaK_bound h k
    have h2 := turn_bound (a1 := 0) (a2 := 0) rfl (allR_get h k) (allR_get h ((k + 1) % l.length))
    unfold areaK nextP
    omega

end Go.Proofs.Ytohhlhoijanjfaa
