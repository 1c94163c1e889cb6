/- Points that are appended to points. -/
import Derived.Test.YtohhlhoijanjfaaU1
import Derived.Laws.AppendOwn
import Derived.Laws.AppendOwnNone
namespace Go.Proofs.Ytohhlhoijanjfaa
theorem qA {α : Type} {l : List α} {i : Nat} {a : α} : l.toArray.setIfInBounds i a = (l.set i a).toArray := List.setIfInBounds_toArray ..
theorem qB {α : Type} {x : α} {xs : List α} {a : α} : (x :: xs).set 0 a = a :: xs := rfl
theorem qC {α : Type} {x : α} {xs : List α} {n : Nat} {a : α} : (x :: xs).set (n + 1) a = x :: xs.set n a := rfl
open Go Go.RowKit

/-- The cells of some points, one behind the other. -/
def ptCs : List (Int × Int) → List Value
  | [] => []
  | p :: l => .int .i64 p.1 :: .int .i64 p.2 :: ptCs l
theorem ptCs_length : ∀ l : List (Int × Int), (ptCs l).length = l.length * 2
  | [] => rfl
  | p :: l => by simp only [ptCs, List.length_cons, ptCs_length l]; omega
theorem ptCs_append : ∀ l r : List (Int × Int), ptCs (l ++ r) = ptCs l ++ ptCs r
  | [], r => rfl
  | p :: l, r => by simp only [ptCs, List.cons_append, ptCs_append l r]
theorem ptCs_at : ∀ (l : List (Int × Int)) (i : Nat), i < l.length → (ptCs l)[i * 2]? = some (.int .i64 (l.getD i (0, 0)).1) ∧ (ptCs l)[i * 2 + 1]? = some (.int .i64 (l.getD i (0, 0)).2)
  | [], i, h => by simp at h
  | p :: l, 0, _ => by simp [ptCs]
  | p :: l, i + 1, h => by
    have := ptCs_at l i (by simpa using h)
    rw [show (i + 1) * 2 = i * 2 + 1 + 1 by omega]
    simpa [ptCs] using this
theorem ptCs_one : ∀ (l : List (Int × Int)) (u : Value), u ∈ ptCs l → u.oneCell' = true
  | [], u, h => by simp [ptCs] at h
  | p :: l, u, h => by
    simp only [ptCs, List.mem_cons] at h
    rcases h with rfl | rfl | h
    · rfl
    · rfl
    · exact ptCs_one l u h
theorem addr_add (g o j : Nat) : (⟨g, o, none⟩ : Addr).add j = ⟨g, o + j, none⟩ := by
  unfold Addr.add
  split
  · rename_i h; subst h; rfl
  · rfl
theorem Pts.news {w : World} {g o m c : Nat} {l : List (Int × Int)} (h : Pts w (.slice (some ⟨g, o, none⟩) m c) l) : ∀ j u, (ptCs l)[j]? = some u → w.cell? ((⟨g, o, none⟩ : Addr).add j) = some u := by
  intro j u hu
  have hl := h.len
  have hj : j < (ptCs l).length := (List.getElem?_eq_some_iff.1 hu).1
  rw [ptCs_length] at hj
  have hi : j / 2 < m := by omega
  obtain ⟨g', o', e, _, hc⟩ := h.at hi
  injection e with e
  injection e with e1 e2
  subst e1 e2
  have h1 := hc (j / 2) hi
  have h2 := ptCs_at l (j / 2) (by omega)
  rcases Nat.mod_two_eq_zero_or_one j with hm | hm
  · have ej : j = j / 2 * 2 := by omega
    rw [ej] at hu ⊢
    rw [h2.1] at hu
    rw [← hu]
    rw [addr_add]
    exact h1.1
  · have ej : j = j / 2 * 2 + 1 := by omega
    rw [ej] at hu ⊢
    rw [h2.2] at hu
    rw [← hu]
    rw [addr_add]
    exact h1.2
theorem Pts.of_own {w : World} {B n : Nat} {T : TypeId} {v : Value} {l : List (Int × Int)} (h : w.ownsRow B T 2 v n (ptCs l)) : n = l.length ∧ Pts w v l := by
  obtain ⟨h1, h2⟩ := h
  rw [ptCs_length] at h1
  have hn : n = l.length := by omega
  subst hn
  refine ⟨rfl, ?_⟩
  rcases h2 with ⟨rfl, h3⟩ | ⟨g, cap, cur, rfl, hB, hb, hc1, hc2, hs, ht⟩
  · have : l = [] := List.length_eq_zero_iff.1 h3
    subst this
    exact Pts.nil w
  · refine ⟨_, _, rfl, hc1, hc2, Or.inr ⟨g, 0, rfl, (Array.getElem?_eq_some_iff.1 hb).1, fun i hi => ?_⟩⟩
    have h4 := ptCs_at l i hi
    rw [← ht, List.getElem?_take, List.getElem?_take, if_pos (by omega), if_pos (by omega)] at h4
    simp only [World.cell?, hb, Nat.zero_add]
    simpa using h4
theorem below_grown {w w' : World} {N : Nat} {row : Option Nat} (h : w.grownBy w' row) (hN : N ≤ w.heap.size) (hr : ∀ k, row = some k → N ≤ k) : Below N w w' :=
  ⟨h.os, h.tape, h.output, by have := h.size; omega, fun k hk => h.block k (by omega) (fun e => by have := hr k e.symm; omega)⟩
end Go.Proofs.Ytohhlhoijanjfaa
