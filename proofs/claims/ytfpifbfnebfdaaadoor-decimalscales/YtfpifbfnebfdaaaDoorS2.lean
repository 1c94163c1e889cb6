/- Lists of ints that a call has made; pairs of ints that came in. -/
import Derived.Test.YtfpifbfnebfdaaaDoorS1
import Derived.Test.YtfpifbfnebfdaaaDoorS0
import Derived.Laws.AppendOwn
import Derived.Laws.AppendOwnNone
import Derived.Laws.OwnMore
import Derived.Maps.AppendAt
namespace Go.Proofs.YtfpifbfnebfdaaaDoor
open Go.RowKit Go.Shelf
/-- A list of ints that lies in a block of its own, at base or behind it. -/
def Lst (w : World) (base : Nat) (v : Value) (L : List Int) : Prop := w.ownsRow base 3 1 v L.length (L.map fun x => .int .i64 x)
theorem Lst.nil (w : World) (base : Nat) : Lst w base (.slice none 0 0) [] := World.ownsRow_nil w base _ _
theorem Lst.wr {S : List Nat} {w w' : World} {base : Nat} {v : Value} {L : List Int} (h : Lst w base v L) (hg : Wr S w w') (hS : ∀ g, v.ownBlock = some g → g ∉ S) : Lst w' base v L := by
  obtain ⟨h1, h2⟩ := h
  refine ⟨h1, ?_⟩
  rcases h2 with h2 | ⟨g, cap, cur, rfl, h3, h4, h5⟩
  · exact Or.inl h2
  · refine Or.inr ⟨g, cap, cur, rfl, h3, ?_, h5⟩
    rw [hg.block g (Array.getElem?_eq_some_iff.1 h4).1 (hS g rfl)]
    exact h4
theorem Lst.gr {w w' : World} {base : Nat} {v : Value} {L : List Int} (h : Lst w base v L) (hg : IsGr w w') : Lst w' base v L := h.wr (S := []) (Wr.of_gr hg) (by simp)
theorem Lst.mono {w : World} {base base' : Nat} {v : Value} {L : List Int} (h : Lst w base v L) (hb : base' ≤ base) : Lst w base' v L := by
  obtain ⟨h1, h2⟩ := h
  refine ⟨h1, ?_⟩
  rcases h2 with h2 | ⟨g, cap, cur, rfl, h3, h4⟩
  · exact Or.inl h2
  · exact Or.inr ⟨g, cap, cur, rfl, by omega, h4⟩
theorem Lst.form {w : World} {base : Nat} {v : Value} {L : List Int} (h : Lst w base v L) : ∃ a c, v = .slice a L.length c ∧ (L = [] ∨ ∃ g, a = some ⟨g, 0, none⟩ ∧ base ≤ g ∧ g < w.heap.size ∧ ∀ i, i < L.length → w.cell? ⟨g, i, none⟩ = some (.int .i64 (L.getD i 0))) := by
  have h' := h
  obtain ⟨h1, h2⟩ := h
  rcases h2 with ⟨rfl, h3⟩ | ⟨g, cap, cur, rfl, h3, h4, h5⟩
  · exact ⟨none, 0, by rw [h3], Or.inl (List.length_eq_zero_iff.1 h3)⟩
  · refine ⟨_, _, rfl, Or.inr ⟨g, rfl, h3, (Array.getElem?_eq_some_iff.1 h4).1, fun i hi => ?_⟩⟩
    have := World.ownsRow.cellAt h' i (by omega)
    rw [this]
    simp [hi, List.getD]
theorem below_grow {w w' : World} {N : Nat} {row : Option Nat} (h : w.grownBy w' row) (hN : N ≤ w.heap.size) (hr : ∀ k, row = some k → N ≤ k) : Below N w w' :=
  ⟨h.os, h.tape, h.output, by have := h.size; omega, fun k hk => h.block k (by omega) (fun e => by have := hr k e.symm; omega)⟩
theorem drop_at {L : List Int} {k : Nat} (h : k < L.length) : L.drop k = L.getD k 0 :: L.drop (k + 1) := by
  rw [List.drop_eq_getElem_cons h]; simp [List.getD, h]
/-- What one append leaves. -/
theorem Lst.snoc {w' : World} {base : Nat} {v : Value} {L : List Int} {x : Int} (h : w'.ownsRow base 3 1 v (L.length + 1) ((L.map fun x => Value.int .i64 x) ++ [.int .i64 x])) : Lst w' base v (L ++ [x]) := by
  unfold Lst; simpa using h
theorem own_block {w : World} {base : Nat} {v : Value} {L : List Int} (h : Lst w base v L) : ∀ k, v.ownBlock = some k → base ≤ k ∧ k < w.heap.size := World.ownsRow.lt h
theorem Lst.cap {w : World} {base n c : Nat} {a : Option Addr} {L : List Int} (h : Lst w base (.slice a n c) L) : n ≤ c := by
  obtain ⟨h1, h2⟩ := h
  rcases h2 with ⟨h2, _⟩ | ⟨g, cap, cur, h2, _, _, h5, _⟩
  · injection h2 with _ e2 e3; omega
  · injection h2 with _ e2 e3; omega
/-- The calls that came in. -/
def Ops (w : World) (a : Option Addr) (n : Nat) (l : List (Int × Int)) : Prop :=
  n = l.length ∧ (∀ p ∈ l, I64 p.2) ∧ (n = 0 ∨ ∃ g o, a = some ⟨g, o, none⟩ ∧ g < w.heap.size ∧ ∀ i, i < n → w.cell? ⟨g, o + i * 2, none⟩ = some (.int .i64 (l.getD i (0, 0)).1) ∧ w.cell? ⟨g, o + i * 2 + 1, none⟩ = some (.int .i64 (l.getD i (0, 0)).2))
theorem Ops.at {w : World} {a : Option Addr} {n : Nat} {l : List (Int × Int)} (h : Ops w a n l) {k : Nat} (hk : k < n) :
    ∃ g o x y, a = some ⟨g, o, none⟩ ∧ I64 y ∧ ∀ w', Below w.heap.size w w' → w'.cell? ⟨g, o + k * 2, none⟩ = some (.int .i64 x) ∧ w'.cell? ⟨g, o + k * 2 + 1, none⟩ = some (.int .i64 y) := by
  obtain ⟨h1, h2, h3⟩ := h
  rcases h3 with h3 | ⟨g, o, h4, h5, h6⟩
  · omega
  · refine ⟨g, o, _, _, h4, ?_, fun w' hb => ⟨(hb.cell (p := ⟨g, o + k * 2, none⟩) h5).trans (h6 k hk).1, (hb.cell (p := ⟨g, o + k * 2 + 1, none⟩) h5).trans (h6 k hk).2⟩⟩
    have : l.getD k (0, 0) ∈ l := by
      have hk' : k < l.length := by omega
      simp only [List.getD, List.getElem?_eq_getElem hk', Option.getD_some]; exact List.getElem_mem hk'
    exact h2 _ this
/-- The numbers that came in. -/
def Ins (w : World) (a : Option Addr) (n : Nat) (l : List Int) : Prop :=
  n = l.length ∧ (∀ p ∈ l, I64 p) ∧ (n = 0 ∨ ∃ g o, a = some ⟨g, o, none⟩ ∧ g < w.heap.size ∧ ∀ i, i < n → w.cell? ⟨g, o + i, none⟩ = some (.int .i64 (l.getD i 0)))
theorem Ins.at {w : World} {a : Option Addr} {n : Nat} {l : List Int} (h : Ins w a n l) {k : Nat} (hk : k < n) :
    ∃ g o, a = some ⟨g, o, none⟩ ∧ I64 (l.getD k 0) ∧ ∀ w', Below w.heap.size w w' → w'.cell? ⟨g, o + k, none⟩ = some (.int .i64 (l.getD k 0)) := by
  obtain ⟨h1, h2, h3⟩ := h
  rcases h3 with h3 | ⟨g, o, h4, h5, h6⟩
  · omega
  · refine ⟨g, o, h4, ?_, fun w' hb => (hb.cell (p := ⟨g, o + k, none⟩) h5).trans (h6 k hk)⟩
    have hk' : k < l.length := by omega
    exact h2 _ (by simp only [List.getD, List.getElem?_eq_getElem hk', Option.getD_some]; exact List.getElem_mem hk')
end Go.Proofs.YtfpifbfnebfdaaaDoor
