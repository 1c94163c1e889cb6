/- Rows of ints that are whole blocks; make, of so many noughts, as one step of a region that draws. -/
import Derived.Test.YtchbnkapajnjgaaS6
namespace Go.Proofs.Ytchbnkapajnjgaa
open Go.RowKit Go.Shelf
/-- The ints X are a whole block. -/
def Row (w : World) (g : Nat) (X : List Int) : Prop := w.heap[g]? = some (.cells (X.map fun x => Value.int .i64 x).toArray 3 (0, 0))
theorem Row.cell {w : World} {g : Nat} {X : List Int} (h : Row w g X) {i : Nat} (hi : i < X.length) : w.cell? ⟨g, i, none⟩ = some (.int .i64 (X.getD i 0)) := by
  unfold Row at h; simp [World.cell?, h, List.getD, hi]
theorem Row.fz {w : World} {g : Nat} {X : List Int} (h : Row w g X) (i : Nat) : w.frozen? ⟨g, i, none⟩ = false := by
  unfold Row at h; simp [World.frozen?, h]
theorem Row.lt {w : World} {g : Nat} {X : List Int} (h : Row w g X) : g < w.heap.size := (Array.getElem?_eq_some_iff.1 h).1
theorem Row.set {w : World} {g : Nat} {X : List Int} (h : Row w g X) (i : Nat) (x : Int) : Row (w.setCell ⟨g, i, none⟩ (.int .i64 x)) g (X.set i x) := by
  unfold Row at *
  simp only [World.setCell]
  rw [Array.getElem?_modify, if_pos rfl, h]
  simp [List.map_set]
theorem Row.wr {S : List Nat} {w w' : World} {g : Nat} {X : List Int} (h : Row w g X) (hg : Wr S w w') (hS : g ∉ S) : Row w' g X := by
  have := h.lt
  unfold Row at *; rw [hg.block g this hS]; exact h
theorem Row.other {w : World} {g b : Nat} {X : List Int} (h : Row w g X) (o : Nat) (v : Value) (hb : g ≠ b) : Row (w.setCell ⟨b, o, none⟩ v) g X := by
  unfold Row at *; rw [set_block _ _ _ _ _ hb]; exact h
theorem Row.below {w w' : World} {g : Nat} {X : List Int} (h : Row w g X) (hg : Below w.heap.size w w') : Row w' g X := h.wr (S := []) (Wr.of_below hg) (by simp)
theorem Row.gr {w w' : World} {g : Nat} {X : List Int} (h : Row w g X) (hg : IsGr w w') : Row w' g X := h.below hg.below
theorem Row.lst {w : World} {base g : Nat} {X : List Int} (h : Row w g X) (hb : base ≤ g) (hn : X.length ≤ 1048576) : Lst w base (.slice (some ⟨g, 0, none⟩) X.length X.length) X :=
  ⟨by simp, Or.inr ⟨g, X.length, _, rfl, hb, h, Nat.le_refl _, by unfold maxLen; omega, by simp, List.take_of_length_le (by simp)⟩⟩
theorem Row.rd {w : World} {g : Nat} {X : List Int} (h : Row w g X) (hi : ∀ x ∈ X, I64 x) : Rd w (.slice (some ⟨g, 0, none⟩) X.length X.length) X :=
  ⟨_, _, rfl, Nat.le_refl _, rfl, hi, Or.inr ⟨g, 0, rfl, h.lt, fun i hi => by rw [Nat.zero_add]; exact h.cell hi⟩⟩
/-- What make has left: in world W, at b. -/
def MkZ (W w' : World) (b n : Nat) : Prop := b = W.heap.size ∧ Row w' b (List.replicate n 0) ∧ Below W.heap.size W w'
theorem mk_zero {W w' : World} {n : Nat} (h1 : w'.ownsRow W.heap.size 3 1 (.slice (some ⟨W.heap.size, 0, none⟩) n n) n (madeCells (Value.int .i64 0).cells (n * 1)).toList) (h2 : W.grownBy w' none) : MkZ W w' W.heap.size n := by
  refine ⟨rfl, ?_, (Below.refl _ W).grown h2 (Nat.le_refl _) (fun k e => by cases e)⟩
  rcases h1.2 with ⟨e, _⟩ | ⟨g, cap, cur, e, _, h4, h5, _, h6, h7⟩
  · injection e with e; cases e
  · injection e with e1 e2 e3
    injection e1 with e1
    injection e1 with e1
    subst e1 e3
    unfold Row
    rw [h4]
    have hc : cur = (List.map (fun x => Value.int .i64 x) (List.replicate n 0)).toArray := by
      apply Array.ext'
      have h8 : cur.toList.take (n * 1) = cur.toList := List.take_of_length_le (by simp; omega)
      rw [h8] at h7
      rw [h7]
      apply List.ext_getElem?
      intro i
      by_cases hi : i < n
      · simp [madeCells, Value.cells, hi, Nat.mod_one]
      · rw [List.getElem?_eq_none (by simp [madeCells]; omega), List.getElem?_eq_none (by simp; omega)]
    rw [hc]
/-- A new list of so many noughts. -/
theorem step_make_row {w : World} {ops : Array Oper} {o : Oper} {a : Act} {K : Act → World → Prop} {Q : Exit → Act → World → Prop} {E : Prop} (hgd : o.guard = none) (l : Operand) (hop : o.op = Op.makeSlice 26 l l) (n : Nat) (hl : a.eval l = .int .i64 (n : Int)) (hn : n ≤ 1048576)
    (hK : ∀ w' b, Hid (MkZ w w' b n) → K (a.put o.dst (.slice (some ⟨b, 0, none⟩) n n)) w') : if Region.wanted o (yielded ops a.tmps) = true then Oper.wp Try.prog o a w K Q else E := by
  have hw : Region.wanted o (yielded ops a.tmps) = true := by simp [Region.wanted, hgd]
  rw [if_pos hw]
  obtain ⟨i0, hi, hz0, hz1, hz2⟩ := info_parts info_int
  obtain ⟨w', hrun, r1, r2⟩ := run_make_full (P := Try.prog) w w.heap.size 26 3 i0 (.int .i64 0) 1 Try.underlying26 hi hz0 hz1 .i64 .i64 n (by rw [hz2]; omega) (by unfold maxLen; omega) (Nat.le_refl _)
  unfold Oper.wp
  simp [execOp, hop, hl, hrun, Result.andThen]
  exact hK w' _ (mk_zero r1 r2)
/-- The same, in a region that keeps the text's order. -/
theorem wpList_make_row {w : World} {ops : Array Oper} {rest : List Oper} {o : Oper} {a : Act} {Q : Exit → Act → World → Prop} (hgd : o.guard = none) (l : Operand) (hop : o.op = Op.makeSlice 26 l l) (n : Nat) (hl : a.eval l = .int .i64 (n : Int)) (hn : n ≤ 1048576)
    (hK : ∀ w' b, Hid (MkZ w w' b n) → wpList Try.prog ops Q rest (a.put o.dst (.slice (some ⟨b, 0, none⟩) n n)) w') : wpList Try.prog ops Q (o :: rest) a w := by
  have hw : Region.wanted o (yielded ops a.tmps) = true := by simp [Region.wanted, hgd]
  have h := step_make_row (E := False) hgd l hop n hl hn hK (Q := Q) (ops := ops)
  unfold wpList
  rw [if_pos hw] at h ⊢
  exact Or.inl h
end Go.Proofs.Ytchbnkapajnjgaa
