/- Lists of structs of three ints that a call has made. -/
import Derived.Test.YtpgcfnpnpmpkeaaS2
namespace Go.Proofs.Ytpgcfnpnpmpkeaa
open Go.RowKit Go.Shelf
/-- The cells of such a list. -/
def cs3 (L : List (Int × Int × Int)) : List Value := L.flatMap fun t => [.int .i64 t.1, .int .i64 t.2.1, .int .i64 t.2.2]
theorem cs3_len : ∀ L, (cs3 L).length = L.length * 3
  | [] => rfl
  | t :: L => by
    have := cs3_len L
    unfold cs3 at *
    rw [List.flatMap_cons, List.length_append, this, List.length_cons]
    simp; omega
theorem cs3_snoc (L : List (Int × Int × Int)) (p q r : Int) : cs3 (L ++ [(p, q, r)]) = cs3 L ++ [.int .i64 p, .int .i64 q, .int .i64 r] := by simp [cs3]
theorem cs3_at : ∀ (L : List (Int × Int × Int)) (i : Nat), i < L.length → (cs3 L)[i * 3]? = some (.int .i64 (L.getD i (0, 0, 0)).1) ∧ (cs3 L)[i * 3 + 1]? = some (.int .i64 (L.getD i (0, 0, 0)).2.1) ∧ (cs3 L)[i * 3 + 2]? = some (.int .i64 (L.getD i (0, 0, 0)).2.2)
  | [], i, h => by simp at h
  | t :: L, 0, _ => by simp [cs3]
  | t :: L, i + 1, h => by
    obtain ⟨h1, h2, h3⟩ := cs3_at L i (by simpa using h)
    have e : cs3 (t :: L) = .int .i64 t.1 :: .int .i64 t.2.1 :: .int .i64 t.2.2 :: cs3 L := by simp [cs3]
    rw [e, show (i + 1) * 3 = i * 3 + 1 + 1 + 1 by omega]
    simp only [List.getElem?_cons_succ, List.getD_cons_succ]
    exact ⟨h1, h2, h3⟩
/-- A list of structs of three ints that lies in a block of its own, at base or behind it. -/
def Ls3 (te : TypeId) (w : World) (base : Nat) (v : Value) (L : List (Int × Int × Int)) : Prop := w.ownsRow base te 3 v L.length (cs3 L)
section
variable {te : TypeId} {w w' : World} {base : Nat} {v : Value} {L : List (Int × Int × Int)}
theorem Ls3.nil (te : TypeId) (w : World) (base : Nat) : Ls3 te w base (.slice none 0 0) [] := World.ownsRow_nil w base _ _
theorem Ls3.wr {S : List Nat} (h : Ls3 te w base v L) (hg : Wr S w w') (hS : ∀ g, v.ownBlock = some g → g ∉ S) : Ls3 te w' base v L := by
  obtain ⟨h1, h2⟩ := h
  refine ⟨h1, ?_⟩
  rcases h2 with h2 | ⟨g, cap, cur, rfl, h3, h4, h5⟩
  · exact Or.inl h2
  · refine Or.inr ⟨g, cap, cur, rfl, h3, ?_, h5⟩
    rw [hg.block g (Array.getElem?_eq_some_iff.1 h4).1 (hS g rfl)]
    exact h4
theorem Ls3.gr (h : Ls3 te w base v L) (hg : IsGr w w') : Ls3 te w' base v L := h.wr (S := []) (Wr.of_gr hg) (by simp)
theorem Ls3.below (h : Ls3 te w base v L) (hg : Below w.heap.size w w') : Ls3 te w' base v L := h.wr (S := []) (Wr.of_below hg) (by simp)
theorem Ls3.mono {base' : Nat} (h : Ls3 te w base v L) (hb : base' ≤ base) : Ls3 te w base' v L := by
  obtain ⟨h1, h2⟩ := h
  refine ⟨h1, ?_⟩
  rcases h2 with h2 | ⟨g, cap, cur, rfl, h3, h4⟩
  · exact Or.inl h2
  · exact Or.inr ⟨g, cap, cur, rfl, by omega, h4⟩
theorem Ls3.keep (h : Ls3 te w base v L) (hk : ∀ g, v.ownBlock = some g → w'.heap[g]? = w.heap[g]?) : Ls3 te w' base v L := by
  obtain ⟨h1, h2⟩ := h
  refine ⟨h1, ?_⟩
  rcases h2 with h2 | ⟨g, cap, cur, rfl, h3, h4, h5⟩
  · exact Or.inl h2
  · exact Or.inr ⟨g, cap, cur, rfl, h3, (hk g rfl).trans h4, h5⟩
theorem Ls3.form (h : Ls3 te w base v L) : ∃ a c, v = .slice a L.length c ∧ L.length ≤ c ∧ (L = [] ∧ a = none ∧ c = 0 ∨ ∃ g, a = some ⟨g, 0, none⟩ ∧ base ≤ g ∧ g < w.heap.size ∧ ∀ i, i < L.length → w.cell? ⟨g, i * 3, none⟩ = some (.int .i64 (L.getD i (0, 0, 0)).1) ∧ w.cell? ⟨g, i * 3 + 1, none⟩ = some (.int .i64 (L.getD i (0, 0, 0)).2.1) ∧ w.cell? ⟨g, i * 3 + 2, none⟩ = some (.int .i64 (L.getD i (0, 0, 0)).2.2)) := by
  have h' := h
  obtain ⟨h1, h2⟩ := h
  rcases h2 with ⟨rfl, h3⟩ | ⟨g, cap, cur, rfl, h3, h4, h5, h6⟩
  · exact ⟨none, 0, by rw [h3], by omega, Or.inl ⟨List.length_eq_zero_iff.1 h3, rfl, rfl⟩⟩
  · refine ⟨_, _, rfl, h5, Or.inr ⟨g, rfl, h3, (Array.getElem?_eq_some_iff.1 h4).1, fun i hi => ?_⟩⟩
    obtain ⟨q1, q2, q3⟩ := cs3_at L i hi
    exact ⟨(World.ownsRow.cellAt h' _ (by omega)).trans q1, (World.ownsRow.cellAt h' _ (by omega)).trans q2, (World.ownsRow.cellAt h' _ (by omega)).trans q3⟩
theorem Ls3.own (h : Ls3 te w base v L) : ∀ k, v.ownBlock = some k → base ≤ k ∧ k < w.heap.size := World.ownsRow.lt h
end
/-- append of one to such a list. -/
theorem wpList_append3 {te ts : TypeId} (hu : Try.prog.underlying ts = some (.slice te)) (hi : (Try.prog.info? te).map (fun i => (i.zero, i.size, i.bytes)) = some (some (.agg #[.int .i64 0, .int .i64 0, .int .i64 0]), 3, 24))
    {w : World} {ops : Array Oper} {rest : List Oper} {o : Oper} {a : Act} {Q : Exit → Act → World → Prop} (hgd : o.guard = none) (s x : Operand)
    (ho : o.op = .call { callee := .builtin .append, args := #[s, x], argTypes := #[ts, ts] }) (base : Nat) (v : Value) (L : List (Int × Int × Int)) (p q r : Int) (b c : Nat) (hs : a.eval s = v) (hx : a.eval x = .slice (some ⟨b, 0, none⟩) 1 c)
    (hX : Ls3 te w base v L) (h0 : w.cell? ⟨b, 0, none⟩ = some (.int .i64 p)) (h1 : w.cell? ⟨b, 1, none⟩ = some (.int .i64 q)) (h2 : w.cell? ⟨b, 2, none⟩ = some (.int .i64 r)) (hn : L.length ≤ 1000000) (hb : base ≤ w.heap.size)
    (hK : ∀ v' w', Ls3 te w' base v' (L ++ [(p, q, r)]) → w.grownBy w' v.ownBlock → wpList Try.prog ops Q rest (a.put o.dst v') w') : wpList Try.prog ops Q (o :: rest) a w := by
  obtain ⟨i0, hi, hz0, hz1, hz2⟩ := info_parts hi
  refine wpList_append_own w hgd s x ts ho base te i0 (.agg #[.int .i64 0, .int .i64 0, .int .i64 0]) 3 24 hu hi hz0 hz1 hz2 rfl (by decide) v L.length _ hs hX ⟨b, 0, none⟩ 1 c [.int .i64 p, .int .i64 q, .int .i64 r] hx rfl (fun j u hu => ?_) (fun u hu => ?_) (by unfold maxLen; omega) (by omega) hb (fun v' w' k1 k2 _ => hK v' w' ?_ k2)
  · have hj : j < 3 := by have := (List.getElem?_eq_some_iff.1 hu).1; simpa using this
    have e : (⟨b, 0, none⟩ : Addr).add j = ⟨b, j, none⟩ := by unfold Addr.add; split <;> simp_all
    rw [e]
    match j, hj with
    | 0, _ => rw [h0]; simpa using hu
    | 1, _ => rw [h1]; simpa using hu
    | 2, _ => rw [h2]; simpa using hu
  · simp at hu
    rcases hu with rfl | rfl | rfl <;> rfl
  · unfold Ls3
    rw [List.length_append, cs3_snoc]
    exact k1
end Go.Proofs.Ytpgcfnpnpmpkeaa
