/- Package lex over the loaded program: Tokens: append of a token in a round; what the round keeps. -/
import Derived.Test.YtpgcfnpnpmpkeaaD8
import Derived.OwnWalkIn
import Derived.Maps.AppendAt
namespace Go.Proofs.Ytpgcfnpnpmpkeaa
open Go.RowKit Go.Shelf
theorem info_ltok : (Try.prog.info? 31).map (fun i => (i.zero, i.size, i.bytes)) = some (some (.agg #[.int .i64 0, .int .i64 0, .int .i64 0]), 3, 24) := by kernel_rfl
/-- append of one to a list of structs of three ints, in a round; where the new list lies. -/
theorem wpListIn_append3 {F : Fence} {m : Nat} {te ts : TypeId} (hu : Try.prog.underlying ts = some (.slice te)) (hi : (Try.prog.info? te).map (fun i => (i.zero, i.size, i.bytes)) = some (some (.agg #[.int .i64 0, .int .i64 0, .int .i64 0]), 3, 24))
    {w : World} {ops : Array Oper} {rest : List Oper} {o : Oper} {a : Act} {Q : Exit → Act → World → Prop} (hgd : o.guard = none) (s x : Operand)
    (ho : o.op = .call { callee := .builtin .append, args := #[s, x], argTypes := #[ts, ts] }) (base : Nat) (v : Value) (L : List (Int × Int × Int)) (p q r : Int) (b c : Nat) (hs : a.eval s = v) (hx : a.eval x = .slice (some ⟨b, 0, none⟩) 1 c)
    (hX : Ls3 te w base v L) (h0 : w.cell? ⟨b, 0, none⟩ = some (.int .i64 p)) (h1 : w.cell? ⟨b, 1, none⟩ = some (.int .i64 q)) (h2 : w.cell? ⟨b, 2, none⟩ = some (.int .i64 r)) (hn : L.length ≤ 1000000) (hb : base ≤ w.heap.size)
    (hK : ∀ v' w', Ls3 te w' base v' (L ++ [(p, q, r)]) → w.grownBy w' v.ownBlock → (v'.ownBlock = v.ownBlock ∨ v'.ownBlock = some w.heap.size) → wpListIn F m Try.prog ops Q rest (a.put o.dst v') w') : wpListIn F m Try.prog ops Q (o :: rest) a w := by
  obtain ⟨i0, hi, hz0, hz1, hz2⟩ := info_parts hi
  refine wpListIn_plain hgd fun K hK' => ?_
  obtain ⟨v', w', hrun, r1, r2, -, r4⟩ := run_append_own_at (P := Try.prog) w base ts o.type te i0 (.agg #[.int .i64 0, .int .i64 0, .int .i64 0]) 3 24 hu hi hz0 hz1 hz2 rfl (by decide) v L.length _ hX ⟨b, 0, none⟩ 1 c [.int .i64 p, .int .i64 q, .int .i64 r] rfl (fun j u hu => by
    have hj : j < 3 := by have := (List.getElem?_eq_some_iff.1 hu).1; simpa using this
    have e : (⟨b, 0, none⟩ : Addr).add j = ⟨b, j, none⟩ := by unfold Addr.add; split <;> simp_all
    rw [e]
    match j, hj with
    | 0, _ => rw [h0]; simpa using hu
    | 1, _ => rw [h1]; simpa using hu
    | 2, _ => rw [h2]; simpa using hu) (fun u hu => by
    simp at hu
    rcases hu with rfl | rfl | rfl <;> rfl) (by unfold maxLen; omega) (by omega) hb
  unfold Oper.wpIn
  refine ⟨?_, ?_⟩
  · simp [Oper.about, ho, resolve, Target.leads, Sem.run_pure]
  · rw [Oper.semAt_plain F _ _ (by rw [ho]; intro c hc'; cases hc')]
    simp [execOp, ho, resolve, invoke, builtin, hs, hx, hrun, Result.andThen]
    refine hK' _ _ (hK v' w' ?_ r2 r4)
    unfold Ls3
    rw [List.length_append, cs3_snoc]
    exact r1
theorem Ls3.block {te : TypeId} {w : World} {base g : Nat} {v : Value} {L : List (Int × Int × Int)} (h : Ls3 te w base v L) (e : v.ownBlock = some g) : ∃ cur, w.heap[g]? = some (.cells cur te (0, 0)) := by
  obtain ⟨_, h2⟩ := h
  rcases h2 with ⟨rfl, _⟩ | ⟨g', cap, cur, rfl, _, h4, _⟩
  · cases e
  · have e' := Option.some.inj e
    exact ⟨cur, e' ▸ h4⟩
theorem Ls3.grown {te : TypeId} {w w' : World} {base : Nat} {v : Value} {L : List (Int × Int × Int)} {row : Option Nat} (h : Ls3 te w base v L) (hg : w.grownBy w' row) (hr : ∀ r, row = some r → ∃ o : Obj, w.heap[r]? = some o ∧ o.isCells = false) : Ls3 te w' base v L :=
  h.keep (fun g hv => hg.block g (h.own g hv).2 (fun e => by
    obtain ⟨o, ho, hc⟩ := hr g e.symm
    obtain ⟨cur, hb⟩ := h.block hv
    have := ho.symm.trans hb
    injection this with this
    rw [this] at hc
    cases hc))
/-- What lies in the boxes of Tokens. -/
structure TkI (w : World) (L : List Tk) (v : Value) (W : World) : Prop where
  c2 : W.cell? ⟨w.heap.size, 0, none⟩ = some (.slice none 0 0) ∧ W.frozen? ⟨w.heap.size, 0, none⟩ = false
  c3 : W.cell? ⟨w.heap.size + 1, 0, none⟩ = some (.int .i64 0) ∧ W.frozen? ⟨w.heap.size + 1, 0, none⟩ = false
  c4 : W.cell? ⟨w.heap.size + 1 + 1, 0, none⟩ = some (.int .i64 0) ∧ W.frozen? ⟨w.heap.size + 1 + 1, 0, none⟩ = false
  cl : W.cell? ⟨w.heap.size + 1 + 1 + 1, 0, none⟩ = some v ∧ W.frozen? ⟨w.heap.size + 1 + 1 + 1, 0, none⟩ = false
  ls : Ls3 31 W (w.heap.size + 7) v (tok3 L)
  bel : Below w.heap.size w W
  size : w.heap.size + 5 ≤ W.heap.size
theorem TkI.gr {w A B : World} {L : List Tk} {v : Value} (h : TkI w L v A) (hg : IsGr A B) : TkI w L v B :=
  ⟨⟨cellk h.c2.1 hg, frzk h.c2.1 h.c2.2 hg⟩, ⟨cellk h.c3.1 hg, frzk h.c3.1 h.c3.2 hg⟩, ⟨cellk h.c4.1 hg, frzk h.c4.1 h.c4.2 hg⟩, ⟨cellk h.cl.1 hg, frzk h.cl.1 h.cl.2 hg⟩, h.ls.gr hg, h.bel.trans (hg.below.mono h.bel.size), Nat.le_trans h.size hg.size⟩
theorem TkI.grown {w A B : World} {L : List Tk} {v : Value} {N : Nat} {row : Option Nat} (h : TkI w L v A) (hN : w.heap.size ≤ N) (hg : A.grownBy B row) (hr : ∀ r, row = some r → N ≤ r ∧ ∃ o : Obj, A.heap[r]? = some o ∧ o.isCells = false) : TkI w L v B :=
  ⟨⟨cell_kept h.c2.1 hg (fun r e => (hr r e).2), (frozen_kept h.c2.1 hg (fun r e => (hr r e).2)).trans h.c2.2⟩, ⟨cell_kept h.c3.1 hg (fun r e => (hr r e).2), (frozen_kept h.c3.1 hg (fun r e => (hr r e).2)).trans h.c3.2⟩,
    ⟨cell_kept h.c4.1 hg (fun r e => (hr r e).2), (frozen_kept h.c4.1 hg (fun r e => (hr r e).2)).trans h.c4.2⟩, ⟨cell_kept h.cl.1 hg (fun r e => (hr r e).2), (frozen_kept h.cl.1 hg (fun r e => (hr r e).2)).trans h.cl.2⟩,
    h.ls.grown hg (fun r e => (hr r e).2), h.bel.trans ((Below.refl _ A).grown hg h.bel.size (fun r e => Nat.le_trans hN (hr r e).1)), Nat.le_trans h.size hg.size⟩
/-- What is behind an early end. -/
structure TkX (w : World) (s : ByteArray) (W : World) : Prop where
  q : ∃ tl q, tks (bts s) 0 = (tl, some q) ∧ W.cell? ⟨w.heap.size + 1, 0, none⟩ = some (.int .i64 (q : Nat))
  c2 : W.cell? ⟨w.heap.size, 0, none⟩ = some (.slice none 0 0)
  c4 : W.cell? ⟨w.heap.size + 1 + 1, 0, none⟩ = some (.int .i64 21)
  bel : Below w.heap.size w W
theorem TkX.gr {w A B : World} {s : ByteArray} (h : TkX w s A) (hg : IsGr A B) : TkX w s B :=
  ⟨by obtain ⟨tl, q, h1, h2⟩ := h.q; exact ⟨tl, q, h1, cellk h2 hg⟩, cellk h.c2 hg, cellk h.c4 hg, h.bel.trans (hg.below.mono h.bel.size)⟩
theorem TkX.grown {w A B : World} {s : ByteArray} {N : Nat} {row : Option Nat} (h : TkX w s A) (hN : w.heap.size ≤ N) (hg : A.grownBy B row) (hr : ∀ r, row = some r → N ≤ r ∧ ∃ o : Obj, A.heap[r]? = some o ∧ o.isCells = false) : TkX w s B :=
  ⟨by obtain ⟨tl, q, h1, h2⟩ := h.q; exact ⟨tl, q, h1, cell_kept h2 hg (fun r e => (hr r e).2)⟩, cell_kept h.c2 hg (fun r e => (hr r e).2), cell_kept h.c4 hg (fun r e => (hr r e).2), h.bel.trans ((Below.refl _ A).grown hg h.bel.size (fun r e => Nat.le_trans hN (hr r e).1))⟩
/-- A round that has appended: the list's block alone has turned, and its box. -/
theorem kpO_app {w W W1 w9 : World} {L L' : List Tk} {v v9 : Value} {Z : List Nat} (hI : TkI w L v W) (hg1 : IsGr W W1) (hg : W1.grownBy w9 v.ownBlock) (hb : v9.ownBlock = v.ownBlock ∨ v9.ownBlock = some W1.heap.size) (h9 : Ls3 31 w9 (w.heap.size + 7) v9 (tok3 L')) (hZ : ∀ z ∈ Z, z = w.heap.size + 4) :
    (KpO (some (w.heap.size + 3)) (w.heap.size + 7) Z W (w9.setCell ⟨w.heap.size + 1 + 1 + 1, 0, none⟩ v9) ∧ ∀ k, k = w.heap.size + 5 ∨ k = w.heap.size + 6 → k < W.heap.size → (w9.setCell ⟨w.heap.size + 1 + 1 + 1, 0, none⟩ v9).heap[k]? = W.heap[k]?) ∧ TkI w L' v9 (w9.setCell ⟨w.heap.size + 1 + 1 + 1, 0, none⟩ v9) := by
  have hsz : W.heap.size ≤ w9.heap.size := Nat.le_trans hg1.size hg.size
  have hs5 := hI.size
  have hlo : ∀ k, v.ownBlock = some k → w.heap.size + 7 ≤ k ∧ k < W.heap.size := hI.ls.own
  have bk : ∀ k, k < W.heap.size → v.ownBlock ≠ some k → k ≠ w.heap.size + 1 + 1 + 1 → (w9.setCell ⟨w.heap.size + 1 + 1 + 1, 0, none⟩ v9).heap[k]? = W.heap[k]? := fun k hk hv hne =>
    (set_block _ _ _ _ _ hne).trans ((hg.block k (Nat.lt_of_lt_of_le hk hg1.size) (Ne.symm hv)).trans (hg1.below.block k hk))
  have low : ∀ k, k < w.heap.size + 7 → v.ownBlock ≠ some k := fun k hk e => by have := (hlo k e).1; omega
  have cc : ∀ (k : Nat) (u : Value), k < w.heap.size + 3 → W.cell? ⟨k, 0, none⟩ = some u ∧ W.frozen? ⟨k, 0, none⟩ = false → (w9.setCell ⟨w.heap.size + 1 + 1 + 1, 0, none⟩ v9).cell? ⟨k, 0, none⟩ = some u ∧ (w9.setCell ⟨w.heap.size + 1 + 1 + 1, 0, none⟩ v9).frozen? ⟨k, 0, none⟩ = false := fun k u hk h => by
    have e := bk k (by omega) (low k (by omega)) (by omega)
    exact ⟨(World.cell?_of_block (a := ⟨k, 0, none⟩) e).trans h.1, (World.frozen?_of_block (a := ⟨k, 0, none⟩) e).trans h.2⟩
  have e9 : w9.heap[w.heap.size + 1 + 1 + 1]? = W.heap[w.heap.size + 1 + 1 + 1]? := (hg.block _ (Nat.lt_of_lt_of_le (by omega) hg1.size) (Ne.symm (low _ (by omega)))).trans (hg1.below.block _ (by omega))
  have c9 := (World.cell?_of_block (a := ⟨w.heap.size + 1 + 1 + 1, 0, none⟩) e9).trans hI.cl.1
  have f9 := (World.frozen?_of_block (a := ⟨w.heap.size + 1 + 1 + 1, 0, none⟩) e9).trans hI.cl.2
  have cN := cell_s (v := v9) c9
  have hOw : ∀ k, Ow (some (w.heap.size + 3)) (w9.setCell ⟨w.heap.size + 1 + 1 + 1, 0, none⟩ v9) k → v9.ownBlock = some k := fun k hk => by
    obtain ⟨b, u, h1, h2, h3⟩ := hk
    injection h1 with h1
    subst h1
    have := h2.symm.trans cN
    injection this with this
    rw [← this]; exact h3
  have hOv : ∀ k, v.ownBlock = some k → Ow (some (w.heap.size + 3)) W k := fun k hk => ⟨w.heap.size + 3, v, rfl, hI.cl.1, hk⟩
  refine ⟨⟨⟨by rw [set_size]; exact hsz, fun z hz => ?_, fun k hk hl ho => bk k hl (fun e => ho (hOv k e)) (by omega), fun k hk => ?_, fun _ k hk => by rw [set_size]; exact (h9.own k (hOw k hk)).2⟩, fun k hk hl => bk k hl (low k (by omega)) (by omega)⟩,
    ⟨cc _ _ (by omega) hI.c2, cc _ _ (by omega) hI.c3, cc _ _ (by omega) hI.c4, ⟨cN, by rw [World.frozen?_setCell]; exact f9⟩, h9.keep (fun g e => set_block _ _ _ _ _ (by have := (h9.own g e).1; omega)), ?_, by rw [set_size]; omega⟩⟩
  · have := hZ z hz
    exact bk z (by omega) (low z (by omega)) (by omega)
  · rcases hb with h | h
    · exact Or.inl (hOv k (h ▸ hOw k hk))
    · have h2 := hOw k hk
      rw [h] at h2
      injection h2 with h2
      exact Or.inr (by have := hg1.size; omega)
  · refine ((hI.bel.trans (hg1.below.mono hI.bel.size)).grown hg (Nat.le_trans hI.bel.size hg1.size) (fun r e => by have := (hlo r e).1; omega)).setCell (p := ⟨w.heap.size + 1 + 1 + 1, 0, none⟩) (by simp; omega) _
end Go.Proofs.Ytpgcfnpnpmpkeaa
