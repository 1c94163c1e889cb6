/- Lists that are read; what a call may have turned, told cell by cell. -/
import Derived.Test.YtfpifbfnebfdaaaDoorS2
import Derived.Deep.LoopGhost
import Derived.RangeFuncBox
import Derived.Laws.CopyOwn
import Derived.OwnWalk
import Derived.Laws.AppendOwnNone
import Derived.Deep.RegionWith
namespace Go.Proofs.YtfpifbfnebfdaaaDoor
open Go.RowKit Go.Shelf
/-- A list that is read. -/
def Rd (w : World) (v : Value) (l : List Int) : Prop := ∃ a c, v = .slice a l.length c ∧ l.length ≤ c ∧ Ins w a l.length l
theorem Ins.wr {S : List Nat} {w w' : World} {a : Option Addr} {n : Nat} {l : List Int} (h : Ins w a n l) (hg : Wr S w w') (hS : ∀ g, a.map (·.block) = some g → g ∉ S) : Ins w' a n l := by
  obtain ⟨h1, h2, h3⟩ := h
  refine ⟨h1, h2, ?_⟩
  rcases h3 with h3 | ⟨g, o, rfl, h4, h5⟩
  · exact Or.inl h3
  · exact Or.inr ⟨g, o, rfl, Nat.lt_of_lt_of_le h4 hg.size, fun i hi => cell_wr (h5 i hi) hg (hS g rfl)⟩
theorem Rd.wr {S : List Nat} {w w' : World} {v : Value} {l : List Int} (h : Rd w v l) (hg : Wr S w w') (hS : ∀ g, v.ownBlock = some g → g ∉ S) : Rd w' v l := by
  obtain ⟨a, c, rfl, hc, hI⟩ := h
  refine ⟨a, c, rfl, hc, hI.wr hg (fun g e => hS g ?_)⟩
  cases a with
  | none => cases e
  | some a => exact e
theorem Rd.gr {w w' : World} {v : Value} {l : List Int} (h : Rd w v l) (hg : IsGr w w') : Rd w' v l := h.wr (S := []) (Wr.of_gr hg) (by simp)
theorem Ins.of_lst {w : World} {base n c : Nat} {a : Option Addr} {l : List Int} (h : Lst w base (.slice a n c) l) (hi : ∀ x ∈ l, I64 x) : Ins w a n l := by
  obtain ⟨a', c', e, hf⟩ := h.form
  injection e with e1 e2 e3
  subst e1 e2
  refine ⟨rfl, hi, ?_⟩
  rcases hf with rfl | ⟨g, rfl, _, h2, h3⟩
  · exact Or.inl rfl
  · exact Or.inr ⟨g, 0, rfl, h2, fun i hi => by rw [Nat.zero_add]; exact h3 i hi⟩
theorem Rd.of_lst {w : World} {base : Nat} {v : Value} {l : List Int} (h : Lst w base v l) (hi : ∀ x ∈ l, I64 x) : Rd w v l := by
  obtain ⟨a, c, rfl, _⟩ := h.form
  exact ⟨a, c, rfl, h.cap, Ins.of_lst h hi⟩
theorem rd_tail {w : World} {g o o' m c : Nat} {l : List Int} (h : Rd w (.slice (some ⟨g, o, none⟩) m c) l) (ho : c = 1 ∧ o' = o ∨ o' = o + 1) : Rd w (.slice (some ⟨g, o', none⟩) (m - 1) (c - 1)) l.tail := by
  obtain ⟨a, c', e, hc, h1, h2, h3⟩ := h
  injection e with e1 e2 e3
  subst e1 e2 e3
  refine ⟨some ⟨g, o', none⟩, c - 1, by simp, by simp; omega, by simp, fun x hx => h2 x (List.mem_of_mem_tail hx), ?_⟩
  rcases ho with ⟨rfl, rfl⟩ | rfl
  · left; simp; omega
  · rcases h3 with h3 | ⟨g', o2, e, h4, h5⟩
    · left; simp; omega
    · injection e with e
      injection e with e1 e2
      subst e1 e2
      refine Or.inr ⟨g, o + 1, rfl, h4, fun i hi => ?_⟩
      simp at hi
      have := h5 (i + 1) (by omega)
      rw [show o + 1 + i = o + (i + 1) by omega, this]
      simp
theorem Lst.belowN {w w' : World} {base b : Nat} {v : Value} {L : List Int} (h : Lst w base v L) (hb : Below b w w') (hv : ∀ g, v.ownBlock = some g → g < b) : Lst w' base v L := by
  obtain ⟨h1, h2⟩ := h
  refine ⟨h1, ?_⟩
  rcases h2 with h2 | ⟨g, cap, cur, rfl, h3, h4, h5⟩
  · exact Or.inl h2
  · refine Or.inr ⟨g, cap, cur, rfl, h3, ?_, h5⟩
    rw [hb.block g (hv g rfl)]
    exact h4
theorem Lst.at {w : World} {base g n c : Nat} {L : List Int} (h : Lst w base (.slice (some ⟨g, 0, none⟩) n c) L) {i : Nat} (hi : i < n) : w.cell? ⟨g, i, none⟩ = some (.int .i64 (L.getD i 0)) ∧ w.frozen? ⟨g, i, none⟩ = false := by
  obtain ⟨a', c', e, _⟩ := h.form
  injection e with e1 e2 e3
  subst e2
  refine ⟨?_, World.ownsRow.frozenAt h i⟩
  rw [World.ownsRow.cellAt h i (by omega)]
  simp [hi, List.getD]
theorem Lst.put {w : World} {base g n c : Nat} {L : List Int} (h : Lst w base (.slice (some ⟨g, 0, none⟩) n c) L) (i : Nat) (x : Int) : Lst (w.setCell ⟨g, i, none⟩ (.int .i64 x)) base (.slice (some ⟨g, 0, none⟩) n c) (L.set i x) := by
  obtain ⟨a', c', e, _⟩ := h.form
  injection e with e1 e2 e3
  subst e2
  have := (World.ownsRow.stored h i (.int .i64 x)).1
  unfold Lst
  simpa [List.map_set] using this
theorem adr_add (g o j : Nat) : (⟨g, o, none⟩ : Addr).add j = ⟨g, o + j, none⟩ := by
  unfold Addr.add
  split
  · rename_i h; subst h; rfl
  · rfl
theorem Rd.below {w w' : World} {v : Value} {l : List Int} (h : Rd w v l) (hg : Below w.heap.size w w') : Rd w' v l := h.wr (S := []) (Wr.of_below hg) (by simp)
theorem Rd.nil (w : World) (a : Option Addr) (c : Nat) : Rd w (.slice a 0 c) [] := ⟨a, c, rfl, by simp, rfl, by simp, Or.inl rfl⟩
theorem Rd.ints {w : World} {v : Value} {l : List Int} (h : Rd w v l) : ∀ x ∈ l, I64 x := by
  obtain ⟨_, _, _, _, _, h, _⟩ := h
  exact h
theorem getD_ints {l : List Int} (h : ∀ x ∈ l, I64 x) {i : Nat} (hi : i < l.length) : I64 (l.getD i 0) := h _ (by simp only [List.getD, List.getElem?_eq_getElem hi, Option.getD_some]; exact List.getElem_mem hi)
/-- The cells of a list that is read, one by one. -/
theorem Rd.at {w : World} {a : Option Addr} {n c : Nat} {l : List Int} (h : Rd w (.slice a n c) l) {k : Nat} (hk : k < n) :
    ∃ g o, a = some ⟨g, o, none⟩ ∧ n = l.length ∧ n ≤ c ∧ I64 (l.getD k 0) ∧ g < w.heap.size ∧ w.cell? ⟨g, o + k, none⟩ = some (.int .i64 (l.getD k 0)) := by
  obtain ⟨a', c', e, hc, h⟩ := h
  injection e with e1 e2 e3
  subst e1 e2 e3
  obtain ⟨g, o, e, h1, h2⟩ := h.at hk
  have h3 := h2 w (Below.refl _ _)
  exact ⟨g, o, e, rfl, hc, h1, block_lt h3, h3⟩
theorem Rd.len {w : World} {a : Option Addr} {n c : Nat} {l : List Int} (h : Rd w (.slice a n c) l) : n = l.length ∧ n ≤ c := by
  obtain ⟨a', c', e, hc, h⟩ := h
  injection e with e1 e2 e3
  subst e1 e2 e3
  exact ⟨rfl, hc⟩
theorem Rd.form {w : World} {v : Value} {l : List Int} (h : Rd w v l) : ∃ a c, v = .slice a l.length c := by
  obtain ⟨a, c, e, _⟩ := h
  exact ⟨a, c, e⟩
/-- The block g holds the cells cur. -/
def Blk (w : World) (g : Nat) (cur : Array Value) : Prop := w.heap[g]? = some (.cells cur 3 (0, 0))
/-- From place o on the ints X stand in the cells. -/
def At (cur : Array Value) (o : Nat) (X : List Int) : Prop := ∀ i, i < X.length → cur[o + i]? = some (.int .i64 (X.getD i 0))
/-- From place o on the ints X stand in block g. -/
def Seg (w : World) (g o : Nat) (X : List Int) : Prop := ∃ cur, Blk w g cur ∧ At cur o X
/-- Only the cells D may have turned, and what is new. -/
structure Wq (D : Nat → Nat → Prop) (w w' : World) : Prop where
  os : w'.os = w.os
  tape : w'.tape = w.tape
  output : w'.output = w.output
  size : w.heap.size ≤ w'.heap.size
  block : ∀ k, k < w.heap.size → (∀ i, ¬ D k i) → w'.heap[k]? = w.heap[k]?
  cells : ∀ k cur, Blk w k cur → ∃ cur', Blk w' k cur' ∧ cur'.size = cur.size ∧ ∀ i, ¬ D k i → cur'[i]? = cur[i]?
theorem Blk.lt {w : World} {g : Nat} {cur : Array Value} (h : Blk w g cur) : g < w.heap.size := (Array.getElem?_eq_some_iff.1 h).1
theorem Wq.refl (D : Nat → Nat → Prop) (w : World) : Wq D w w := ⟨rfl, rfl, rfl, Nat.le_refl _, fun _ _ _ => rfl, fun _ cur h => ⟨cur, h, rfl, fun _ _ => rfl⟩⟩
theorem Wq.of_below (D : Nat → Nat → Prop) {w w' : World} (h : Below w.heap.size w w') : Wq D w w' :=
  ⟨h.os, h.tape, h.output, h.size, fun k hk _ => h.block k hk, fun k cur hc => ⟨cur, (h.block k hc.lt).trans hc, rfl, fun _ _ => rfl⟩⟩
theorem Wq.of_gr (D : Nat → Nat → Prop) {w w' : World} (h : IsGr w w') : Wq D w w' := Wq.of_below D h.below
theorem Wq.trans {D : Nat → Nat → Prop} {w w' w'' : World} (h : Wq D w w') (k : Wq D w' w'') : Wq D w w'' :=
  ⟨k.os.trans h.os, k.tape.trans h.tape, k.output.trans h.output, Nat.le_trans h.size k.size, fun j hj hn => (k.block j (Nat.lt_of_lt_of_le hj h.size) hn).trans (h.block j hj hn), fun j cur hc => by
    obtain ⟨c1, h1, h2, h3⟩ := h.cells j cur hc
    obtain ⟨c2, k1, k2, k3⟩ := k.cells j c1 h1
    exact ⟨c2, k1, k2.trans h2, fun i hi => (k3 i hi).trans (h3 i hi)⟩⟩
theorem Wq.mono {D D' : Nat → Nat → Prop} {w w' : World} (h : Wq D w w') (hd : ∀ k i, k < w.heap.size → D k i → D' k i) : Wq D' w w' :=
  ⟨h.os, h.tape, h.output, h.size, fun k hk hn => h.block k hk (fun i hi => hn i (hd k i hk hi)), fun k cur hc => by
    obtain ⟨c1, h1, h2, h3⟩ := h.cells k cur hc
    exact ⟨c1, h1, h2, fun i hi => h3 i (fun e => hi (hd k i hc.lt e))⟩⟩
theorem Wq.wr {D : Nat → Nat → Prop} {S : List Nat} {w w' : World} (h : Wq D w w') (hd : ∀ k i, k < w.heap.size → D k i → k ∈ S) : Wr S w w' :=
  ⟨h.os, h.tape, h.output, h.size, fun k hk hn => h.block k hk (fun i hi => hn (hd k i hk hi))⟩
theorem Blk.cell {w : World} {g : Nat} {cur : Array Value} (h : Blk w g cur) (i : Nat) : w.cell? ⟨g, i, none⟩ = cur[i]? := by simp [World.cell?, show w.heap[g]? = _ from h]
theorem Blk.frozen {w : World} {g : Nat} {cur : Array Value} (h : Blk w g cur) (i : Nat) : w.frozen? ⟨g, i, none⟩ = false := by simp [World.frozen?, show w.heap[g]? = _ from h]
theorem Blk.gr {w w' : World} {g : Nat} {cur : Array Value} (h : Blk w g cur) (hg : IsGr w w') : Blk w' g cur := (hg.below.block g h.lt).trans h
theorem Blk.below {w w' : World} {g : Nat} {cur : Array Value} (h : Blk w g cur) (hg : Below w.heap.size w w') : Blk w' g cur := (hg.block g h.lt).trans h
theorem Seg.below {w w' : World} {g o : Nat} {X : List Int} (h : Seg w g o X) (hg : Below w.heap.size w w') : Seg w' g o X := by
  obtain ⟨cur, h1, h2⟩ := h
  exact ⟨cur, h1.below hg, h2⟩
theorem Seg.gr {w w' : World} {g o : Nat} {X : List Int} (h : Seg w g o X) (hg : IsGr w w') : Seg w' g o X := h.below hg.below
theorem Seg.wq {D : Nat → Nat → Prop} {w w' : World} {g o : Nat} {X : List Int} (h : Seg w g o X) (hg : Wq D w w') (hd : ∀ i, i < X.length → ¬ D g (o + i)) : Seg w' g o X := by
  obtain ⟨cur, h1, h2⟩ := h
  obtain ⟨c1, k1, _, k3⟩ := hg.cells g cur h1
  exact ⟨c1, k1, fun i hi => (k3 _ (hd i hi)).trans (h2 i hi)⟩
theorem Seg.at {w : World} {g o : Nat} {X : List Int} (h : Seg w g o X) {i : Nat} (hi : i < X.length) : w.cell? ⟨g, o + i, none⟩ = some (.int .i64 (X.getD i 0)) := by
  obtain ⟨cur, h1, h2⟩ := h
  rw [h1.cell]; exact h2 i hi
theorem Seg.lt {w : World} {g o : Nat} {X : List Int} (h : Seg w g o X) : g < w.heap.size := by
  obtain ⟨cur, h1, _⟩ := h
  exact h1.lt
theorem Seg.rd {w : World} {g o n c : Nat} {X : List Int} (h : Seg w g o X) (hn : n = X.length) (hc : n ≤ c) (hi : ∀ x ∈ X, I64 x) : Rd w (.slice (some ⟨g, o, none⟩) n c) X :=
  ⟨_, c, by rw [hn], hn ▸ hc, rfl, hi, Or.inr ⟨g, o, rfl, h.lt, fun i hi => h.at hi⟩⟩
theorem getD_take {l : List Int} {m i : Nat} (h : i < m) : (l.take m).getD i 0 = l.getD i 0 := by
  simp only [List.getD_eq_getElem?_getD, List.getElem?_take, if_pos h]
theorem getD_drop {l : List Int} {m i : Nat} : (l.drop m).getD i 0 = l.getD (m + i) 0 := by
  simp only [List.getD_eq_getElem?_getD, List.getElem?_drop]
theorem Seg.take {w : World} {g o : Nat} {X : List Int} (h : Seg w g o X) (m : Nat) : Seg w g o (X.take m) := by
  obtain ⟨cur, h1, h2⟩ := h
  exact ⟨cur, h1, fun i hi => by rw [List.length_take] at hi; rw [getD_take (by omega)]; exact h2 i (by omega)⟩
theorem Seg.drop {w : World} {g o : Nat} {X : List Int} (h : Seg w g o X) (m : Nat) : Seg w g (o + m) (X.drop m) := by
  obtain ⟨cur, h1, h2⟩ := h
  exact ⟨cur, h1, fun i hi => by rw [List.length_drop] at hi; rw [getD_drop, Nat.add_assoc]; exact h2 (m + i) (by omega)⟩
theorem Seg.append {w : World} {g o : Nat} {X Y : List Int} (h : Seg w g o X) (k : Seg w g (o + X.length) Y) : Seg w g o (X ++ Y) := by
  obtain ⟨cur, h1, h2⟩ := h
  obtain ⟨cur', k1, k2⟩ := k
  have e : cur' = cur := by
    have := (show w.heap[g]? = _ from k1).symm.trans h1
    injection this with this
    injection this
  subst e
  refine ⟨cur', h1, fun i hi => ?_⟩
  by_cases hx : i < X.length
  · rw [h2 i hx]
    simp only [List.getD_eq_getElem?_getD, List.getElem?_append_left hx]
  · have := k2 (i - X.length) (by simp at hi; omega)
    rw [show o + X.length + (i - X.length) = o + i by omega] at this
    rw [this]
    simp only [List.getD_eq_getElem?_getD, List.getElem?_append_right (Nat.not_lt.1 hx)]
theorem Wq.set1 {w : World} {g : Nat} {cur : Array Value} (h : Blk w g cur) (o : Nat) (v : Value) : Wq (fun k i => k = g ∧ i = o) w (w.setCell ⟨g, o, none⟩ v) ∧ Blk (w.setCell ⟨g, o, none⟩ v) g (cur.setIfInBounds o v) := by
  have e := setCell_eq_setRow w g o cur 3 (0, 0) v h
  have hb : Blk (w.setCell ⟨g, o, none⟩ v) g (cur.setIfInBounds o v) := by
    rw [e]; exact setRow_heap w g cur _ 3 _ h
  refine ⟨⟨rfl, rfl, rfl, by rw [set_size]; exact Nat.le_refl _, fun k hk hn => set_block _ _ _ _ _ (fun e => hn o ⟨e, rfl⟩), fun k c hc => ?_⟩, hb⟩
  by_cases hk : k = g
  · subst hk
    have e : c = cur := by
      have := (show w.heap[k]? = _ from hc).symm.trans h
      injection this with this
      injection this
    subst e
    refine ⟨_, hb, by simp, fun i hi => ?_⟩
    rw [Array.getElem?_setIfInBounds, if_neg (fun e => hi ⟨rfl, e.symm⟩)]
  · exact ⟨c, (set_block _ _ _ _ _ hk).trans hc, rfl, fun _ _ => rfl⟩
theorem Blk.sets {g : Nat} : ∀ (vs : List Value) (o : Nat) (w : World) (cur : Array Value), Blk w g cur → o + vs.length ≤ cur.size →
    Wq (fun k i => k = g ∧ o ≤ i ∧ i < o + vs.length) w (w.setCells g o vs) ∧ ∃ cur', Blk (w.setCells g o vs) g cur' ∧ cur'.size = cur.size ∧ (∀ i, i < o ∨ o + vs.length ≤ i → cur'[i]? = cur[i]?) ∧ ∀ i, i < vs.length → cur'[o + i]? = vs[i]?
  | [], o, w, cur, h, _ => ⟨Wq.refl _ _, cur, h, rfl, fun _ _ => rfl, fun i hi => by simp at hi⟩
  | v :: vs, o, w, cur, h, hf => by
    obtain ⟨h1, h2⟩ := Wq.set1 h o v
    simp only [List.length_cons] at hf
    obtain ⟨k1, c', k2, k3, k4, k5⟩ := Blk.sets vs (o + 1) _ _ h2 (by simp; omega)
    refine ⟨(h1.mono (fun k i _ ⟨e1, e2⟩ => ⟨e1, by simp only [List.length_cons]; omega⟩)).trans (k1.mono (fun k i _ ⟨e1, e2⟩ => ⟨e1, by simp only [List.length_cons]; omega⟩)), c', k2, by rw [k3]; simp, fun i hi => ?_, fun i hi => ?_⟩
    · simp only [List.length_cons] at hi
      rw [k4 i (by omega), Array.getElem?_setIfInBounds, if_neg (by omega)]
    · cases i with
      | zero =>
        rw [Nat.add_zero, k4 o (by omega), Array.getElem?_setIfInBounds, if_pos rfl, if_pos (by omega)]
        rfl
      | succ i =>
        simp only [List.length_cons] at hi
        have := k5 i (by omega)
        rw [show o + 1 + i = o + (i + 1) by omega] at this
        rw [this]
        rfl
/-- Ints laid one behind the other into a block. -/
theorem Blk.put {w : World} {g : Nat} {cur : Array Value} (h : Blk w g cur) (o : Nat) (X : List Int) (hf : o + X.length ≤ cur.size) :
    Wq (fun k i => k = g ∧ o ≤ i ∧ i < o + X.length) w (w.setCells g o (X.map fun x => .int .i64 x)) ∧ Seg (w.setCells g o (X.map fun x => .int .i64 x)) g o X := by
  obtain ⟨h1, c', h2, _, _, h5⟩ := Blk.sets (X.map fun x => .int .i64 x) o w cur h (by simpa using hf)
  rw [List.length_map] at h1
  refine ⟨h1, c', h2, fun i hi => ?_⟩
  rw [h5 i (by simpa using hi)]
  simp [List.getD, hi]
/-- A nil slice has no room. -/
def Zn (v : Value) : Prop := ∀ n c, v = .slice none n c → c = 0
theorem Lst.zn {w : World} {base : Nat} {v : Value} {L : List Int} (h : Lst w base v L) : Zn v := fun n c e => by
  obtain ⟨_, h2⟩ := h
  rcases h2 with ⟨h2, _⟩ | ⟨g, cap, cur, h2, _⟩
  · rw [h2] at e; injection e with _ _ e; exact e.symm
  · rw [h2] at e; injection e with e; cases e
theorem zn_some (a : Addr) (n c : Nat) : Zn (.slice (some a) n c) := fun _ _ e => by injection e with e; cases e
set_option maxRecDepth 20000 in
/-- append of a whole list that is read. -/
theorem wpList_append_all {w : World} {ops : Array Oper} {rest : List Oper} {o : Oper} {a : Act} {Q : Exit → Act → World → Prop} (hgd : o.guard = none) (s x : Operand)
    (ho : o.op = .call { callee := .builtin .append, args := #[s, x], argTypes := #[27, 27] }) (base : Nat) (v vx : Value) (X L : List Int) (hs : a.eval s = v) (hx : a.eval x = vx)
    (hX : Lst w base v X) (hL : Rd w vx L) (hz : Zn vx) (hn : X.length + L.length ≤ 2000) (hb : base ≤ w.heap.size)
    (hK : ∀ v' w', Lst w' base v' (X ++ L) → w.grownBy w' v.ownBlock → wpList Tryd.prog ops Q rest (a.put o.dst v') w') : wpList Tryd.prog ops Q (o :: rest) a w := by
  obtain ⟨i0, hi, hz0, hz1, hz2⟩ := info_parts info_int
  obtain ⟨ax, c, rfl, hc, h1, h2, h3⟩ := hL
  cases ax with
  | none =>
    have h0 : L = [] := by
      rcases h3 with h3 | ⟨g, o, e, _⟩
      · exact List.length_eq_zero_iff.1 h3
      · cases e
    subst h0
    have hc0 := hz _ _ rfl
    subst hc0
    exact wpList_append_own_none hgd s x 27 ho base 3 i0 1 Tryd.underlying27 hi v X.length _ hs hX hx (hK v w (by simpa using hX) ⟨rfl, rfl, rfl, Nat.le_refl _, fun _ _ _ => rfl⟩)
  | some ad =>
    refine wpList_append_own w hgd s x 27 ho base 3 i0 (.int .i64 0) 1 8 Tryd.underlying27 hi hz0 hz1 hz2 rfl (by decide) v X.length _ hs hX ad L.length c (L.map fun x => .int .i64 x) hx (by simp) (fun j u hu => ?_) (fun u hu => by simp at hu; obtain ⟨x, _, rfl⟩ := hu; rfl) (by unfold maxLen; omega) (by omega) hb (fun v' w' k1 k2 _ => hK v' w' ?_ k2)
    · have hj : j < L.length := by have := (List.getElem?_eq_some_iff.1 hu).1; simpa using this
      rcases h3 with h3 | ⟨g, o, e, _, h5⟩
      · omega
      · injection e with e
        subst e
        rw [adr_add, h5 j hj]
        simp [hj] at hu
        simp [List.getD, hj, hu]
    · unfold Lst; rw [List.map_append, List.length_append]; exact k1
/-- What make has left: in world W, at b. -/
def MkR (W w' : World) (b n : Nat) : Prop := b = W.heap.size ∧ (∃ cur, Blk w' b cur ∧ cur.size = n) ∧ Below W.heap.size W w'
theorem mk_row {W w' : World} {m n : Nat} {xs : List Value} (h1 : w'.ownsRow W.heap.size 3 1 (.slice (some ⟨W.heap.size, 0, none⟩) m n) m xs) (h2 : W.grownBy w' none) : MkR W w' W.heap.size n := by
  refine ⟨rfl, ?_, (Below.refl _ W).grown h2 (Nat.le_refl _) (fun k e => by cases e)⟩
  rcases h1.2 with ⟨e, _⟩ | ⟨g, cap, cur, e, _, h4, _, _, h6, _⟩
  · injection e with e; cases e
  · injection e with e1 e2 e3
    injection e1 with e1
    injection e1 with e1
    subst e1 e3
    exact ⟨cur, h4, by omega⟩
/-- A new list of so many noughts. -/
theorem step_make_full {w : World} {ops : Array Oper} {o : Oper} {a : Act} {K : Act → World → Prop} {Q : Exit → Act → World → Prop} {E : Prop} (hgd : o.guard = none) (l : Operand) (hop : o.op = Op.makeSlice 27 l l) (n : Nat) (hl : a.eval l = .int .i64 (n : Int)) (hn : n ≤ 2000)
    (hK : ∀ w' b, Hid (MkR w w' b n) → K (a.put o.dst (.slice (some ⟨b, 0, none⟩) n n)) w') : if Region.wanted o (yielded ops a.tmps) = true then Oper.wp Tryd.prog o a w K Q else E := by
  have hw : Region.wanted o (yielded ops a.tmps) = true := by simp [Region.wanted, hgd]
  rw [if_pos hw]
  obtain ⟨i0, hi, hz0, hz1, hz2⟩ := info_parts info_int
  obtain ⟨w', hrun, r1, r2⟩ := run_make_full (P := Tryd.prog) w w.heap.size 27 3 i0 (.int .i64 0) 1 Tryd.underlying27 hi hz0 hz1 .i64 .i64 n (by rw [hz2]; omega) (by unfold maxLen; omega) (Nat.le_refl _)
  unfold Oper.wp
  simp [execOp, hop, hl, hrun, Result.andThen]
  exact hK w' _ (mk_row r1 r2)
/-- A new list with room for so many. -/
theorem step_make_own {w : World} {ops : Array Oper} {o : Oper} {a : Act} {K : Act → World → Prop} {Q : Exit → Act → World → Prop} {E : Prop} (hgd : o.guard = none) (l c : Operand) (hop : o.op = Op.makeSlice 27 l c) (n : Nat) (C : Int) (hl : a.eval l = .int .i64 0) (hc : a.eval c = .int .i64 C) (hC : C = (n : Int)) (hn : n ≤ 2000)
    (hK : ∀ w' b, Hid (MkR w w' b n) → K (a.put o.dst (.slice (some ⟨b, 0, none⟩) 0 n)) w') : if Region.wanted o (yielded ops a.tmps) = true then Oper.wp Tryd.prog o a w K Q else E := by
  have hw : Region.wanted o (yielded ops a.tmps) = true := by simp [Region.wanted, hgd]
  rw [if_pos hw]
  subst hC
  obtain ⟨i0, hi, hz0, hz1, hz2⟩ := info_parts info_int
  obtain ⟨w', hrun, r1, r2⟩ := run_make_own (P := Tryd.prog) w w.heap.size 27 3 i0 (.int .i64 0) 1 Tryd.underlying27 hi hz0 hz1 .i64 .i64 n (by rw [hz2]; omega) (by unfold maxLen; omega) (Nat.le_refl _)
  unfold Oper.wp
  simp [execOp, hop, hl, hc, hrun, Result.andThen]
  exact hK w' _ (mk_row r1 r2)
theorem Lst.seg {w : World} {base g n c : Nat} {L : List Int} (h : Lst w base (.slice (some ⟨g, 0, none⟩) n c) L) : Seg w g 0 L := by
  obtain ⟨h1, h2⟩ := h
  rcases h2 with ⟨e, _⟩ | ⟨g', cap, cur, e, _, h4, h5, _, h6, h7⟩
  · injection e with e; cases e
  · injection e with e1 e2 e3
    injection e1 with e1
    injection e1 with e1
    subst e1
    refine ⟨cur, h4, fun i hi => ?_⟩
    have h8 := congrArg (fun z => z[i]?) h7
    simp only [List.getElem?_take, List.getElem?_map] at h8
    rw [if_pos (by omega)] at h8
    rw [Nat.zero_add, ← Array.getElem?_toList, h8]
    simp [List.getD, hi]
/-- The same list, with other things in it. -/
theorem Lst.again {D : Nat → Nat → Prop} {w w' : World} {base g n c : Nat} {L L' : List Int} (h : Lst w base (.slice (some ⟨g, 0, none⟩) n c) L) (hw : Wq D w w') (hs : Seg w' g 0 L') (hl : L'.length = L.length) : Lst w' base (.slice (some ⟨g, 0, none⟩) n c) L' := by
  obtain ⟨h1, h2⟩ := h
  rcases h2 with ⟨e, _⟩ | ⟨g', cap, cur, e, hb, h4, h5, h6, h7, h8⟩
  · injection e with e; cases e
  · injection e with e1 e2 e3
    injection e1 with e1
    injection e1 with e1
    subst e1 e2 e3
    obtain ⟨c', k1, k2, _⟩ := hw.cells g cur h4
    obtain ⟨c2, q1, q2⟩ := hs
    have e : c2 = c' := by
      have := (show w'.heap[g]? = _ from q1).symm.trans k1
      injection this with this
      injection this
    subst e
    refine ⟨by simp [hl], Or.inr ⟨g, c, c2, by rw [hl], hb, q1, by omega, h6, by omega, ?_⟩⟩
    apply List.ext_getElem?
    intro i
    rw [List.getElem?_take]
    by_cases hi : i < L'.length
    · rw [if_pos (by omega), Array.getElem?_toList]
      have := q2 i hi
      rw [Nat.zero_add] at this
      rw [this]
      simp [List.getD, hi]
    · rw [if_neg (by omega), List.getElem?_eq_none (by simp; omega)]
theorem Wq.below {D : Nat → Nat → Prop} {w w' : World} {N : Nat} (h : Wq D w w') (hd : ∀ k i, D k i → N ≤ k) (hN : N ≤ w.heap.size) : Below N w w' :=
  ⟨h.os, h.tape, h.output, h.size, fun k hk => h.block k (by omega) (fun i hi => by have := hd k i hi; omega)⟩
theorem Lst.of_seg {w : World} {base b n : Nat} {L : List Int} (h : ∃ cur, Blk w b cur ∧ cur.size = n) (hs : Seg w b 0 L) (hl : L.length = n) (hb : base ≤ b) (hn : n ≤ 2000) : Lst w base (.slice (some ⟨b, 0, none⟩) n n) L := by
  obtain ⟨cur, h1, h2⟩ := h
  obtain ⟨c2, q1, q2⟩ := hs
  have e : c2 = cur := by
    have := (show w.heap[b]? = _ from q1).symm.trans h1
    injection this with this
    injection this
  subst e
  refine ⟨by simp, Or.inr ⟨b, n, c2, by rw [hl], hb, h1, by omega, by unfold maxLen; omega, by omega, ?_⟩⟩
  apply List.ext_getElem?
  intro i
  rw [List.getElem?_take]
  by_cases hi : i < L.length
  · rw [if_pos (by omega), Array.getElem?_toList]
    have := q2 i hi
    rw [Nat.zero_add] at this
    rw [this]
    simp [List.getD, hi]
  · rw [if_neg (by omega), List.getElem?_eq_none (by simp; omega)]
end Go.Proofs.YtfpifbfnebfdaaaDoor
