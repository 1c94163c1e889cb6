/- Contracts of package heap over the loaded program: Len, First, Push, Pop, Swap, Check. -/
import Derived.Test.YtdffpgfmodccgaaF4
import Derived.Test.YtdffpgfmodccgaaShelf3
import Derived.WalkSmall
import Derived.RangeFuncBox
import Derived.Sort.Row
namespace Go.Proofs.Ytdffpgfmodccgaa
open Go.RowKit Go.Shelf
attribute [local go_sem] Gr.size Gr.cell? Gr.frozen? Gr.setCell Gr.drew Gr.drewN Gr.of_drew Gr.of_drewN Gr.gr Gr.lt_of1 Gr.le_of1 Gr.lt_of2 Gr.le_of2 Gr.lt_of3 Gr.le_of3 Gr.lt_of4 Gr.le_of4 Gr.lt_of5 Gr.le_of5 Gr.lt_of6 Gr.le_of6 Gr.lt_of7 Gr.le_of7 Gr.lt_of8 Gr.le_of8 Gr.lt_of9 Gr.le_of9 Gr.lt_of10 Gr.le_of10 Gr.lt_of11 Gr.le_of11 Gr.lt_of12 Gr.le_of12 Gr.lt_of13 Gr.le_of13 Gr.lt_of14 Gr.le_of14 Gr.lt_of15 Gr.le_of15 Gr.lt_of16 Gr.le_of16 Gr.lt_of17 Gr.le_of17 Gr.lt_of18 Gr.le_of18 Gr.lt_of19 Gr.le_of19 Gr.lt_of20 Gr.le_of20 Gr.lt_of21 Gr.le_of21 Gr.lt_of22 Gr.le_of22 Gr.lt_of23 Gr.le_of23 Gr.lt_of24 Gr.le_of24
/-- What a call leaves: the heap holds the things of Lp, and only its blocks and new ones have turned. -/
def After (k : Int → Int) (w : World) (base t f : Nat) (v : Value) (Lp : List Int → Prop) (w' : World) : Prop :=
  ∃ v' L', Hs w' base t f v' L' ∧ Hp k L' ∧ Lp L' ∧ Wr (hbs t v) w w' ∧ ∀ b, v'.ownBlock = some b → v.ownBlock = some b ∨ w.heap.size ≤ b
/-- The same, where the list stays in its block. -/
def Stays (k : Int → Int) (w : World) (base t f : Nat) (v : Value) (Lp : List Int → Prop) (w' : World) : Prop :=
  ∃ v' L', Hs w' base t f v' L' ∧ Hp k L' ∧ Lp L' ∧ Wr (hbs t v) w w' ∧ ∀ b, v'.ownBlock = some b → v.ownBlock = some b
theorem Stays.after {k : Int → Int} {w w' : World} {base t f : Nat} {v : Value} {Lp : List Int → Prop} (h : Stays k w base t f v Lp w') : After k w base t f v Lp w' := by
  obtain ⟨v', L', h1, h2, h3, h4, h5⟩ := h
  exact ⟨v', L', h1, h2, h3, h4, fun b hb => Or.inl (h5 b hb)⟩
theorem mem_hbs {t b : Nat} {v : Value} : b ∈ hbs t v ↔ b = t ∨ v.ownBlock = some b := by simp [hbs]
set_option maxRecDepth 20000 in set_option maxHeartbeats 2000000 in
theorem Len_any {base t f : Nat} {v : Value} {L : List Int} (w : World) (h : Hs w base t f v L) : Calls Try.prog 13 #[.pointer (some ⟨t, 0, none⟩)] w fun e w' => e = .returned (.int .i64 L.length) ∧ w' = w := by
  obtain ⟨a, c, rfl, _⟩ := h.lst.form
  have c1 := h.hb.c1
  obtain ⟨n, hn⟩ : ∃ n, L.length = n := ⟨_, rfl⟩
  rw [hn] at c1 ⊢
  clear h hn
  go_enter Try.func13, Try.ntmps13
  go_wp2_with fail
  go_ret
  exact ⟨rfl, rfl⟩
set_option maxRecDepth 20000 in set_option maxHeartbeats 2000000 in
theorem First_none {base t f : Nat} {v : Value} (w : World) (h : Hs w base t f v []) : Calls Try.prog 14 #[.pointer (some ⟨t, 0, none⟩)] w fun e w' => e = .returned (.tuple #[.int .i64 0, .bool false]) ∧ w' = w := by
  obtain ⟨a, c, rfl, _⟩ := h.lst.form
  have c1 := h.hb.c1
  clear h
  go_enter Try.func14, Try.ntmps14
  go_wp2_with fail
  exact bodyPost_ret (v := .tuple #[.int .i64 0, .bool false]) (by simp [results, Try.results14, go_sem]) rfl ⟨rfl, rfl⟩
set_option maxRecDepth 20000 in set_option maxHeartbeats 2000000 in
theorem First_some {base t f : Nat} {v : Value} {L : List Int} (w : World) (h : Hs w base t f v L) (hl : 0 < L.length) : Calls Try.prog 14 #[.pointer (some ⟨t, 0, none⟩)] w fun e w' => e = .returned (.tuple #[.int .i64 (L.getD 0 0), .bool true]) ∧ w' = w := by
  obtain ⟨g, c, rfl, hgt, _⟩ := h.blk hl
  have c1 := h.hb.c1
  obtain ⟨c0, _⟩ := h.cell hl
  obtain ⟨x, hx⟩ : ∃ x, L.getD 0 0 = x := ⟨_, rfl⟩
  obtain ⟨n, hn⟩ : ∃ n, L.length = n := ⟨_, rfl⟩
  rw [hx] at c0 ⊢
  rw [hn] at c1 hl
  have hn1 : (0 : Int) < n := by omega
  have hn2 : ¬ (n : Int) = 0 := by omega
  clear h hx hn
  go_enter Try.func14, Try.ntmps14
  go_wp2_with fail
  exact bodyPost_ret (v := .tuple #[.int .i64 x, .bool true]) (by simp [results, Try.results14, go_sem]) rfl ⟨rfl, rfl⟩
theorem perm_snoc (L : List Int) (x : Int) : (L ++ [x]).Perm (x :: L) := List.perm_append_comm
theorem getD_snoc {L : List Int} {x : Int} {i : Nat} (hi : i < L.length) : (L ++ [x]).getD i 0 = L.getD i 0 := by
  simp only [List.getD_eq_getElem?_getD, List.getElem?_append_left hi]
/-- What the append and the store behind it leave. -/
theorem push_at {w w1 : World} {base t f n c : Nat} {a : Option Addr} {v1 : Value} {L : List Int} {x : Int} {o : Obj} (h : Hs w base t f (.slice a n c) L) (hx : I64 x)
    (h1o : w1.ownsRow base 3 1 v1 (n + 1) ((L.map fun x => Value.int .i64 x) ++ [.int .i64 x])) (h1g : (w.alloc o).grownBy w1 (Value.slice a n c).ownBlock)
    (h1b : v1.ownBlock = (Value.slice a n c).ownBlock ∨ v1.ownBlock = some (w.alloc o).heap.size) :
    ∃ g c1, v1 = .slice (some ⟨g, 0, none⟩) (n + 1) c1 ∧ g ≠ t ∧ Hs (w1.setCell ⟨t, 1, none⟩ (.slice (some ⟨g, 0, none⟩) (n + 1) c1)) base t f (.slice (some ⟨g, 0, none⟩) (n + 1) c1) (L ++ [x]) ∧ Wr (hbs t (.slice a n c)) w (w1.setCell ⟨t, 1, none⟩ (.slice (some ⟨g, 0, none⟩) (n + 1) c1)) ∧
      ((Value.slice a n c).ownBlock = some g ∨ w.heap.size ≤ g) ∧ w1.cell? ⟨t, 1, none⟩ = some (.slice a n c) ∧ w1.frozen? ⟨t, 1, none⟩ = false := by
  obtain ⟨g, c1, rfl⟩ := ownsRow_succ h1o
  have hnm : n = L.length := by obtain ⟨a', c', e, _⟩ := h.lst.form; injection e
  have ht := h.hb.lt
  have eg : ∀ z : Option Nat, (Value.slice (some ⟨g, 0, none⟩) (n + 1) c1).ownBlock = z → z = some g := fun z e => e.symm
  have hbl : (Value.slice a n c).ownBlock = some g ∨ w.heap.size ≤ g := by
    rcases h1b with h1 | h1
    · exact Or.inl (eg _ h1)
    · have := eg _ h1; simp at this; exact Or.inr (by omega)
  have hgt : g ≠ t := by
    rcases hbl with h1 | h1
    · exact fun e => h.apart (by rw [h1, e])
    · omega
  have hw1 : Wr (Value.slice a n c).ownBlock.toList w w1 := by
    refine (Wr.of_gr (S := (Value.slice a n c).ownBlock.toList) ((IsGr.refl w).alloc o)).trans (S' := (Value.slice a n c).ownBlock.toList) ⟨h1g.os, h1g.tape, h1g.output, h1g.size, fun k hk hn => h1g.block k hk (fun e => hn (by simp [← e]))⟩ (fun b hb _ => hb)
  have htn : t ∉ (Value.slice a n c).ownBlock.toList := fun hm => h.apart (by simpa using hm)
  have hb1 : Hb w1 t f (.slice a n c) := h.hb.wr hw1 htn
  have hW : Wr [t] w1 (w1.setCell ⟨t, 1, none⟩ (.slice (some ⟨g, 0, none⟩) (n + 1) c1)) := (Wr.refl _ _).set _ _ _ (Or.inl (by simp))
  refine ⟨g, c1, rfl, hgt, ⟨hb1.set1 _, ?_, fun e => hgt (Option.some.inj e), fun y hy => ?_⟩, ?_, hbl, hb1.c1, hb1.fz 1⟩
  · have h2 : Lst w1 base (.slice (some ⟨g, 0, none⟩) (n + 1) c1) (L ++ [x]) := by subst hnm; exact Lst.snoc h1o
    refine h2.wr hW (fun b hbb hm => hgt ?_)
    have e : b = t := by simpa using hm
    have e2 : g = b := Option.some.inj hbb
    rw [e2, e]
  · rcases List.mem_append.1 hy with h1 | h1
    · exact h.ints y h1
    · have e : y = x := by simpa using h1
      rw [e]; exact hx
  · refine (hw1.mono (fun b hb => by unfold hbs; exact List.mem_cons_of_mem _ hb)).trans hW (fun b hb _ => ?_)
    have e : b = t := by simpa using hb
    rw [e]; exact List.mem_cons_self
/-- A way through the heap behind it. -/
theorem After.way {k : Int → Int} {w w1 w2 : World} {base t f g c : Nat} {v : Value} {L1 : List Int} {Lp : List Int → Prop} (hw : Wr (hbs t v) w w1) (hbl : v.ownBlock = some g ∨ w.heap.size ≤ g) (h : WayR (Hp k) w1 base t f g c L1 w2) (hp : ∀ L', L'.Perm L1 → Lp L') :
    After k w base t f v Lp w2 := by
  obtain ⟨L', h1, h2, h3, h4⟩ := h
  refine ⟨_, L', h1, h3, hp L' h2, hw.trans h4 (fun b hb hbs => ?_), fun b hb => ?_⟩
  · have e : b = g := by simpa using hb
    rw [e] at hbs ⊢
    rcases hbl with h5 | h5
    · exact mem_hbs.2 (Or.inr h5)
    · omega
  · have e : g = b := Option.some.inj hb
    rw [← e]; exact hbl
set_option maxRecDepth 20000 in set_option maxHeartbeats 2000000 in
theorem Push_any {f : Nat} {k : Int → Int} (hO : Ordr f k) (base t : Nat) (v : Value) (L : List Int) (x : Int) (w : World) (h : Hs w base t f v L) (hk : Hp k L) (hx : I64 x) (hl : L.length ≤ 900) (hb : base ≤ w.heap.size) :
    Calls Try.prog 17 #[.pointer (some ⟨t, 0, none⟩), .int .i64 x] w fun e w' => e = .returned (.tuple #[]) ∧ After k w base t f v (fun L' => L'.Perm (x :: L)) w' := by
  obtain ⟨i0, hi, hz0, hz1, hz2⟩ := info_parts info_int
  obtain ⟨a, c, rfl, _⟩ := h.lst.form
  have c1 := h.hb.c1
  have f1 := h.hb.fz 1
  have HB : Hid (base ≤ w.heap.size) := hb
  have HK : Hid (Hp k L) := hk
  have hown : w.ownsRow base 3 1 (.slice a L.length c) L.length (L.map fun x => Value.int .i64 x) := h.lst
  obtain ⟨n, hn⟩ : ∃ n, L.length = n := ⟨_, rfl⟩
  have HN : Hid (L.length = n) := hn
  rw [hn] at c1 hown hl ⊢
  have HO : Hid (n ≤ 900) := hl
  have HH : Hid (Hs w base t f (.slice a n c) L) := hn ▸ h
  have en : IntKind.i64.wrap (n : Int) = (n : Int) := by rw [IntKind.wrap_i64]; omega
  clear h hl hk hb hn
  go_enter Try.func17, Try.ntmps17
  go_wp2_with (at_builtin; refine wpList_append_own_at _ rfl _ _ 22 rfl base 3 i0 (.int .i64 0) 1 8 Try.underlying22 hi hz0 hz1 hz2 rfl (by decide) (.slice a n c) _ _ rfl (World.ownsRow.alloc hown _) ⟨w.heap.size, 0, none⟩ 1 1 [.int .i64 x] rfl rfl (cell_one_new _ _ _) (fun u hu => by simp at hu; subst hu; rfl) (by unfold maxLen; have := HO.out; omega) (by have := HO.out; omega) (by have := HB.out; simp; omega) ?_; intro v1 w1 h1o h1g _ h1b; obtain ⟨g, c1', rfl, hgt, hs, hw, hbl, c1b, f1b⟩ := push_at HH.out hx h1o h1g h1b; clear c1 f1 h1o h1g h1b)
  have hlen : (L ++ [x]).length = n + 1 := by simp [HN.out]
  refine (rise_any hO base t g c1' (L ++ [x]) n _ (by rw [hlen]; exact hs) hgt (by omega) (by have := HK.out.snoc x; rwa [HN.out] at this) (by have := HO.out; omega)).mono ?_
  rintro e w2 ⟨rfl, hway⟩
  go_wp2_with fail
  go_end0
  exact ⟨rfl, After.way hw hbl hway (fun L' hp => hp.trans (perm_snoc L x))⟩
set_option maxRecDepth 20000 in set_option maxHeartbeats 2000000 in
theorem sink0_any {f : Nat} {k : Int → Int} (hO : Ordr f k) (base t : Nat) (v : Value) (L : List Int) (w : World) (h : Hs w base t f v L) (hu : HpDown k 0 0 L) (hn : L.length ≤ 1000) :
    Calls Try.prog 22 #[.pointer (some ⟨t, 0, none⟩), .int .i64 0] w fun e w' => e = .returned (.tuple #[]) ∧ ∃ L', Hs w' base t f v L' ∧ L'.Perm L ∧ Hp k L' ∧ Wr v.ownBlock.toList w w' := by
  rcases Nat.eq_zero_or_pos L.length with h0 | h0
  · obtain rfl := List.length_eq_zero_iff.1 h0
    exact (sink_none base t f v w h).mono fun e w' ⟨h1, h2⟩ => ⟨h1, [], h2 ▸ h, List.Perm.refl _, (HpF.low (b := 0) (by simp)).hp, h2 ▸ Wr.refl _ _⟩
  · obtain ⟨g, c, rfl, hgt, _⟩ := h.blk h0
    exact (sink_any hO base t g c L 0 0 w h hgt h0 hu (Nat.le_refl _) hn).mono fun e w' ⟨h1, L', h2, h3, h4, h5⟩ => ⟨h1, L', h2, h3, h4.hp, h5⟩
theorem put_block {w : World} {g q : Nat} {X : Array Int} {cur : Array Value} {e : TypeId} (h : w.heap[g]? = some (.cells cur e (0, 0))) :
    (Sort.putRow (fun x => Value.int .i64 x) (Sort.ahead w q) g 0 X).heap[g]? = some (.cells (Sort.putCells (fun x => Value.int .i64 x) 0 X cur) e (0, 0)) := by
  simp only [Sort.putRow, Sort.mapBlock, Sort.ahead]
  rw [Array.getElem?_modify, if_pos rfl, h]; rfl
theorem put_wr (w : World) (g q : Nat) (X : Array Int) : Wr [g] w (Sort.putRow (fun x => Value.int .i64 x) (Sort.ahead w q) g 0 X) := by
  refine ⟨rfl, rfl, rfl, by simp [Sort.ahead], fun k hk hn => ?_⟩
  simp only [Sort.putRow, Sort.mapBlock, Sort.ahead]
  rw [Array.getElem?_modify, if_neg (fun e => hn (by simp [e]))]
theorem put_take {X : Array Int} {cur : Array Value} (h : X.size ≤ cur.size) : (Sort.putCells (fun x => Value.int .i64 x) 0 X cur).toList.take X.size = X.toList.map fun x => Value.int .i64 x := by
  apply List.ext_getElem?
  intro i
  rw [List.getElem?_take]
  by_cases hi : i < X.size
  · rw [if_pos hi, Array.getElem?_toList]
    simp only [Sort.putCells, Array.getElem?_mapIdx]
    rw [Array.getElem?_eq_getElem (by omega), Option.map_some, if_pos (by omega)]
    simp [hi]
  · rw [if_neg hi, List.getElem?_eq_none (by simp; omega)]
/-- The row holds other things. -/
theorem Hs.put {w : World} {base t f g c n q : Nat} {L : List Int} (h : Hs w base t f (.slice (some ⟨g, 0, none⟩) n c) L) (hgt : g ≠ t) {X : Array Int} (hX : X.size = n) (hi : ∀ x ∈ X.toList, I64 x) :
    Hs (Sort.putRow (fun x => Value.int .i64 x) (Sort.ahead w q) g 0 X) base t f (.slice (some ⟨g, 0, none⟩) n c) X.toList := by
  refine ⟨h.hb.wr (put_wr w g q X) (by simpa using fun e => hgt e.symm), ?_, h.apart, hi⟩
  obtain ⟨h1, h2⟩ := h.lst
  rcases h2 with ⟨h2, _⟩ | ⟨g', c', cur, h2, h3, h4, h5, h6, h7, h8⟩
  · injection h2 with e; cases e
  · have hnm : n = L.length := h.nm
    injection h2 with e1 e2 e3
    injection e1 with e1
    injection e1 with e1
    subst e1 e3
    refine ⟨by simp, Or.inr ⟨g, c, _, by simp [hX], h3, put_block h4, by simp; omega, h6, by simp [Sort.putCells]; omega, ?_⟩⟩
    have := put_take (X := X) (cur := cur) (by omega)
    simpa using this
/-- The last one goes. -/
theorem Hs.cut {w : World} {base t f g c n : Nat} {L : List Int} {x : Int} (h : Hs w base t f (.slice (some ⟨g, 0, none⟩) (n + 1) c) (L ++ [x])) : Lst w base (.slice (some ⟨g, 0, none⟩) n c) L := by
  have hn : n + 1 = (L ++ [x]).length := h.nm
  have hn' : n = L.length := by simp at hn; exact hn
  subst hn'
  have := h.lst
  unfold Lst at this ⊢
  rw [← hn, List.map_append] at this
  exact ownsRow_pop (by simp) this
theorem Hs.holds {w : World} {base t f g c : Nat} {L : List Int} (h : Hs w base t f (.slice (some ⟨g, 0, none⟩) L.length c) L) : Sort.Holds (fun x => Value.int .i64 x) w g 0 L.toArray := fun j hj => by
  have hj' : j < L.length := by simpa using hj
  obtain ⟨h1, h2⟩ := h.cell hj'
  rw [Nat.zero_add]
  refine ⟨?_, h2⟩
  rw [h1]
  simp [List.getD, hj']
theorem Del_any {base t f g c m : Nat} {L : List Int} (w : World) (h : Hs w base t f (.slice (some ⟨g, 0, none⟩) (m + 1) c) L) (hgt : g ≠ t) (hc : m + 1 ≤ c) (hmax : c ≤ maxLen) :
    Calls Try.prog 28 #[.slice (some ⟨g, 0, none⟩) (m + 1) c, .int .i64 (m : Int), .int .i64 ((m : Int) + 1)] w fun e w' => e = .returned (.slice (some ⟨g, 0, none⟩) m c) ∧ Hs w' base t f (.slice (some ⟨g, 0, none⟩) (m + 1) c) (L.dropLast ++ [0]) ∧ Wr [g] w w' := by
  have hL : m + 1 = L.length := h.nm
  have e1 : (((m + 1 : Nat)) : Int) = (m : Int) + 1 := by omega
  have D := Try.slices_Delete_int_arr g 0 c m (m + 1) L.toArray w (Hs.holds (hL ▸ h)) (by simp; omega) (by unfold maxLen at hmax; exact hmax) (by omega) (by simp; omega)
  have e2 : L.toArray.size = m + 1 := by simp [hL]
  rw [e2, e1] at D
  refine D.mono ?_
  rintro e w' ⟨rfl, q, rfl⟩
  have e3 : (L.toArray.toList.take m ++ L.toArray.toList.drop (m + 1) ++ List.replicate (m + 1 - m) (0 : Int)) = L.dropLast ++ [0] := by
    have : L.drop (m + 1) = [] := List.drop_eq_nil_of_le (by omega)
    simp only [List.dropLast_eq_take, ← hL]
    simp [this]
  have e4 : m + 1 - (m + 1 - m) = m := by omega
  refine ⟨by rw [e4], ?_, put_wr _ _ _ _⟩
  rw [e3]
  exact Hs.put (X := (L.dropLast ++ [0]).toArray) h hgt (by simp; omega) (fun y hy => by
    rcases List.mem_append.1 (show y ∈ L.dropLast ++ [0] from hy) with h1 | h1
    · exact h.ints y (List.dropLast_subset L h1)
    · have e : y = 0 := by simpa using h1
      rw [e]; exact i64_lit (by decide))
set_option maxRecDepth 20000 in set_option maxHeartbeats 2000000 in
theorem Pop_none {base t f : Nat} {v : Value} (w : World) (h : Hs w base t f v []) : Calls Try.prog 18 #[.pointer (some ⟨t, 0, none⟩)] w fun e w' => e = .returned (.tuple #[.int .i64 0, .bool false]) ∧ w' = w := by
  have C := First_none w h
  clear h
  go_enter Try.func18, Try.ntmps18
  go_wp2_with fail
  refine C.mono ?_
  rintro e w1 ⟨rfl, rfl⟩
  go_wp2_with fail
  exact bodyPost_ret (v := .tuple #[.int .i64 0, .bool false]) (by simp [results, Try.results18, go_sem]) rfl ⟨rfl, rfl⟩
set_option maxRecDepth 20000 in set_option maxHeartbeats 2000000 in
theorem Pop_stay {f : Nat} {k : Int → Int} (hO : Ordr f k) (base t : Nat) (v : Value) (L : List Int) (w : World) (h : Hs w base t f v L) (hk : Hp k L) (hl : 0 < L.length) (hl2 : L.length ≤ 900) :
    Calls Try.prog 18 #[.pointer (some ⟨t, 0, none⟩)] w fun e w' => e = .returned (.tuple #[.int .i64 (L.getD 0 0), .bool true]) ∧ Stays k w base t f v (fun L' => L.Perm (L.getD 0 0 :: L')) w' := by
  obtain ⟨g, c, rfl, hgt, hbg, hgw, hc⟩ := h.blk hl
  have hca := h.lst.cap
  have hmax : c ≤ maxLen := by
    obtain ⟨_, h2⟩ := h.lst
    rcases h2 with ⟨h2, _⟩ | ⟨g', c', cur, h2, h3, h4, h5, h6, _⟩
    · injection h2 with e; cases e
    · injection h2 with e1 e2 e3; rw [e3]; exact h6
  have CF := First_some w h hl
  obtain ⟨m, hm⟩ : ∃ m, L.length = m + 1 := ⟨L.length - 1, by omega⟩
  have c1 := h.hb.c1
  have CE := exch_any base t f g c L 0 m w h hgt hl (by omega)
  have HH : Hid (Hs w base t f (.slice (some ⟨g, 0, none⟩) L.length c) L ∧ Hp k L ∧ L.length = m + 1 ∧ L.length ≤ 900) := ⟨h, hk, hm, hl2⟩
  obtain ⟨x, hx⟩ : ∃ x, L.getD 0 0 = x := ⟨_, rfl⟩
  have HX : Hid (L.getD 0 0 = x) := hx
  rw [hx] at CF ⊢
  rw [hm] at c1 ⊢
  have e1 : IntKind.i64.wrap ((m : Int) + 1 - 1) = (m : Int) := by rw [IntKind.wrap_i64]; omega
  have e1' : IntKind.i64.wrap (m : Int) = (m : Int) := by rw [IntKind.wrap_i64]; omega
  have e2 : IntKind.i64.wrap ((m : Int) + 1) = ((m + 1 : Nat) : Int) := by rw [IntKind.wrap_i64]; omega
  clear h hk hl hl2 hx hm
  go_enter Try.func18, Try.ntmps18
  go_wp2_with fail
  refine CF.mono ?_
  rintro e w1 ⟨rfl, e3⟩
  obtain rfl := e3.symm
  go_wp2_with fail
  refine CE.mono ?_
  rintro e w2 ⟨rfl, hs, hw⟩
  have hlen : (sw L 0 m).length = m + 1 := by rw [sw_len]; exact HH.out.2.2.1
  have c2 := hs.hb.c1
  rw [HH.out.2.2.1] at c2 hs
  go_wp2_with fail
  refine (Del_any w2 hs hgt (by have := HH.out.2.2.1; omega) hmax).mono ?_
  rintro e w3 ⟨rfl, hs3, hw3⟩
  have c3 := hs3.hb.c1
  have f3 := hs3.hb.fz 1
  have HS : Hid (Hs (w3.setCell ⟨t, 1, none⟩ (.slice (some ⟨g, 0, none⟩) m c)) base t f (.slice (some ⟨g, 0, none⟩) m c) (sw L 0 m).dropLast) := by
    have hW : Wr [t] w3 (w3.setCell ⟨t, 1, none⟩ (.slice (some ⟨g, 0, none⟩) m c)) := (Wr.refl _ _).set _ _ _ (Or.inl (by simp))
    refine ⟨hs3.hb.set1 _, hs3.cut.wr hW (fun b hb hm => hgt ?_), hs3.apart, fun y hy => hs.ints y (List.dropLast_subset _ hy)⟩
    have e1 : b = t := by simpa using hm
    have e2 : g = b := Option.some.inj hb
    rw [e2, e1]
  have HW : Hid (Wr (hbs t (.slice (some ⟨g, 0, none⟩) (m + 1) c)) w (w3.setCell ⟨t, 1, none⟩ (.slice (some ⟨g, 0, none⟩) m c))) := by
    have h1 : g ∈ hbs t (.slice (some ⟨g, 0, none⟩) (m + 1) c) := mem_hbs.2 (Or.inr rfl)
    have h2 : t ∈ hbs t (.slice (some ⟨g, 0, none⟩) (m + 1) c) := mem_hbs.2 (Or.inl rfl)
    refine ((hw.trans hw3 (fun b hb _ => hb)).mono (fun b hb => ?_)).set _ _ _ (Or.inl h2)
    have e : b = g := by simpa using hb
    exact e ▸ h1
  clear hs hs3 hw hw3 c1 c2 CE CF
  go_wp2_with fail
  refine (sink0_any hO base t _ _ _ HS.out (by have := HH.out.2.1.pop (by have := HH.out.2.2.1; omega); rwa [HH.out.2.2.1, Nat.add_sub_cancel] at this) (by rw [List.length_dropLast, hlen]; have := HH.out.2.2; omega)).mono ?_
  rintro e w4 ⟨rfl, L', h4, hp4, hk4, hw4⟩
  go_wp2_with fail
  refine bodyPost_ret (v := .tuple #[.int .i64 x, .bool true]) (by simp [results, Try.results18, go_sem]) rfl ⟨rfl, _, L', h4, hk4, ?_, HW.out.trans hw4 (fun b hb _ => mem_hbs.2 (Or.inr ?_)), fun b hb => hb⟩
  rotate_left
  · have h9 : (Value.slice (some ⟨g, 0, none⟩) m c).ownBlock = some b := by simpa using hb
    exact h9
  have := pop_perm (l := L) (by have := HH.out.2.2.1; omega)
  rw [HX.out, HH.out.2.2.1, Nat.add_sub_cancel] at this
  exact this.trans (hp4.symm.cons x)
theorem Pop_some {f : Nat} {k : Int → Int} (hO : Ordr f k) (base t : Nat) (v : Value) (L : List Int) (w : World) (h : Hs w base t f v L) (hk : Hp k L) (hl : 0 < L.length) (hl2 : L.length ≤ 900) :
    Calls Try.prog 18 #[.pointer (some ⟨t, 0, none⟩)] w fun e w' => e = .returned (.tuple #[.int .i64 (L.getD 0 0), .bool true]) ∧ After k w base t f v (fun L' => L.Perm (L.getD 0 0 :: L')) w' :=
  (Pop_stay hO base t v L w h hk hl hl2).mono fun _ _ ⟨h1, h2⟩ => ⟨h1, h2.after⟩
set_option maxRecDepth 20000 in set_option maxHeartbeats 2000000 in
theorem Swap_none {f : Nat} {k : Int → Int} (hO : Ordr f k) (base t : Nat) (v : Value) (x : Int) (w : World) (h : Hs w base t f v []) (hx : I64 x) (hb : base ≤ w.heap.size) :
    Calls Try.prog 20 #[.pointer (some ⟨t, 0, none⟩), .int .i64 x] w fun e w' => e = .returned (.tuple #[.int .i64 0, .bool false]) ∧ After k w base t f v (fun L' => L'.Perm [x]) w' := by
  have C := First_none w h
  have CP := Push_any hO base t v [] x w h (HpF.low (b := 0) (by simp)).hp hx (by simp) hb
  clear h
  go_enter Try.func20, Try.ntmps20
  go_wp2_with fail
  refine C.mono ?_
  rintro e w1 ⟨rfl, e3⟩
  obtain rfl := e3.symm
  go_wp2_with fail
  refine CP.mono ?_
  rintro e w2 ⟨rfl, hA⟩
  go_wp2_with fail
  exact bodyPost_ret (v := .tuple #[.int .i64 0, .bool false]) (by simp [results, Try.results20, go_sem]) rfl ⟨rfl, hA⟩
set_option maxRecDepth 20000 in set_option maxHeartbeats 2000000 in
theorem Swap_some {f : Nat} {k : Int → Int} (hO : Ordr f k) (base t : Nat) (v : Value) (L : List Int) (x : Int) (w : World) (h : Hs w base t f v L) (hk : Hp k L) (hx : I64 x) (hl : 0 < L.length) (hl2 : L.length ≤ 900) :
    Calls Try.prog 20 #[.pointer (some ⟨t, 0, none⟩), .int .i64 x] w fun e w' => e = .returned (.tuple #[.int .i64 (L.getD 0 0), .bool true]) ∧ After k w base t f v (fun L' => L'.Perm (x :: L.tail)) w' := by
  obtain ⟨g, c, rfl, hgt, hbg, hgw, hc⟩ := h.blk hl
  have CF := First_some w h hl
  have c1 := h.hb.c1
  obtain ⟨c0, f0⟩ := h.cell hl
  have hS := h.set hgt 0 hx
  have hlen : (L.set 0 x).length = L.length := by simp
  have CS := sink0_any hO base t _ _ _ hS (hk.set0 x) (by omega)
  have HT : Hid (L.set 0 x = x :: L.tail) := by
    show _ = _
    cases L with
    | nil => simp at hl
    | cons y L => rfl
  obtain ⟨y, hy⟩ : ∃ y, L.getD 0 0 = y := ⟨_, rfl⟩
  obtain ⟨n, hn⟩ : ∃ n, L.length = n := ⟨_, rfl⟩
  rw [hy] at CF c0 ⊢
  rw [hn] at c1 hl CS ⊢
  have hn1 : (0 : Int) < n := by omega
  clear h hS hk hl2 hy hn hlen hc
  go_enter Try.func20, Try.ntmps20
  go_wp2_with fail
  refine CF.mono ?_
  rintro e w1 ⟨rfl, e3⟩
  obtain rfl := e3.symm
  go_wp2_with fail
  refine CS.mono ?_
  rintro e w2 ⟨rfl, L', h4, hp4, hk4, hw4⟩
  go_wp2_with fail
  refine bodyPost_ret (v := .tuple #[.int .i64 y, .bool true]) (by simp [results, Try.results20, go_sem]) rfl ⟨rfl, _, L', h4, hk4, HT.out ▸ hp4, ?_, fun b hb => Or.inl hb⟩
  have h1 : g ∈ hbs t (.slice (some ⟨g, 0, none⟩) n c) := mem_hbs.2 (Or.inr rfl)
  exact ((Wr.refl _ w).set _ _ _ (Or.inl h1)).trans hw4 (fun b hb _ => mem_hbs.2 (Or.inr (by simpa using hb)))
set_option maxRecDepth 20000 in set_option maxHeartbeats 2000000 in
theorem Check_any {f : Nat} {k : Int → Int} (hO : Ordr f k) (base t : Nat) (v : Value) (L : List Int) (w : World) (h : Hs w base t f v L) (hk : Hp k L) (hl2 : L.length ≤ 900) :
    Calls Try.prog 11 #[.pointer (some ⟨t, 0, none⟩)] w fun e w' => e = .returned (.bool true) ∧ IsGr w w' := by
  obtain ⟨a, c, rfl, _⟩ := h.lst.form
  have HH : Hid (Hs w base t f (.slice a L.length c) L ∧ Hp k L) := ⟨h, hk⟩
  have C1 := fun w' (hg : IsGr w w') => (h.gr hg).hb.c1
  obtain ⟨n, hn⟩ : ∃ n, L.length = n := ⟨_, rfl⟩
  have HN : Hid (L.length = n) := hn
  rw [hn] at C1 hl2
  clear h hk hn
  go_enter Try.func11, Try.ntmps11
  go_wp2_with fail
  go_loopg [3] (n + 1) (fun r p3 wr => ∃ i : Nat, p3 = .int .i64 i ∧ 0 < i ∧ i + r = n + 2 ∧ Hid (IsGr w wr))
  case atStart => exact ⟨1, rfl, by omega, by omega, IsGr.refl _⟩
  case round =>
    obtain ⟨i, rfl, hi, hr, H⟩ := hrel
    have c1 := C1 _ H.out
    by_cases hin : i < n
    · have hin' : (i : Int) < n := by omega
      obtain ⟨q, hq⟩ : ∃ q, par i = q := ⟨_, rfl⟩
      have hq1 : q < i := hq ▸ up_lt hi
      have hq2 : ((i : Int) - 1) / 2 = (q : Int) := by unfold par at hq; omega
      have e1 : IntKind.i64.wrap ((i : Int) - 1) = (i : Int) - 1 := by rw [IntKind.wrap_i64]; omega
      have e2 : ((i : Int) - 1).tdiv 2 = (q : Int) := by rw [Int.tdiv_eq_ediv_of_nonneg (by omega)]; exact hq2
      have e3 : IntKind.i64.wrap (q : Int) = (q : Int) := by rw [IntKind.wrap_i64]; omega
      have e4 : IntKind.i64.wrap ((i : Int) + 1) = (i : Int) + 1 := by rw [IntKind.wrap_i64]; omega
      have hgt : ∃ g, a = some ⟨g, 0, none⟩ := by
        obtain ⟨g, c', e, _⟩ := HH.out.1.blk (by have := HN.out; omega)
        injection e with e
        exact ⟨g, e⟩
      obtain ⟨g, rfl⟩ := hgt
      have hB : ¬ k (L.getD i 0) < k (L.getD q 0) := by
        have := HH.out.2 i hi (by have := HN.out; omega)
        rw [hq] at this
        omega
      have B := behind_no hO base t g c L q i wr (HH.out.1.gr H.out) (by have := HN.out; omega) (by have := HN.out; omega) hB
      clear hq hq2 hB
      go_wp2_with fail
      refine B.mono ?_
      rintro e w1 ⟨rfl, hg1⟩
      go_wp2_with fail
      go_roundg (gk - 1)
      case measure => omega
      case rel => exact ⟨i + 1, by simp, by omega, by omega, H.out.trans hg1⟩
    · have hin' : ¬ (i : Int) < n := by omega
      go_wp2_with fail
      go_ret
      exact ⟨rfl, H.out⟩
end Go.Proofs.Ytdffpgfmodccgaa
