/- gromalaw07 over the loaded program: MergeRuns' law. -/
import Derived.Test.YtblnpabgakmghaaN23
import Derived.Test.YtblnpabgakmghaaN10
import Derived.LoopIn
import Derived.Shelf.RegionOpen
namespace Go.Proofs.Ytblnpabgakmghaa
open Go.RowKit Go.Shelf
attribute [local go_sem] Oper.semAt_some
set_option maxHeartbeats 1000000 in
theorem same_any (a b : Int) (w : World) (ha : I64 a) (hb : I64 b) : Calls Try.prog 17 #[.int .i64 a, .int .i64 b] w fun e w' => e = .returned (.bool (decide (tq a = tq b))) ∧ IsGr w w' := by
  have CT := fun w => tens_any a b ha hb w
  have hsg := tensI_sg a b
  obtain ⟨d, hd⟩ : ∃ d, tensI a b = d := ⟨_, rfl⟩
  rw [hd] at hsg
  simp only [hd] at CT
  obtain ⟨r, hr⟩ : ∃ r, decide (tq a = tq b) = r := ⟨_, rfl⟩
  have d1 : (d == 0) = r := by
    rw [← hr]
    unfold Sg at hsg
    by_cases h : tq a = tq b
    · rw [decide_eq_true h]; simp; omega
    · rw [decide_eq_false h]; simp; omega
  rw [hr]
  clear hr hd hsg
  go_enter Try.func17, Try.ntmps17
  go_wp2_with fail
  refine (CT _).mono ?_
  rintro e w1 ⟨rfl, e1⟩
  obtain rfl := e1.symm
  go_wp2_with fail
  go_ret
  exact ⟨rfl, IsGr.refl _⟩
/-- How many things the pieces have. -/
def tot (xs : List (Nat × Nat)) : Nat := (xs.map (·.2)).sum
theorem Chn.tot {k : Int → Int} {L : List Int} : ∀ {xs : List (Nat × Nat)} {a b : Nat}, Chn k L a xs b → b = a + tot xs
  | [], a, b, h => by
    have h : a = b := h
    simp [Go.Proofs.Ytblnpabgakmghaa.tot, h]
  | x :: xs, a, b, ⟨_, _, h⟩ => by
    have := h.tot
    simp only [Go.Proofs.Ytblnpabgakmghaa.tot, List.map_cons, List.sum_cons] at this ⊢
    omega
theorem Chn.last {k : Int → Int} {L : List Int} : ∀ {xs : List (Nat × Nat)} {a b : Nat}, Chn k L a xs b → a < b → b < L.length → k (L.getD (b - 1) 0) ≠ k (L.getD b 0)
  | [], a, b, h, h1, _ => by
    have h : a = b := h
    omega
  | x :: xs, a, b, ⟨_, hp, h⟩, h1, h2 => by
    by_cases hb : a + x.2 < b
    · exact h.last hb h2
    · have := (h.le hp.2.1).1
      have e : b = a + x.2 := by omega
      subst e
      exact hp.2.2.2 h2
theorem tot_snoc (xs : List (Nat × Nat)) (x : Nat × Nat) : tot (xs ++ [x]) = tot xs + x.2 := by simp [tot]
/-- What lies in the boxes of MergeRuns. -/
structure LwI (w : World) (a : Option Addr) (n c : Nat) (stop : Int) (pre : List ((Nat × Nat) × Value)) (W : World) : Prop where
  c0 : W.cell? ⟨w.heap.size, 0, none⟩ = some (.slice a n c)
  c1 : W.cell? ⟨w.heap.size + 1, 0, none⟩ = some (.int .i64 stop)
  c2 : W.cell? ⟨w.heap.size + 1 + 1, 0, none⟩ = some (.bool false)
  f2 : W.frozen? ⟨w.heap.size + 1 + 1, 0, none⟩ = false
  c3 : W.cell? ⟨w.heap.size + 1 + 1 + 1, 0, none⟩ = some (.int .i64 (tot (pre.map (·.1)) : Nat))
  f3 : W.frozen? ⟨w.heap.size + 1 + 1 + 1, 0, none⟩ = false
  c4 : W.cell? ⟨w.heap.size + 1 + 1 + 1 + 1, 0, none⟩ = some (.int .i64 (pre.length : Nat))
  f4 : W.frozen? ⟨w.heap.size + 1 + 1 + 1 + 1, 0, none⟩ = false
  bel : Below w.heap.size w W
  size : w.heap.size + 5 ≤ W.heap.size
theorem LwI.kp {w : World} {a : Option Addr} {n c : Nat} {stop : Int} {pre : List ((Nat × Nat) × Value)} {A B : World} (h : LwI w a n c stop pre A) (hb : ∀ k, k < w.heap.size + 5 → B.heap[k]? = A.heap[k]?) (hB : Below w.heap.size A B) (hs : A.heap.size ≤ B.heap.size) : LwI w a n c stop pre B := by
  have cc : ∀ {k : Nat} {v : Value}, k < w.heap.size + 5 → A.cell? ⟨k, 0, none⟩ = some v → B.cell? ⟨k, 0, none⟩ = some v := fun hk h1 => (World.cell?_of_block (hb _ hk)).trans h1
  have ff : ∀ {k : Nat}, k < w.heap.size + 5 → A.frozen? ⟨k, 0, none⟩ = false → B.frozen? ⟨k, 0, none⟩ = false := fun hk h1 => (World.frozen?_of_block (hb _ hk)).trans h1
  exact ⟨cc (by omega) h.c0, cc (by omega) h.c1, cc (by omega) h.c2, ff (by omega) h.f2, cc (by omega) h.c3, ff (by omega) h.f3, cc (by omega) h.c4, ff (by omega) h.f4, h.bel.trans hB, Nat.le_trans h.size hs⟩
theorem LwI.below {w : World} {a : Option Addr} {n c N : Nat} {stop : Int} {pre : List ((Nat × Nat) × Value)} {A B : World} (h : LwI w a n c stop pre A) (hN : w.heap.size + 5 ≤ N) (hb : Below N A B) : LwI w a n c stop pre B :=
  h.kp (fun k hk => hb.block k (by omega)) (hb.mono (by omega)) hb.size
theorem LwI.gr {w : World} {a : Option Addr} {n c : Nat} {stop : Int} {pre : List ((Nat × Nat) × Value)} {A B : World} (h : LwI w a n c stop pre A) (hg : IsGr A B) : LwI w a n c stop pre B := h.below h.size hg.below
theorem LwI.own {w : World} {a : Option Addr} {n c N : Nat} {stop : Int} (hN : w.heap.size + 5 ≤ N) : OwnFrom N (LwI w a n c stop) := fun _ A _ row hs hg hr =>
  hs.kp (fun k hk => hg.block k (by have := hs.size; omega) (fun e => by have := (hr k e.symm).1; omega)) ((Below.refl _ A).grown hg (by have := hs.size; omega) (fun r e => by have := (hr r e).1; omega)) hg.size
/-- What is behind an early end. -/
def LwX (w : World) (W : World) : Prop := (W.cell? ⟨w.heap.size + 1 + 1, 0, none⟩ = some (.bool true) ∧ W.frozen? ⟨w.heap.size + 1 + 1, 0, none⟩ = false) ∧ Below w.heap.size w W ∧ w.heap.size + 5 ≤ W.heap.size
theorem LwX.kp {w A B : World} (h : LwX w A) (hb : ∀ k, k < w.heap.size + 5 → B.heap[k]? = A.heap[k]?) (hB : Below w.heap.size A B) (hs : A.heap.size ≤ B.heap.size) : LwX w B :=
  ⟨⟨(World.cell?_of_block (a := ⟨w.heap.size + 1 + 1, 0, none⟩) (hb _ (by simp only; omega))).trans h.1.1, (World.frozen?_of_block (a := ⟨w.heap.size + 1 + 1, 0, none⟩) (hb _ (by simp only; omega))).trans h.1.2⟩, h.2.1.trans hB, Nat.le_trans h.2.2 hs⟩
theorem LwX.below {w A B : World} {N : Nat} (h : LwX w A) (hN : w.heap.size + 5 ≤ N) (hb : Below N A B) : LwX w B := h.kp (fun k hk => hb.block k (by omega)) (hb.mono (by omega)) hb.size
theorem LwX.grown {w A C : World} {N : Nat} {row : Option Nat} (hN : w.heap.size + 5 ≤ N) (hs : LwX w A) (hg : A.grownBy C row) (hr : ∀ r, row = some r → N ≤ r) : LwX w C :=
  hs.kp (fun k hk => hg.block k (by have := hs.2.2; omega) (fun e => by have := hr k e.symm; omega)) ((Below.refl _ A).grown hg (by have := hs.2.2; omega) (fun r e => by have := hr r e; omega)) hg.size
theorem LwI.new (w : World) (a : Option Addr) (n c : Nat) (stop : Int) : LwI w a n c stop [] (((((w.alloc (.cells #[.slice a n c] 22)).alloc (.cells #[.int .i64 stop] 3)).alloc (.cells #[.bool false] 4)).alloc (.cells #[.int .i64 0] 3)).alloc (.cells #[.int .i64 0] 3)) := by
  have d0 := cell_new w (.slice a n c) 22
  have d1 := cell_new (w.alloc (.cells #[.slice a n c] 22)) (.int .i64 stop) 3
  have d2 := cell_new ((w.alloc (.cells #[.slice a n c] 22)).alloc (.cells #[.int .i64 stop] 3)) (.bool false) 4
  have d3 := cell_new (((w.alloc (.cells #[.slice a n c] 22)).alloc (.cells #[.int .i64 stop] 3)).alloc (.cells #[.bool false] 4)) (.int .i64 0) 3
  have d4 := cell_new ((((w.alloc (.cells #[.slice a n c] 22)).alloc (.cells #[.int .i64 stop] 3)).alloc (.cells #[.bool false] 4)).alloc (.cells #[.int .i64 0] 3)) (.int .i64 0) 3
  simp only [World.size_alloc] at d1 d2 d3 d4
  exact ⟨cell_past _ (cell_past _ (cell_past _ (cell_past _ d0.1))), cell_past _ (cell_past _ (cell_past _ d1.1)), cell_past _ (cell_past _ d2.1), frozen_past _ (cell_past _ d2.1) (frozen_past _ d2.1 d2.2), cell_past _ d3.1, frozen_past _ d3.1 d3.2, d4.1, d4.2,
    ((((((IsGr.refl w).alloc _).alloc _).alloc _).alloc _).alloc _).below, by simp⟩
/-- What a round of the law writes: how far it came, the run itself, how many came. -/
def lawW (w : World) (gr : Nat) (t p : Int) (A : World) : World := ((A.setCell ⟨w.heap.size + 1 + 1 + 1, 0, none⟩ (.int .i64 t)).setCell ⟨gr, 0, none⟩ (.int .i64 1)).setCell ⟨w.heap.size + 1 + 1 + 1 + 1, 0, none⟩ (.int .i64 p)
theorem law_step {w W A : World} {a : Option Addr} {n c gr xa xm : Nat} {stop : Int} {pre : List ((Nat × Nat) × Value)} {v : Value} (h : LwI w a n c stop pre W) (hg : IsGr W A) (hgr : w.heap.size + 5 ≤ gr) (ht : tot (pre.map (·.1)) = xa) :
    LwI w a n c stop (pre ++ [((xa, xm), v)]) (lawW w gr ((xa : Int) + (xm : Int)) ((pre.length : Int) + 1) A) ∧ Wr [w.heap.size + 1 + 1 + 1, gr, w.heap.size + 1 + 1 + 1 + 1] W (lawW w gr ((xa : Int) + (xm : Int)) ((pre.length : Int) + 1) A) := by
  have hA := h.gr hg
  have WA : Wr [w.heap.size + 1 + 1 + 1, gr, w.heap.size + 1 + 1 + 1 + 1] A (lawW w gr ((xa : Int) + (xm : Int)) ((pre.length : Int) + 1) A) := (((Wr.refl _ A).set _ _ _ (Or.inl (by simp))).set _ _ _ (Or.inl (by simp))).set _ _ _ (Or.inl (by simp))
  have WR : Wr [w.heap.size + 1 + 1 + 1, gr, w.heap.size + 1 + 1 + 1 + 1] W (lawW w gr ((xa : Int) + (xm : Int)) ((pre.length : Int) + 1) A) := (Wr.of_gr hg).trans WA (fun b hb _ => hb)
  refine ⟨⟨cell_wr hA.c0 WA (by simp; omega), cell_wr hA.c1 WA (by simp; omega), cell_wr hA.c2 WA (by simp; omega), ?_, ?_, ?_, ?_, ?_, h.bel.trans (WR.below h.bel.size (fun b hb => by simp at hb; omega)), Nat.le_trans h.size WR.size⟩, WR⟩
  · unfold lawW; rw [World.frozen?_setCell, World.frozen?_setCell, World.frozen?_setCell]; exact hA.f2
  · unfold lawW
    rw [cell_o _ _ _ (by omega), cell_o _ _ _ (by omega), cell_s hA.c3, List.map_append, List.map_cons, List.map_nil, tot_snoc, ht]
    simp
  · unfold lawW; rw [World.frozen?_setCell, World.frozen?_setCell, World.frozen?_setCell]; exact hA.f3
  · unfold lawW
    rw [cell_s (u := .int .i64 (pre.length : Nat)) (by rw [cell_o _ _ _ (by omega), cell_o _ _ _ (by omega)]; exact hA.c4), List.length_append]
    simp
  · unfold lawW; rw [World.frozen?_setCell, World.frozen?_setCell, World.frozen?_setCell]; exact hA.f4
set_option maxRecDepth 100000 in
set_option maxHeartbeats 2000000 in
theorem law_runs_many (a : Option Addr) (n c : Nat) (stop : Int) (w : World) (hn : ¬ n ≤ 150) :
    Calls Try.prog 5 #[.slice a n c, .int .i64 stop] w fun e w' => e = .returned (.bool true) ∧ Below w.heap.size w w' := by
  have hn1 : (150 : Int) < n := by omega
  refine (callsIn_wide (n := 9)).1 ?_
  refine callsIn_of_wp_marks Try.func5 rfl trivial ?_ rfl
  simp only [Try.ntmps5, List.size_toArray, List.length_cons, List.length_nil, Nat.reduceAdd, Nat.reduceSub, Array.replicate_succ, Array.replicate_zero, List.push_toArray, List.append_toArray, List.nil_append, List.cons_append]
  gi_wp2
  have hgw : IsGr w (((w.alloc (.cells #[.slice a n c] 22)).alloc (.cells #[.int .i64 stop] 3)).alloc (.cells #[.bool false] 4)) := ((((IsGr.refl w).alloc _).alloc _).alloc _)
  have cb := cell_new ((w.alloc (.cells #[.slice a n c] 22)).alloc (.cells #[.int .i64 stop] 3)) (.bool false) 4
  simp only [World.size_alloc] at cb
  refine ⟨trivial, ?_⟩
  refine (callsIn_wide.2 (awake_any _)).mono ?_
  rintro e w2 ⟨rfl, h2⟩
  have B2 : Below w.heap.size w w2 := hgw.below.trans (h2.mono hgw.size)
  have cb2 := (h2.cell (p := ⟨w.heap.size + 1 + 1, 0, none⟩) (by simp)).trans cb.1
  have fb2 := (h2.frozen (p := ⟨w.heap.size + 1 + 1, 0, none⟩) (by simp)).trans cb.2
  clear hgw cb h2
  gi_wp2
  have hc5 := cell_s (v := .bool true) cb2
  refine ⟨.bool true, ?_, rfl, B2.setCell (p := ⟨w.heap.size + 1 + 1, 0, none⟩) (by simp; omega) _⟩
  simp [results, Try.f5, go_sem, hc5]

set_option maxRecDepth 100000 in
set_option maxHeartbeats 2000000 in
theorem law_runs_few (a : Option Addr) (n c : Nat) (l : List Int) (stop : Int) (w : World) (h : Rd w (.slice a n c) l) (hz : Zn (.slice a n c)) (hst : I64 stop) (hn : n ≤ 150) :
    Calls Try.prog 5 #[.slice a n c, .int .i64 stop] w fun e w' => e = .returned (.bool true) ∧ Below w.heap.size w w' := by
  have hn1 : ¬ (150 : Int) < n := by omega
  have HR : Hid (∀ W, Below w.heap.size w W → Rd W (.slice a n c) l) := fun W hB => h.below hB
  have HN : Hid (n = l.length ∧ n ≤ 150 ∧ (∀ x ∈ l, I64 x) ∧ I64 stop) := ⟨h.len.1, hn, h.ints, hst⟩
  refine (callsIn_wide (n := 9)).1 ?_
  refine callsIn_of_wp_marks Try.func5 rfl trivial ?_ rfl
  simp only [Try.ntmps5, List.size_toArray, List.length_cons, List.length_nil, Nat.reduceAdd, Nat.reduceSub, Array.replicate_succ, Array.replicate_zero, List.push_toArray, List.append_toArray, List.nil_append, List.cons_append]
  gi_wp2
  have hI0 := LwI.new w a n c stop
  obtain ⟨wA, hwA⟩ : ∃ W, (((((w.alloc (.cells #[.slice a n c] 22)).alloc (.cells #[.int .i64 stop] 3)).alloc (.cells #[.bool false] 4)).alloc (.cells #[.int .i64 0] 3)).alloc (.cells #[.int .i64 0] 3)) = W := ⟨_, rfl⟩
  rw [hwA] at hI0 ⊢
  refine ⟨trivial, ?_⟩
  refine (callsIn_wide.2 (Runs_any 17 (.slice a n c) l wA (HR.out _ hI0.bel) hz (by have := HN.out; omega))).mono ?_
  rintro e w5 ⟨Bo, Bs, rfl, ⟨ra, rc, ⟨qo, qs⟩, hl5⟩, hb5, hBo, hBs⟩
  have hI5 := hI0.below hI0.size hb5
  have hnR : ∀ W, (binOp BinOp.neq 32 (.func (.func 27) #[] #[.pointer (some ⟨Bo, 0, none⟩), .pointer (some ⟨Bs, 0, none⟩)]) .nilFunc).run Try.prog W = .ok (.bool true) W := fun W => by
    first | rfl | simp [binOp, run_underlying Try.underlying32, go_sem]
  have hcap : l.length ≤ rc := hl5.cap
  have hlow : w.heap.size + 5 ≤ w5.heap.size := hI5.size
  have hA5 := hI0.size
  obtain ⟨g, hga, hgc, hgw, hgz⟩ : ∃ g, (0 < l.length → ra = some ⟨g, 0, none⟩) ∧ (∀ i, i < l.length → w5.cell? ⟨g, 0 + i, none⟩ = some (.int .i64 (l.getD i 0))) ∧ g < w5.heap.size ∧ (g = w.heap.size ∨ w.heap.size + 5 ≤ g) := by
    obtain ⟨a', c', e, hf⟩ := hl5.form
    injection e with e1 e2 e3
    subst e1
    rcases hf with h0 | ⟨g, rfl, q1, q2, q3⟩
    · rw [h0]
      exact ⟨w.heap.size, fun h => by simp at h, fun i h => by simp at h, by omega, Or.inl rfl⟩
    · exact ⟨g, fun _ => rfl, fun i hi => by rw [Nat.zero_add]; exact q3 i hi, q2, Or.inr (by omega)⟩
  have HGZ : Hid (g = w.heap.size ∨ w.heap.size + 5 ≤ g) := hgz
  have hSF : SameF0 tq 17 (fun _ => True) := ⟨enters_of Try.func17 (by kernel_rfl) rfl, fun a b W ha hb _ => same_any a b W ha hb⟩
  have HL : Hid (l.length = n ∧ n ≤ c ∧ n ≤ 150) := ⟨HN.out.1.symm, h.len.2, hn⟩
  clear hwA hI0 hb5 hl5 h hz hn hgz hA5
  gi_wp2
  refine wpIn_range_turnsW (α := (Nat × Nat) × Value) rfl rfl (by omega) (gf := 27) (lb := #[.pointer (some ⟨Bo, 0, none⟩), .pointer (some ⟨Bs, 0, none⟩)]) rfl trivial (enters_of Try.func27 (by kernel_rfl) rfl)
    (R := Below (w5.heap.size + 2)) (Kp := KpZ [g, w5.heap.size + 2, w5.heap.size + 2 + 1, w5.heap.size + 2 + 2, w5.heap.size + 2 + 3, w5.heap.size + 2 + 4]) (T := fun pre x W => Chn tq l 0 (pre.map (·.1)) x.1.1 ∧ PcAt tq l x.1.1 x.1.2 ∧ Lst W (w5.heap.size + 2 + 5) x.2 (pcL l x.1))
    (S := fun xs _ => Chn tq l 0 (xs.map (·.1)) l.length) (Sp := fun xs _ => ∃ b, Chn tq l 0 (xs.map (·.1)) b)
    (fun o1 o2 => runs_in hSF ra g l.length rc Bo Bs (w5.heap.size + 2) _ l ((w5.alloc o1).alloc o2) (by simp) (cellk qo (((IsGr.refl w5).alloc o1).alloc o2)) (cellk qs (((IsGr.refl w5).alloc o1).alloc o2)) (fun i hi => cellk (hgc i hi) (((IsGr.refl w5).alloc o1).alloc o2)) (by omega) hga rfl hcap HN.out.2.2.1 (by have := HN.out; omega) (by omega))
    (fun X Y hXY k hk hlt => hXY.block k (by omega)) (fun h1 h2 => h1.trans h2) (fun W o => ⟨by simp, fun b hb => World.putObj_heap_other (by simp at hb; omega)⟩) (fun _ => rfl)
    (LwI w a n c stop) (fun c' _ W => c' = .ret ∧ LwX w W)
    (LwI.own (by omega)) (fun c' s A B row hs hg hr => ⟨hs.1, LwX.grown hlow hs.2 hg (fun r e => (hr r e).1)⟩) (fun s A B row hs hg hr => hs) (fun s A B row hs hg hr => hs)
    (fun _ _ s A B row hs hg hr => ⟨hs.1, hs.2.1, hs.2.2.grown hg (fun r e => (hr r e).2)⟩) (fun s A B hs hr => hs.below (by omega) hr) (fun c' s A B hs hr => ⟨hs.1, hs.2.below (by omega) hr⟩) hI5
    ?a1 ?assign ?body ?done ?stop
  case assign =>
    intro lq x W K hK
    gi_wp2
    exact hK
  case stop =>
    rintro D c' xs W hD hSp ⟨rfl, hX⟩ hK
    have hwD : w.heap.size ≤ D := by omega
    gi_wp2
    refine ⟨by simp, .inl ⟨_, _, rfl, run_takeDeferred hK, ?_⟩⟩
    have hc5 := cell_kept hX.1.1 (grownBy_putObj' W D (.deferred none)) (fun r e => by cases e; exact ⟨_, hK, rfl⟩)
    refine ⟨.bool true, ?_, rfl, hX.2.1.trans (belowK_b (w := w) (Nat.le_refl _) _ D _ _ hwD hK rfl rfl)⟩
    simp [results, Try.f5, go_sem, hc5]
  case done =>
    rintro D xs W hD hSx hI hK
    have c0 := hI.c0
    have c3 := hI.c3
    have ht : tot (xs.map (·.1)) = n := by have := hSx.tot; have := HL.out.1; omega
    rw [ht] at c3
    have CA := awake_any W
    have HI : Hid ((W.cell? ⟨w.heap.size + 1 + 1, 0, none⟩ = some (.bool false) ∧ W.frozen? ⟨w.heap.size + 1 + 1, 0, none⟩ = false) ∧ Below w.heap.size w W ∧ W.heap[D]? = some (.deferred (some [])) ∧ w.heap.size + 5 ≤ D) := ⟨⟨hI.c2, hI.f2⟩, hI.bel, hK, by omega⟩
    clear hI hK ht hSx
    gi_wp2
    refine ⟨trivial, ?_⟩
    refine (callsIn_wide.2 CA).mono ?_
    rintro e w6 ⟨rfl, hB6⟩
    obtain ⟨⟨r1, r2⟩, r3, r4, r5⟩ := HI.out
    have k1 := (hB6.cell (p := ⟨w.heap.size + 1 + 1, 0, none⟩) (block_lt r1)).trans r1
    have k2 := (hB6.frozen (p := ⟨w.heap.size + 1 + 1, 0, none⟩) (block_lt r1)).trans r2
    have k4 := (hB6.block D (Array.getElem?_eq_some_iff.1 r4).1).trans r4
    have k3 := r3.trans (hB6.mono r3.size)
    have k5 : w.heap.size ≤ D := by omega
    clear r1 r2 r3 r4 r5 hB6 HI CA c0 c3
    gi_wp2
    have hK' := (KeepsOthers.setCell w6 ⟨w.heap.size + 1 + 1, 0, none⟩ (.bool true)).same D _ k4 rfl
    refine ⟨by simp, .inl ⟨_, _, rfl, run_takeDeferred hK', ?_⟩⟩
    have hc5 := cell_kept (cell_s (v := .bool true) k1) (grownBy_putObj' _ D (.deferred none)) (fun r e => by cases e; exact ⟨_, hK', rfl⟩)
    refine ⟨.bool true, ?_, rfl, (k3.setCell (p := ⟨w.heap.size + 1 + 1, 0, none⟩) (by simp; omega) _).trans (belowK_b (w := w) (Nat.le_refl _) _ D _ _ k5 hK' rfl rfl)⟩
    simp [results, Try.f5, go_sem, hc5]
  case body =>
    rintro lq pre ⟨⟨xa, xm⟩, v⟩ W hI ⟨hch, hpa, hlv⟩ hWs
    (try simp only at hch hpa hlv)
    have hxn : xa + xm ≤ n := by have := hpa.2.1; have := HL.out; omega
    have hm0 : 0 < xm := hpa.1
    have hln : (pcL l (xa, xm)).length = xm := by unfold pcL; rw [List.length_take, List.length_drop]; have := HL.out; (try simp only); omega
    obtain ⟨ar, kr, hv, hfr⟩ := hlv.form
    rw [hv] at hlv ⊢
    clear hv
    obtain ⟨gr, rfl, hgr, hgr2⟩ : ∃ gr, ar = some ⟨gr, 0, none⟩ ∧ w5.heap.size + 2 + 5 ≤ gr ∧ gr < W.heap.size := by
      rcases hfr with h0 | ⟨gr, e, h1, h2, _⟩
      · rw [h0] at hln; simp at hln; omega
      · exact ⟨gr, e, h1, h2⟩
    rw [hln] at hlv ⊢
    have htot : tot (pre.map (·.1)) = xa := by have := hch.tot; omega
    have c0 := hI.c0
    have c3 := hI.c3
    rw [htot] at c3
    obtain ⟨ga, oa, rfl, -, hnc, -, -, -⟩ := (HR.out W hI.bel).at (k := 0) (by omega)
    have hpi : ∀ x ∈ pcL l (xa, xm), I64 x := fun x hx => HN.out.2.2.1 x (List.mem_of_mem_drop (List.mem_of_mem_take hx))
    have HSub : Hid (∀ W', IsGr W W' → Rd W' (.slice (some ⟨ga, oa + xa, none⟩) xm (c - xa)) (pcL l (xa, xm))) := fun W' hg' => by
      refine ⟨some ⟨ga, oa + xa, none⟩, c - xa, by rw [hln], by rw [hln]; omega, rfl, hpi, ?_⟩
      rw [hln]
      obtain ⟨g1, o1, e1, _, _, _, hlt, _⟩ := ((HR.out W hI.bel).gr hg').at (k := 0) (by omega)
      cases e1
      refine Or.inr ⟨ga, oa + xa, rfl, hlt, fun i hi => ?_⟩
      obtain ⟨g2, o2, e2, _, _, _, _, h1⟩ := ((HR.out W hI.bel).gr hg').at (k := xa + i) (by omega)
      cases e2
      rw [Nat.add_assoc, h1]
      unfold pcL
      rw [getD_take hi, getD_drop]
    have HPc : Hid (PcAt tq l xa xm ∧ Chn tq l 0 (pre.map (·.1)) xa) := ⟨hpa, hch⟩
    have HI : Hid (LwI w (some ⟨ga, oa, none⟩) n c stop pre W ∧ Lst W (w5.heap.size + 2 + 5) (.slice (some ⟨gr, 0, none⟩) xm kr) (pcL l (xa, xm)) ∧ tot (pre.map (·.1)) = xa ∧ w5.heap.size + 1 < W.heap.size) := ⟨hI, hlv, htot, hWs⟩
    have HX : Hid (xa + xm ≤ n ∧ 0 < xm ∧ n ≤ c ∧ n ≤ 150 ∧ w5.heap.size + 2 + 5 ≤ gr ∧ gr < W.heap.size ∧ w.heap.size + 5 ≤ w5.heap.size ∧ g < w5.heap.size ∧ (pcL l (xa, xm)).length = xm ∧ ∀ x ∈ pcL l (xa, xm), I64 x) := ⟨hxn, hm0, hnc, HL.out.2.2, hgr, hgr2, hlow, hgw, hln, hpi⟩
    have E1 := equal_any (.slice (some ⟨gr, 0, none⟩) xm kr) (.slice (some ⟨ga, oa + xa, none⟩) xm (c - xa)) (pcL l (xa, xm)) (pcL l (xa, xm)) W (Rd.of_lst hlv hpi) (HSub.out W (IsGr.refl W)) (by omega)
    rw [decide_eq_true rfl] at E1
    have z0 : ((xm : Int) == 0) = false := by simp; omega
    have z1 : ¬ (xm : Int) = 0 := by omega
    have z2 : IntKind.i64.wrap ((xa : Int) + (xm : Int)) = (xa : Int) + (xm : Int) := by rw [IntKind.wrap_i64]; omega
    have z3 : ¬ (n : Int) < (xa : Int) + (xm : Int) := by omega
    have z4 : (xa : Int) ≤ (xa : Int) + (xm : Int) := by omega
    have z5 : (xa : Int) + (xm : Int) ≤ (c : Int) := by omega
    have z6 : ¬ c = xa := by omega
    clear hI hch hpa hlv hfr hln htot hWs hxn hm0 hpi hgr hgr2 hnc
    gi_wp2
    refine ⟨trivial, ?_⟩
    refine (CallsIn.inRound lq (callsIn_wide.2 E1)).mono ?_
    clear E1
    rintro e W1 ⟨rfl, hg1⟩
    have HG1 : Hid (IsGr W W1) := hg1
    clear hg1 z0 z1 z2 z3 z4 z5 z6 c0 c3
    gi_wp2
    gi_loopw [9] (fun p9 w2 => ∃ j : Nat, p9 = .int .i64 j ∧ 0 < j ∧ j ≤ xm ∧ Hid (IsGr W w2)) (fun p9 _ => xm - (intOf p9).toNat)
    case atStart => exact ⟨1, rfl, by omega, by have := HX.out; omega, HG1.out⟩
    case round =>
      obtain ⟨j, rfl, hj0, hjm, HG⟩ := hrel
      by_cases hjx : j < xm
      · have hln := HX.out.2.2.2.2.2.2.2.2.1
        obtain ⟨q, hq⟩ : ∃ q, j - 1 = q := ⟨_, rfl⟩
        have hlr := HI.out.2.1.gr HG.out
        have ca := (hlr.at (i := q) (by omega)).1
        have cb := (hlr.at (i := j) (by omega)).1
        have hpe : tq ((pcL l (xa, xm)).getD q 0) = tq ((pcL l (xa, xm)).getD j 0) := by
          have := HPc.out.1.2.2.1 (xa + q) (by omega) (by omega)
          unfold pcL
          rw [getD_take (by simp only; omega), getD_take (by simp only; omega), getD_drop, getD_drop]
          rw [show xa + q + 1 = xa + j by omega] at this
          exact this
        have hx64 := getD_ints HX.out.2.2.2.2.2.2.2.2.2 (i := q) (by omega)
        have hy64 := getD_ints HX.out.2.2.2.2.2.2.2.2.2 (i := j) (by omega)
        obtain ⟨x, hx⟩ : ∃ x, (pcL l (xa, xm)).getD q 0 = x := ⟨_, rfl⟩
        obtain ⟨y, hy⟩ : ∃ x, (pcL l (xa, xm)).getD j 0 = x := ⟨_, rfl⟩
        rw [hx] at ca hx64 hpe
        rw [hy] at cb hy64 hpe
        have CT := fun w => tens_any x y hx64 hy64 w
        have hsg := tensI_sg x y
        have hd0 : tensI x y = 0 := by unfold Sg at hsg; omega
        simp only [hd0] at CT
        have hjq : (j : Int) - 1 = (q : Int) := by omega
        have er : IntKind.i64.wrap ((j : Int) - 1) = (q : Int) := by rw [IntKind.wrap_i64]; have := HX.out; omega
        have er2 : IntKind.i64.wrap (q : Int) = (q : Int) := by rw [IntKind.wrap_i64]; have := HX.out; omega
        have er3 : IntKind.i64.wrap (j : Int) = (j : Int) := by rw [IntKind.wrap_i64]; have := HX.out; omega
        have er4 : IntKind.i64.wrap ((j : Int) + 1) = (j : Int) + 1 := by rw [IntKind.wrap_i64]; have := HX.out; omega
        have hjx' : (j : Int) < xm := by omega
        have hqx' : (q : Int) < xm := by omega
        clear hlr hpe hx64 hy64 hsg hd0 hx hy hq hln
        gi_upto_region 13 with fail
        obtain ⟨C, hin, hcl, hcells, hgr⟩ : ∃ C : World → Prop, (∀ w', IsGr wr w' → C w') ∧ (∀ u u', C u → IsGr u u' → C u') ∧ (∀ w', C w' → (w'.cell? ⟨gr, q, none⟩ = some (.int .i64 x)) ∧ (w'.cell? ⟨gr, j, none⟩ = some (.int .i64 y))) ∧ (∀ w', C w' → IsGr wr w') := ⟨fun w' => IsGr wr w', fun _ h => h, fun _ _ h k => h.trans k, fun w' hg => ⟨cellk ca hg, cellk cb hg⟩, fun _ h => h⟩
        refine wpIn_region_held (S := C) (by kernel_rfl) (by kernel_rfl) (fun ⟨_, _, h⟩ => h) (by (try dsimp only); exact hin _ (by with_reducible repeat (first | exact IsGr.refl _ | refine IsGr.gr ?_ _ _ | refine IsGr.alloc ?_ _ | refine IsGr.drew ?_ | refine IsGr.drewN ?_ _))) (fun hHeld => ?_)
        refine wpAnyH_take (i := 0) (oi := { dst := some 50, op := Op.move (Operand.tmp 8), type := 22, pos := "law.go:81", after := #[], guard := none }) (v := ?_) rfl (by kernel_rfl) (by kernel_rfl) (by kernel_rfl) (fun _ _ _ h => h) (Or.inl ⟨by rfl, ?_⟩) (by assumption) ?_
        rotate_left
        · (intro w hSw; (try dsimp only at hSw); (try have hcs := hcells w hSw); (try go_split_ands); go_simp <;> with_reducible rfl)
        (try simp only [Act.put, List.setIfInBounds_toArray, List.set_cons_zero, List.set_cons_succ])
        refine wpAnyH_take (i := 1) (oi := { dst := some 51, op := Op.move (Operand.tmp 9), type := 3, pos := "law.go:81", after := #[], guard := none }) (v := ?_) rfl (by kernel_rfl) (by kernel_rfl) (by kernel_rfl) (fun _ _ _ h => h) (Or.inl ⟨by rfl, ?_⟩) (by assumption) ?_
        rotate_left
        · (intro w hSw; (try dsimp only at hSw); (try have hcs := hcells w hSw); (try go_split_ands); go_simp <;> with_reducible rfl)
        (try simp only [Act.put, List.setIfInBounds_toArray, List.set_cons_zero, List.set_cons_succ])
        refine wpAnyH_take (i := 2) (oi := { dst := some 52, op := Op.binOp BinOp.sub 3 (Operand.tmp 51) (Operand.const (Value.int IntKind.i64 1)) 3, type := 3, pos := "law.go:81", after := #[{ on := 1, ground := Ground.data }], guard := none }) (v := ?_) rfl (by kernel_rfl) (by kernel_rfl) (by kernel_rfl) (fun _ _ _ h => h) (Or.inl ⟨by rfl, ?_⟩) (by assumption) ?_
        rotate_left
        · (intro w hSw; (try dsimp only at hSw); (try have hcs := hcells w hSw); (try go_split_ands); go_simp <;> with_reducible rfl)
        (try simp only [Act.put, List.setIfInBounds_toArray, List.set_cons_zero, List.set_cons_succ])
        refine wpAnyH_take (i := 3) (oi := { dst := some 53, op := Op.indexAddr 22 (Operand.tmp 50) (Operand.tmp 52), type := 0, pos := "law.go:81", after := #[{ on := 0, ground := Ground.data }, { on := 2, ground := Ground.data }], guard := none }) (v := ?_) rfl (by kernel_rfl) (by kernel_rfl) (by kernel_rfl) (fun _ _ _ h => h) (Or.inl ⟨by rfl, ?_⟩) (by assumption) ?_
        rotate_left
        · (intro w hSw; (try dsimp only at hSw); (try have hcs := hcells w hSw); (try go_split_ands); go_simp <;> with_reducible rfl)
        (try simp only [Act.put, List.setIfInBounds_toArray, List.set_cons_zero, List.set_cons_succ])
        refine wpAnyH_take (i := 4) (oi := { dst := some 54, op := Op.load 3 (Operand.tmp 53), type := 3, pos := "law.go:81", after := #[{ on := 3, ground := Ground.data }], guard := none }) (v := ?_) rfl (by kernel_rfl) (by kernel_rfl) (by kernel_rfl) (fun _ _ _ h => h) (Or.inl ⟨by rfl, ?_⟩) (by assumption) ?_
        rotate_left
        · (intro w hSw; (try dsimp only at hSw); (try have hcs := hcells w hSw); (try go_split_ands); go_simp <;> with_reducible rfl)
        (try simp only [Act.put, List.setIfInBounds_toArray, List.set_cons_zero, List.set_cons_succ])
        refine wpAnyH_take (i := 5) (oi := { dst := some 55, op := Op.move (Operand.tmp 8), type := 22, pos := "law.go:81", after := #[], guard := none }) (v := ?_) rfl (by kernel_rfl) (by kernel_rfl) (by kernel_rfl) (fun _ _ _ h => h) (Or.inl ⟨by rfl, ?_⟩) (by assumption) ?_
        rotate_left
        · (intro w hSw; (try dsimp only at hSw); (try have hcs := hcells w hSw); (try go_split_ands); go_simp <;> with_reducible rfl)
        (try simp only [Act.put, List.setIfInBounds_toArray, List.set_cons_zero, List.set_cons_succ])
        refine wpAnyH_take (i := 6) (oi := { dst := some 56, op := Op.move (Operand.tmp 9), type := 3, pos := "law.go:81", after := #[], guard := none }) (v := ?_) rfl (by kernel_rfl) (by kernel_rfl) (by kernel_rfl) (fun _ _ _ h => h) (Or.inl ⟨by rfl, ?_⟩) (by assumption) ?_
        rotate_left
        · (intro w hSw; (try dsimp only at hSw); (try have hcs := hcells w hSw); (try go_split_ands); go_simp <;> with_reducible rfl)
        (try simp only [Act.put, List.setIfInBounds_toArray, List.set_cons_zero, List.set_cons_succ])
        refine wpAnyH_take (i := 7) (oi := { dst := some 57, op := Op.indexAddr 22 (Operand.tmp 55) (Operand.tmp 56), type := 0, pos := "law.go:81", after := #[{ on := 5, ground := Ground.data }, { on := 6, ground := Ground.data }], guard := none }) (v := ?_) rfl (by kernel_rfl) (by kernel_rfl) (by kernel_rfl) (fun _ _ _ h => h) (Or.inl ⟨by rfl, ?_⟩) (by assumption) ?_
        rotate_left
        · (intro w hSw; (try dsimp only at hSw); (try have hcs := hcells w hSw); (try go_split_ands); go_simp <;> with_reducible rfl)
        (try simp only [Act.put, List.setIfInBounds_toArray, List.set_cons_zero, List.set_cons_succ])
        refine wpAnyH_take (i := 8) (oi := { dst := some 58, op := Op.load 3 (Operand.tmp 57), type := 3, pos := "law.go:81", after := #[{ on := 7, ground := Ground.data }], guard := none }) (v := ?_) rfl (by kernel_rfl) (by kernel_rfl) (by kernel_rfl) (fun _ _ _ h => h) (Or.inl ⟨by rfl, ?_⟩) (by assumption) ?_
        rotate_left
        · (intro w hSw; (try dsimp only at hSw); (try have hcs := hcells w hSw); (try go_split_ands); go_simp <;> with_reducible rfl)
        (try simp only [Act.put, List.setIfInBounds_toArray, List.set_cons_zero, List.set_cons_succ])
        refine wpAnyH_ready (rs := [9]) (by kernel_rfl) (by simp) ?_
        refine AllReadyH.cons (o := { dst := some 59, op := Op.call { callee := Callee.value (Operand.func 11), args := #[Operand.tmp 54, Operand.tmp 58], argTypes := #[3, 3] }, type := 3, pos := "law.go:81", after := #[{ on := 4, ground := Ground.data }, { on := 8, ground := Ground.data }], guard := none }) rfl (fun K hK => ?_) AllReadyH.nil
        go_simp
        refine (CT _).mono ?_
        rintro e w3 ⟨rfl, e3⟩
        obtain rfl := e3.symm
        (try go_wp2_with fail)
        refine hK.out _ _ (by (try dsimp only); exact hcl _ _ hHeld (by first | with_reducible assumption | with_reducible exact IsGr.refl _ | with_reducible exact (IsGr.refl _).alloc _ | with_reducible exact ((IsGr.refl _).alloc _).alloc _ | assumption)) (fun hHeld2 => ?_)
        clear hK K hHeld
        have hHeld := hHeld2
        clear hHeld2
        (try simp only [Act.put, List.setIfInBounds_toArray, List.set_cons_zero, List.set_cons_succ])
        refine wpAnyH_take (i := 10) (oi := { dst := some 60, op := Op.binOp BinOp.neq 3 (Operand.tmp 59) (Operand.const (Value.int IntKind.i64 0)) 3, type := 4, pos := "law.go:81", after := #[{ on := 9, ground := Ground.data }], guard := none }) (v := ?_) rfl (by kernel_rfl) (by kernel_rfl) (by kernel_rfl) (fun _ _ _ h => h) (Or.inl ⟨by rfl, ?_⟩) (by assumption) ?_
        rotate_left
        · (intro w hSw; (try dsimp only at hSw); (try have hcs := hcells w hSw); (try go_split_ands); go_simp <;> with_reducible rfl)
        (try simp only [Act.put, List.setIfInBounds_toArray, List.set_cons_zero, List.set_cons_succ])
        refine wpAnyH_done (by kernel_rfl) ?_ _
        have hg2 := hgr _ hHeld
        clear hHeld hgr hin hcl hcells ca cb CT er er2 er3 hjq
        gi_wp2
        go_roundw
        case rel => exact ⟨j + 1, by simp, by omega, by omega, HG.out.trans hg2⟩
        case measure => simp [intOf]; omega
      · have HJ : Hid (j = xm) := by show j = xm; omega
        have hjx' : ¬ (j : Int) < xm := by omega
        clear hj0 hjm hjx
        have hI := HI.out.1.gr HG.out
        have c0 := hI.c0
        have c3 := hI.c3
        rw [HI.out.2.2.1] at c3
        have c1 := hI.c1
        clear hI
        by_cases hx0 : xa = 0
        · have HX0 : Hid (xa = 0) := hx0
          clear hx0
          gi_upto_region 15 with fail
          have hd1 : decide (0 < xa) = false := decide_eq_false (by have := HX0.out; omega)
          obtain ⟨C, hin, hcl, hcells, hgr⟩ : ∃ C : World → Prop, (∀ w', IsGr wr w' → C w') ∧ (∀ u u', C u → IsGr u u' → C u') ∧ (∀ w', C w' → (w'.cell? ⟨w.heap.size + 1 + 1 + 1, 0, none⟩ = some (.int .i64 xa))) ∧ (∀ w', C w' → IsGr wr w') := ⟨fun w' => IsGr wr w', fun _ h => h, fun _ _ h k => h.trans k, fun w' hg => cellk c3 hg, fun _ h => h⟩
          refine wpIn_region_held (S := C) (by kernel_rfl) (by kernel_rfl) (fun ⟨_, _, h⟩ => h) (by (try dsimp only); exact hin _ (by with_reducible repeat (first | exact IsGr.refl _ | refine IsGr.gr ?_ _ _ | refine IsGr.alloc ?_ _ | refine IsGr.drew ?_ | refine IsGr.drewN ?_ _))) (fun hHeld => ?_)
          refine wpAnyH_take (i := 0) (oi := { dst := some 61, op := Op.load 3 (Operand.tmp 5), type := 3, pos := "law.go:85", after := #[], guard := none }) (v := ?_) rfl (by kernel_rfl) (by kernel_rfl) (by kernel_rfl) (fun _ _ _ h => h) (Or.inl ⟨by rfl, ?_⟩) (by assumption) ?_
          rotate_left
          · (intro w hSw; (try dsimp only at hSw); (try have hcs := hcells w hSw); (try go_split_ands); go_simp <;> with_reducible rfl)
          (try simp only [Act.put, List.setIfInBounds_toArray, List.set_cons_zero, List.set_cons_succ])
          refine wpAnyH_take (i := 1) (oi := { dst := some 62, op := Op.binOp BinOp.gtr 3 (Operand.tmp 61) (Operand.const (Value.int IntKind.i64 0)) 3, type := 4, pos := "law.go:85", after := #[{ on := 0, ground := Ground.data }], guard := none }) (v := ?_) rfl (by kernel_rfl) (by kernel_rfl) (by kernel_rfl) (fun _ _ _ h => h) (Or.inl ⟨by rfl, ?_⟩) (by assumption) ?_
          rotate_left
          · (intro w hSw; (try dsimp only at hSw); (try have hcs := hcells w hSw); (try go_split_ands); go_simp <;> with_reducible rfl)
          (try simp only [Act.put, List.setIfInBounds_toArray, List.set_cons_zero, List.set_cons_succ])
          refine wpAnyH_take (i := 2) (oi := { dst := some 63, op := Op.move (Operand.tmp 62), type := 4, pos := "law.go:85", after := #[{ on := 1, ground := Ground.data }], guard := none }) (v := ?_) rfl (by kernel_rfl) (by kernel_rfl) (by kernel_rfl) (fun _ _ _ h => h) (Or.inl ⟨by rfl, ?_⟩) (by assumption) ?_
          rotate_left
          · (intro w hSw; (try dsimp only at hSw); (try have hcs := hcells w hSw); (try go_split_ands); go_simp <;> with_reducible rfl)
          (try simp only [Act.put, List.setIfInBounds_toArray, List.set_cons_zero, List.set_cons_succ])
          refine wpAnyH_take (i := 3) (oi := { dst := some 64, op := Op.load 22 (Operand.tmp 2), type := 22, pos := "law.go:85", after := #[{ on := 2, ground := Ground.guard }], guard := some (2, true) }) (v := undef) rfl (by kernel_rfl) (by kernel_rfl) (by kernel_rfl) (fun _ _ _ h => h) (Or.inr ⟨by rfl, rfl⟩) (by assumption) ?_
          (try simp only [Act.put, List.setIfInBounds_toArray, List.set_cons_zero, List.set_cons_succ])
          refine wpAnyH_take (i := 4) (oi := { dst := some 65, op := Op.load 3 (Operand.tmp 5), type := 3, pos := "law.go:85", after := #[{ on := 2, ground := Ground.guard }], guard := some (2, true) }) (v := undef) rfl (by kernel_rfl) (by kernel_rfl) (by kernel_rfl) (fun _ _ _ h => h) (Or.inr ⟨by rfl, rfl⟩) (by assumption) ?_
          (try simp only [Act.put, List.setIfInBounds_toArray, List.set_cons_zero, List.set_cons_succ])
          refine wpAnyH_take (i := 5) (oi := { dst := some 66, op := Op.binOp BinOp.sub 3 (Operand.tmp 65) (Operand.const (Value.int IntKind.i64 1)) 3, type := 3, pos := "law.go:85", after := #[{ on := 4, ground := Ground.data }, { on := 2, ground := Ground.guard }], guard := some (2, true) }) (v := undef) rfl (by kernel_rfl) (by kernel_rfl) (by kernel_rfl) (fun _ _ _ h => h) (Or.inr ⟨by rfl, rfl⟩) (by assumption) ?_
          (try simp only [Act.put, List.setIfInBounds_toArray, List.set_cons_zero, List.set_cons_succ])
          refine wpAnyH_take (i := 6) (oi := { dst := some 67, op := Op.indexAddr 22 (Operand.tmp 64) (Operand.tmp 66), type := 0, pos := "law.go:85", after := #[{ on := 3, ground := Ground.data }, { on := 5, ground := Ground.data }, { on := 2, ground := Ground.guard }], guard := some (2, true) }) (v := undef) rfl (by kernel_rfl) (by kernel_rfl) (by kernel_rfl) (fun _ _ _ h => h) (Or.inr ⟨by rfl, rfl⟩) (by assumption) ?_
          (try simp only [Act.put, List.setIfInBounds_toArray, List.set_cons_zero, List.set_cons_succ])
          refine wpAnyH_take (i := 7) (oi := { dst := some 68, op := Op.load 3 (Operand.tmp 67), type := 3, pos := "law.go:85", after := #[{ on := 6, ground := Ground.data }, { on := 2, ground := Ground.guard }], guard := some (2, true) }) (v := undef) rfl (by kernel_rfl) (by kernel_rfl) (by kernel_rfl) (fun _ _ _ h => h) (Or.inr ⟨by rfl, rfl⟩) (by assumption) ?_
          (try simp only [Act.put, List.setIfInBounds_toArray, List.set_cons_zero, List.set_cons_succ])
          refine wpAnyH_take (i := 8) (oi := { dst := some 69, op := Op.load 22 (Operand.tmp 2), type := 22, pos := "law.go:85", after := #[{ on := 2, ground := Ground.guard }], guard := some (2, true) }) (v := undef) rfl (by kernel_rfl) (by kernel_rfl) (by kernel_rfl) (fun _ _ _ h => h) (Or.inr ⟨by rfl, rfl⟩) (by assumption) ?_
          (try simp only [Act.put, List.setIfInBounds_toArray, List.set_cons_zero, List.set_cons_succ])
          refine wpAnyH_take (i := 9) (oi := { dst := some 70, op := Op.load 3 (Operand.tmp 5), type := 3, pos := "law.go:85", after := #[{ on := 2, ground := Ground.guard }], guard := some (2, true) }) (v := undef) rfl (by kernel_rfl) (by kernel_rfl) (by kernel_rfl) (fun _ _ _ h => h) (Or.inr ⟨by rfl, rfl⟩) (by assumption) ?_
          (try simp only [Act.put, List.setIfInBounds_toArray, List.set_cons_zero, List.set_cons_succ])
          refine wpAnyH_take (i := 10) (oi := { dst := some 71, op := Op.indexAddr 22 (Operand.tmp 69) (Operand.tmp 70), type := 0, pos := "law.go:85", after := #[{ on := 8, ground := Ground.data }, { on := 9, ground := Ground.data }, { on := 2, ground := Ground.guard }], guard := some (2, true) }) (v := undef) rfl (by kernel_rfl) (by kernel_rfl) (by kernel_rfl) (fun _ _ _ h => h) (Or.inr ⟨by rfl, rfl⟩) (by assumption) ?_
          (try simp only [Act.put, List.setIfInBounds_toArray, List.set_cons_zero, List.set_cons_succ])
          refine wpAnyH_take (i := 11) (oi := { dst := some 72, op := Op.load 3 (Operand.tmp 71), type := 3, pos := "law.go:85", after := #[{ on := 10, ground := Ground.data }, { on := 2, ground := Ground.guard }], guard := some (2, true) }) (v := undef) rfl (by kernel_rfl) (by kernel_rfl) (by kernel_rfl) (fun _ _ _ h => h) (Or.inr ⟨by rfl, rfl⟩) (by assumption) ?_
          (try simp only [Act.put, List.setIfInBounds_toArray, List.set_cons_zero, List.set_cons_succ])
          refine wpAnyH_take (i := 12) (oi := { dst := some 73, op := Op.call { callee := Callee.value (Operand.func 11), args := #[Operand.tmp 68, Operand.tmp 72], argTypes := #[3, 3] }, type := 3, pos := "law.go:85", after := #[{ on := 7, ground := Ground.data }, { on := 11, ground := Ground.data }, { on := 2, ground := Ground.chain }, { on := 2, ground := Ground.guard }], guard := some (2, true) }) (v := undef) rfl (by kernel_rfl) (by kernel_rfl) (by kernel_rfl) (fun _ _ _ h => h) (Or.inr ⟨by rfl, rfl⟩) (by assumption) ?_
          (try simp only [Act.put, List.setIfInBounds_toArray, List.set_cons_zero, List.set_cons_succ])
          refine wpAnyH_take (i := 13) (oi := { dst := some 74, op := Op.binOp BinOp.eql 3 (Operand.tmp 73) (Operand.const (Value.int IntKind.i64 0)) 3, type := 4, pos := "law.go:85", after := #[{ on := 12, ground := Ground.data }, { on := 2, ground := Ground.guard }], guard := some (2, true) }) (v := undef) rfl (by kernel_rfl) (by kernel_rfl) (by kernel_rfl) (fun _ _ _ h => h) (Or.inr ⟨by rfl, rfl⟩) (by assumption) ?_
          (try simp only [Act.put, List.setIfInBounds_toArray, List.set_cons_zero, List.set_cons_succ])
          refine wpAnyH_take (i := 14) (oi := { dst := some 75, op := Op.pick (Operand.tmp 63) (Operand.tmp 74) (Operand.const (Value.bool false)), type := 4, pos := "law.go:85", after := #[{ on := 2, ground := Ground.data }, { on := 13, ground := Ground.data }], guard := none }) (v := ?_) rfl (by kernel_rfl) (by kernel_rfl) (by kernel_rfl) (fun _ _ _ h => h) (Or.inl ⟨by rfl, ?_⟩) (by assumption) ?_
          rotate_left
          · (intro w hSw; (try dsimp only at hSw); (try have hcs := hcells w hSw); (try go_split_ands); go_simp <;> with_reducible rfl)
          (try simp only [Act.put, List.setIfInBounds_toArray, List.set_cons_zero, List.set_cons_succ])
          refine wpAnyH_done (by kernel_rfl) ?_ _
          have hgq := hgr _ hHeld
          obtain ⟨wq, hwq⟩ : ∃ W, W = wr.drew := ⟨_, rfl⟩
          rw [← hwq] at hgq ⊢
          clear hHeld hgr hin hcl hcells hd1 hwq c0 c1 c3
          have HGq : Hid (IsGr W wq) := HG.out.trans hgq
          clear hgq
          have hIq := HI.out.1.gr HGq.out
          have c3 := hIq.c3
          rw [HI.out.2.2.1] at c3
          have f3 := hIq.f3
          have z2 : IntKind.i64.wrap ((xa : Int) + (xm : Int)) = (xa : Int) + (xm : Int) := by rw [IntKind.wrap_i64]; have := HX.out; omega
          have hp9 : pre.length ≤ 150 := by have := HPc.out.2.len; rw [List.length_map] at this; have := HX.out; omega
          clear hIq
          gi_upto_region 18 with fail
          obtain ⟨r1, r2⟩ := (HI.out.2.1.gr HGq.out).at (i := 0) HX.out.2.1
          have c5 : (wq.setCell ⟨w.heap.size + 1 + 1 + 1, 0, none⟩ (.int .i64 ((xa : Int) + (xm : Int)))).cell? ⟨gr, 0, none⟩ = some (.int .i64 ((pcL l (xa, xm)).getD 0 0)) := by rw [cell_o _ _ _ (by have := HX.out; omega)]; exact r1
          have f5 : (wq.setCell ⟨w.heap.size + 1 + 1 + 1, 0, none⟩ (.int .i64 ((xa : Int) + (xm : Int)))).frozen? ⟨gr, 0, none⟩ = false := by rw [World.frozen?_setCell]; exact r2
          have c4 : ((wq.setCell ⟨w.heap.size + 1 + 1 + 1, 0, none⟩ (.int .i64 ((xa : Int) + (xm : Int)))).setCell ⟨gr, 0, none⟩ (.int .i64 1)).cell? ⟨w.heap.size + 1 + 1 + 1 + 1, 0, none⟩ = some (.int .i64 (pre.length : Nat)) := by rw [cell_o _ _ _ (by have := HX.out; omega), cell_o _ _ _ (by omega)]; exact (HI.out.1.gr HGq.out).c4
          have f4 : ((wq.setCell ⟨w.heap.size + 1 + 1 + 1, 0, none⟩ (.int .i64 ((xa : Int) + (xm : Int)))).setCell ⟨gr, 0, none⟩ (.int .i64 1)).frozen? ⟨w.heap.size + 1 + 1 + 1 + 1, 0, none⟩ = false := by rw [World.frozen?_setCell, World.frozen?_setCell]; exact (HI.out.1.gr HGq.out).f4
          have FF := law_step (v := .slice (some ⟨gr, 0, none⟩) xm kr) (xm := xm) HI.out.1 HGq.out (gr := gr) (by have := HX.out; omega) HI.out.2.2.1
          obtain ⟨y0, hy0⟩ : ∃ y, (pcL l (xa, xm)).getD 0 0 = y := ⟨_, rfl⟩
          rw [hy0] at c5
          obtain ⟨W2, hW2⟩ : ∃ W, wq.setCell ⟨w.heap.size + 1 + 1 + 1, 0, none⟩ (.int .i64 ((xa : Int) + (xm : Int))) = W := ⟨_, rfl⟩
          unfold lawW at FF
          rw [hW2] at c5 f5 c4 f4 FF ⊢
          have hxm9 : (0 : Int) < xm := by have := HX.out; omega
          clear r1 r2 hy0 c3 f3 z2 hW2
          gi_upto_region 19 with fail
          obtain ⟨W3, hW3⟩ : ∃ W, W2.setCell ⟨gr, 0, none⟩ (.int .i64 1) = W := ⟨_, rfl⟩
          rw [hW3] at c4 f4 FF ⊢
          have z3 : IntKind.i64.wrap ((pre.length : Int) + 1) = (pre.length : Int) + 1 := by rw [IntKind.wrap_i64]; omega
          clear c5 f5 hW3 hxm9
          gi_upto_region 20 with fail
          obtain ⟨W4, hW4⟩ : ∃ W, W3.setCell ⟨w.heap.size + 1 + 1 + 1 + 1, 0, none⟩ (.int .i64 ((pre.length : Int) + 1)) = W := ⟨_, rfl⟩
          rw [hW4] at FF ⊢
          have HF : Hid (LwI w (some ⟨ga, oa, none⟩) n c stop (pre ++ [((xa, xm), .slice (some ⟨gr, 0, none⟩) xm kr)]) W4 ∧ Wr [w.heap.size + 1 + 1 + 1, gr, w.heap.size + 1 + 1 + 1 + 1] W W4) := FF
          have c4 := FF.1.c4
          rw [List.length_append, List.length_cons, List.length_nil] at c4
          have c4' : W4.cell? ⟨w.heap.size + 1 + 1 + 1 + 1, 0, none⟩ = some (.int .i64 ((pre.length : Int) + 1)) := by rw [c4]; simp
          have c1' := FF.1.c1
          have KK : Hid (∀ b, b < W.heap.size → b ≠ w.heap.size + 1 + 1 + 1 → b ≠ gr → b ≠ w.heap.size + 1 + 1 + 1 + 1 → W4.heap[b]? = W.heap[b]?) := fun b hb h1 h2 h3 => FF.2.block b hb (by simp; omega)
          have HW4 : Hid (W.heap.size ≤ W4.heap.size) := FF.2.size
          clear FF c4 z3 hW4
          by_cases hss : (pre.length : Int) + 1 = stop
          · have hs1 : ((pre.length : Int) + 1 == stop) = true := by simpa using hss
            have CA := awake_any W4
            clear hss
            gi_wp2
            refine ⟨trivial, ?_⟩
            refine (CallsIn.inRound lq (callsIn_wide.2 CA)).mono ?_
            clear CA
            rintro e W5 ⟨rfl, hb5⟩
            have h2 := (hb5.cell (p := ⟨w.heap.size + 1 + 1, 0, none⟩) (block_lt HF.out.1.c2)).trans HF.out.1.c2
            have k2 := (hb5.frozen (p := ⟨w.heap.size + 1 + 1, 0, none⟩) (block_lt HF.out.1.c2)).trans HF.out.1.f2
            have hz : ∀ b, b < W.heap.size → b ≠ w.heap.size + 1 + 1 → b ≠ w.heap.size + 1 + 1 + 1 → b ≠ gr → b ≠ w.heap.size + 1 + 1 + 1 + 1 → (W5.setCell ⟨w.heap.size + 1 + 1, 0, none⟩ (.bool true)).heap[b]? = W.heap[b]? := fun b hb h0 h1 h2 h3 => by
              rw [set_block _ _ _ _ _ h0]
              exact (hb5.block b (by have := HW4.out; omega)).trans (KK.out b hb h1 h2 h3)
            have hsz : W.heap.size ≤ (W5.setCell ⟨w.heap.size + 1 + 1, 0, none⟩ (.bool true)).heap.size := by rw [set_size]; have := HW4.out; have := hb5.size; omega
            have FX : Hid _ := And.intro (And.intro (show KeptB w5.heap.size W (W5.setCell ⟨w.heap.size + 1 + 1, 0, none⟩ (.bool true)) from ⟨hsz, fun b hb => hz b (by have := HI.out.2.2.2; omega) (by have := HX.out; omega) (by have := HX.out; omega) (by have := HX.out; omega) (by have := HX.out; omega)⟩)
              (show KpZ [g, w5.heap.size + 2, w5.heap.size + 2 + 1, w5.heap.size + 2 + 2, w5.heap.size + 2 + 3, w5.heap.size + 2 + 4] W (W5.setCell ⟨w.heap.size + 1 + 1, 0, none⟩ (.bool true)) from ⟨hsz, fun b hb => by
                simp only [List.mem_cons, List.not_mem_nil, or_false] at hb
                have h1 := HX.out
                have h2 := HGZ.out
                exact hz b (by omega) (by omega) (by omega) (by omega) (by omega)⟩))
              (show LwX w (W5.setCell ⟨w.heap.size + 1 + 1, 0, none⟩ (.bool true)) from ⟨⟨cell_s h2, by rw [World.frozen?_setCell]; exact k2⟩, (HF.out.1.bel.trans (hb5.mono HF.out.1.bel.size)).setCell (p := ⟨w.heap.size + 1 + 1, 0, none⟩) (by simp; omega) _, by rw [set_size]; have := HF.out.1.size; have := hb5.size; omega⟩)
            clear hz hsz hb5 c1' c4' hs1
            gi_wp2
            exact ⟨FX.out.1, rfl, FX.out.2⟩
          · have hs1 : ((pre.length : Int) + 1 == stop) = false := by simpa using hss
            have FX : Hid _ := And.intro (And.intro (show KeptB w5.heap.size W W4 from ⟨HW4.out, fun b hb => KK.out b (by have := HI.out.2.2.2; omega) (by have := HX.out; omega) (by have := HX.out; omega) (by have := HX.out; omega)⟩)
              (show KpZ [g, w5.heap.size + 2, w5.heap.size + 2 + 1, w5.heap.size + 2 + 2, w5.heap.size + 2 + 3, w5.heap.size + 2 + 4] W W4 from ⟨HW4.out, fun b hb => by
                simp only [List.mem_cons, List.not_mem_nil, or_false] at hb
                have h1 := HX.out
                have h2 := HGZ.out
                exact KK.out b (by omega) (by omega) (by omega) (by omega)⟩)) HF.out.1
            clear hss
            gi_wp2
            exact FX.out
        · obtain ⟨q, hq⟩ : ∃ q, xa - 1 = q := ⟨_, rfl⟩
          have hL := HR.out wr (HI.out.1.gr HG.out).bel
          obtain ⟨g1, o1, e1, -, -, hx64, -, ca⟩ := hL.at (k := q) (by have := HX.out; omega)
          cases e1
          obtain ⟨g1, o1, e1, -, -, hy64, -, cb⟩ := hL.at (k := xa) (by have := HX.out; omega)
          cases e1
          have hne : tq (l.getD q 0) ≠ tq (l.getD xa 0) := by
            have := HPc.out.2.last (by omega) (by have := HX.out; have := HL.out; omega)
            rwa [hq] at this
          obtain ⟨x, hx⟩ : ∃ x, l.getD q 0 = x := ⟨_, rfl⟩
          obtain ⟨y, hy⟩ : ∃ x, l.getD xa 0 = x := ⟨_, rfl⟩
          rw [hx] at ca hx64 hne
          rw [hy] at cb hy64 hne
          have CT := fun w => tens_any x y hx64 hy64 w
          have hsg := tensI_sg x y
          obtain ⟨d, hd⟩ : ∃ d, tensI x y = d := ⟨_, rfl⟩
          rw [hd] at hsg
          simp only [hd] at CT
          have hd0 : (d == 0) = false := by unfold Sg at hsg; simp; omega
          have HX0 : Hid (0 < xa) := by show 0 < xa; omega
          have hxq : (xa : Int) - 1 = (q : Int) := by omega
          have er : IntKind.i64.wrap ((xa : Int) - 1) = (q : Int) := by rw [IntKind.wrap_i64]; have := HX.out; omega
          have er2 : IntKind.i64.wrap (q : Int) = (q : Int) := by rw [IntKind.wrap_i64]; have := HX.out; omega
          have er3 : IntKind.i64.wrap (xa : Int) = (xa : Int) := by rw [IntKind.wrap_i64]; have := HX.out; omega
          have hqn : (q : Int) < n := by have := HX.out; omega
          have hxan : (xa : Int) < n := by have := HX.out; omega
          clear hx0 hL hx64 hy64 hne hsg hx hy hq hd
          gi_upto_region 15 with fail
          have hd1 : decide (0 < xa) = true := decide_eq_true HX0.out
          obtain ⟨C, hin, hcl, hcells, hgr⟩ : ∃ C : World → Prop, (∀ w', IsGr wr w' → C w') ∧ (∀ u u', C u → IsGr u u' → C u') ∧ (∀ w', C w' → (w'.cell? ⟨w.heap.size + 1 + 1 + 1, 0, none⟩ = some (.int .i64 xa)) ∧ (w'.cell? ⟨w.heap.size, 0, none⟩ = some (.slice (some ⟨ga, oa, none⟩) n c)) ∧ (w'.cell? ⟨ga, oa + q, none⟩ = some (.int .i64 x)) ∧ (w'.cell? ⟨ga, oa + xa, none⟩ = some (.int .i64 y))) ∧ (∀ w', C w' → IsGr wr w') := ⟨fun w' => IsGr wr w', fun _ h => h, fun _ _ h k => h.trans k, fun w' hg => ⟨cellk c3 hg, cellk c0 hg, cellk ca hg, cellk cb hg⟩, fun _ h => h⟩
          refine wpIn_region_held (S := C) (by kernel_rfl) (by kernel_rfl) (fun ⟨_, _, h⟩ => h) (by (try dsimp only); exact hin _ (by with_reducible repeat (first | exact IsGr.refl _ | refine IsGr.gr ?_ _ _ | refine IsGr.alloc ?_ _ | refine IsGr.drew ?_ | refine IsGr.drewN ?_ _))) (fun hHeld => ?_)
          refine wpAnyH_take (i := 0) (oi := { dst := some 61, op := Op.load 3 (Operand.tmp 5), type := 3, pos := "law.go:85", after := #[], guard := none }) (v := ?_) rfl (by kernel_rfl) (by kernel_rfl) (by kernel_rfl) (fun _ _ _ h => h) (Or.inl ⟨by rfl, ?_⟩) (by assumption) ?_
          rotate_left
          · (intro w hSw; (try dsimp only at hSw); (try have hcs := hcells w hSw); (try go_split_ands); go_simp <;> with_reducible rfl)
          (try simp only [Act.put, List.setIfInBounds_toArray, List.set_cons_zero, List.set_cons_succ])
          refine wpAnyH_take (i := 1) (oi := { dst := some 62, op := Op.binOp BinOp.gtr 3 (Operand.tmp 61) (Operand.const (Value.int IntKind.i64 0)) 3, type := 4, pos := "law.go:85", after := #[{ on := 0, ground := Ground.data }], guard := none }) (v := ?_) rfl (by kernel_rfl) (by kernel_rfl) (by kernel_rfl) (fun _ _ _ h => h) (Or.inl ⟨by rfl, ?_⟩) (by assumption) ?_
          rotate_left
          · (intro w hSw; (try dsimp only at hSw); (try have hcs := hcells w hSw); (try go_split_ands); go_simp <;> with_reducible rfl)
          (try simp only [Act.put, List.setIfInBounds_toArray, List.set_cons_zero, List.set_cons_succ])
          refine wpAnyH_take (i := 2) (oi := { dst := some 63, op := Op.move (Operand.tmp 62), type := 4, pos := "law.go:85", after := #[{ on := 1, ground := Ground.data }], guard := none }) (v := ?_) rfl (by kernel_rfl) (by kernel_rfl) (by kernel_rfl) (fun _ _ _ h => h) (Or.inl ⟨by rfl, ?_⟩) (by assumption) ?_
          rotate_left
          · (intro w hSw; (try dsimp only at hSw); (try have hcs := hcells w hSw); (try go_split_ands); go_simp <;> with_reducible rfl)
          (try simp only [Act.put, List.setIfInBounds_toArray, List.set_cons_zero, List.set_cons_succ])
          refine wpAnyH_take (i := 3) (oi := { dst := some 64, op := Op.load 22 (Operand.tmp 2), type := 22, pos := "law.go:85", after := #[{ on := 2, ground := Ground.guard }], guard := some (2, true) }) (v := ?_) rfl (by kernel_rfl) (by kernel_rfl) (by kernel_rfl) (fun _ _ _ h => h) (Or.inl ⟨by rfl, ?_⟩) (by assumption) ?_
          rotate_left
          · (intro w hSw; (try dsimp only at hSw); (try have hcs := hcells w hSw); (try go_split_ands); go_simp <;> with_reducible rfl)
          (try simp only [Act.put, List.setIfInBounds_toArray, List.set_cons_zero, List.set_cons_succ])
          refine wpAnyH_take (i := 4) (oi := { dst := some 65, op := Op.load 3 (Operand.tmp 5), type := 3, pos := "law.go:85", after := #[{ on := 2, ground := Ground.guard }], guard := some (2, true) }) (v := ?_) rfl (by kernel_rfl) (by kernel_rfl) (by kernel_rfl) (fun _ _ _ h => h) (Or.inl ⟨by rfl, ?_⟩) (by assumption) ?_
          rotate_left
          · (intro w hSw; (try dsimp only at hSw); (try have hcs := hcells w hSw); (try go_split_ands); go_simp <;> with_reducible rfl)
          (try simp only [Act.put, List.setIfInBounds_toArray, List.set_cons_zero, List.set_cons_succ])
          refine wpAnyH_take (i := 5) (oi := { dst := some 66, op := Op.binOp BinOp.sub 3 (Operand.tmp 65) (Operand.const (Value.int IntKind.i64 1)) 3, type := 3, pos := "law.go:85", after := #[{ on := 4, ground := Ground.data }, { on := 2, ground := Ground.guard }], guard := some (2, true) }) (v := ?_) rfl (by kernel_rfl) (by kernel_rfl) (by kernel_rfl) (fun _ _ _ h => h) (Or.inl ⟨by rfl, ?_⟩) (by assumption) ?_
          rotate_left
          · (intro w hSw; (try dsimp only at hSw); (try have hcs := hcells w hSw); (try go_split_ands); go_simp <;> with_reducible rfl)
          (try simp only [Act.put, List.setIfInBounds_toArray, List.set_cons_zero, List.set_cons_succ])
          refine wpAnyH_take (i := 6) (oi := { dst := some 67, op := Op.indexAddr 22 (Operand.tmp 64) (Operand.tmp 66), type := 0, pos := "law.go:85", after := #[{ on := 3, ground := Ground.data }, { on := 5, ground := Ground.data }, { on := 2, ground := Ground.guard }], guard := some (2, true) }) (v := ?_) rfl (by kernel_rfl) (by kernel_rfl) (by kernel_rfl) (fun _ _ _ h => h) (Or.inl ⟨by rfl, ?_⟩) (by assumption) ?_
          rotate_left
          · (intro w hSw; (try dsimp only at hSw); (try have hcs := hcells w hSw); (try go_split_ands); go_simp <;> with_reducible rfl)
          (try simp only [Act.put, List.setIfInBounds_toArray, List.set_cons_zero, List.set_cons_succ])
          refine wpAnyH_take (i := 7) (oi := { dst := some 68, op := Op.load 3 (Operand.tmp 67), type := 3, pos := "law.go:85", after := #[{ on := 6, ground := Ground.data }, { on := 2, ground := Ground.guard }], guard := some (2, true) }) (v := ?_) rfl (by kernel_rfl) (by kernel_rfl) (by kernel_rfl) (fun _ _ _ h => h) (Or.inl ⟨by rfl, ?_⟩) (by assumption) ?_
          rotate_left
          · (intro w hSw; (try dsimp only at hSw); (try have hcs := hcells w hSw); (try go_split_ands); go_simp <;> with_reducible rfl)
          (try simp only [Act.put, List.setIfInBounds_toArray, List.set_cons_zero, List.set_cons_succ])
          refine wpAnyH_take (i := 8) (oi := { dst := some 69, op := Op.load 22 (Operand.tmp 2), type := 22, pos := "law.go:85", after := #[{ on := 2, ground := Ground.guard }], guard := some (2, true) }) (v := ?_) rfl (by kernel_rfl) (by kernel_rfl) (by kernel_rfl) (fun _ _ _ h => h) (Or.inl ⟨by rfl, ?_⟩) (by assumption) ?_
          rotate_left
          · (intro w hSw; (try dsimp only at hSw); (try have hcs := hcells w hSw); (try go_split_ands); go_simp <;> with_reducible rfl)
          (try simp only [Act.put, List.setIfInBounds_toArray, List.set_cons_zero, List.set_cons_succ])
          refine wpAnyH_take (i := 9) (oi := { dst := some 70, op := Op.load 3 (Operand.tmp 5), type := 3, pos := "law.go:85", after := #[{ on := 2, ground := Ground.guard }], guard := some (2, true) }) (v := ?_) rfl (by kernel_rfl) (by kernel_rfl) (by kernel_rfl) (fun _ _ _ h => h) (Or.inl ⟨by rfl, ?_⟩) (by assumption) ?_
          rotate_left
          · (intro w hSw; (try dsimp only at hSw); (try have hcs := hcells w hSw); (try go_split_ands); go_simp <;> with_reducible rfl)
          (try simp only [Act.put, List.setIfInBounds_toArray, List.set_cons_zero, List.set_cons_succ])
          refine wpAnyH_take (i := 10) (oi := { dst := some 71, op := Op.indexAddr 22 (Operand.tmp 69) (Operand.tmp 70), type := 0, pos := "law.go:85", after := #[{ on := 8, ground := Ground.data }, { on := 9, ground := Ground.data }, { on := 2, ground := Ground.guard }], guard := some (2, true) }) (v := ?_) rfl (by kernel_rfl) (by kernel_rfl) (by kernel_rfl) (fun _ _ _ h => h) (Or.inl ⟨by rfl, ?_⟩) (by assumption) ?_
          rotate_left
          · (intro w hSw; (try dsimp only at hSw); (try have hcs := hcells w hSw); (try go_split_ands); go_simp <;> with_reducible rfl)
          (try simp only [Act.put, List.setIfInBounds_toArray, List.set_cons_zero, List.set_cons_succ])
          refine wpAnyH_take (i := 11) (oi := { dst := some 72, op := Op.load 3 (Operand.tmp 71), type := 3, pos := "law.go:85", after := #[{ on := 10, ground := Ground.data }, { on := 2, ground := Ground.guard }], guard := some (2, true) }) (v := ?_) rfl (by kernel_rfl) (by kernel_rfl) (by kernel_rfl) (fun _ _ _ h => h) (Or.inl ⟨by rfl, ?_⟩) (by assumption) ?_
          rotate_left
          · (intro w hSw; (try dsimp only at hSw); (try have hcs := hcells w hSw); (try go_split_ands); go_simp <;> with_reducible rfl)
          (try simp only [Act.put, List.setIfInBounds_toArray, List.set_cons_zero, List.set_cons_succ])
          refine wpAnyH_ready (rs := [12]) (by kernel_rfl) (by simp) ?_
          refine AllReadyH.cons (o := { dst := some 73, op := Op.call { callee := Callee.value (Operand.func 11), args := #[Operand.tmp 68, Operand.tmp 72], argTypes := #[3, 3] }, type := 3, pos := "law.go:85", after := #[{ on := 7, ground := Ground.data }, { on := 11, ground := Ground.data }, { on := 2, ground := Ground.chain }, { on := 2, ground := Ground.guard }], guard := some (2, true) }) rfl (fun K hK => ?_) AllReadyH.nil
          go_simp
          refine (CT _).mono ?_
          rintro e w3 ⟨rfl, e3⟩
          obtain rfl := e3.symm
          (try go_wp2_with fail)
          refine hK.out _ _ (by (try dsimp only); exact hcl _ _ hHeld (by first | with_reducible assumption | with_reducible exact IsGr.refl _ | with_reducible exact (IsGr.refl _).alloc _ | with_reducible exact ((IsGr.refl _).alloc _).alloc _ | assumption)) (fun hHeld2 => ?_)
          clear hK K hHeld
          have hHeld := hHeld2
          clear hHeld2
          (try simp only [Act.put, List.setIfInBounds_toArray, List.set_cons_zero, List.set_cons_succ])
          refine wpAnyH_take (i := 13) (oi := { dst := some 74, op := Op.binOp BinOp.eql 3 (Operand.tmp 73) (Operand.const (Value.int IntKind.i64 0)) 3, type := 4, pos := "law.go:85", after := #[{ on := 12, ground := Ground.data }, { on := 2, ground := Ground.guard }], guard := some (2, true) }) (v := ?_) rfl (by kernel_rfl) (by kernel_rfl) (by kernel_rfl) (fun _ _ _ h => h) (Or.inl ⟨by rfl, ?_⟩) (by assumption) ?_
          rotate_left
          · (intro w hSw; (try dsimp only at hSw); (try have hcs := hcells w hSw); (try go_split_ands); go_simp <;> with_reducible rfl)
          (try simp only [Act.put, List.setIfInBounds_toArray, List.set_cons_zero, List.set_cons_succ])
          refine wpAnyH_take (i := 14) (oi := { dst := some 75, op := Op.pick (Operand.tmp 63) (Operand.tmp 74) (Operand.const (Value.bool false)), type := 4, pos := "law.go:85", after := #[{ on := 2, ground := Ground.data }, { on := 13, ground := Ground.data }], guard := none }) (v := ?_) rfl (by kernel_rfl) (by kernel_rfl) (by kernel_rfl) (fun _ _ _ h => h) (Or.inl ⟨by rfl, ?_⟩) (by assumption) ?_
          rotate_left
          · (intro w hSw; (try dsimp only at hSw); (try have hcs := hcells w hSw); (try go_split_ands); go_simp <;> with_reducible rfl)
          (try simp only [Act.put, List.setIfInBounds_toArray, List.set_cons_zero, List.set_cons_succ])
          refine wpAnyH_done (by kernel_rfl) ?_ _
          have hgq := hgr _ hHeld
          obtain ⟨wq, hwq⟩ : ∃ W, W = wr.drew := ⟨_, rfl⟩
          rw [← hwq] at hgq ⊢
          clear hHeld hgr hin hcl hcells hd1 hwq c0 c1 c3 ca cb CT er er2 er3 hxq hqn hxan
          have HGq : Hid (IsGr W wq) := HG.out.trans hgq
          clear hgq
          have hIq := HI.out.1.gr HGq.out
          have c3 := hIq.c3
          rw [HI.out.2.2.1] at c3
          have f3 := hIq.f3
          have z2 : IntKind.i64.wrap ((xa : Int) + (xm : Int)) = (xa : Int) + (xm : Int) := by rw [IntKind.wrap_i64]; have := HX.out; omega
          have hp9 : pre.length ≤ 150 := by have := HPc.out.2.len; rw [List.length_map] at this; have := HX.out; omega
          clear hIq
          gi_upto_region 18 with fail
          obtain ⟨r1, r2⟩ := (HI.out.2.1.gr HGq.out).at (i := 0) HX.out.2.1
          have c5 : (wq.setCell ⟨w.heap.size + 1 + 1 + 1, 0, none⟩ (.int .i64 ((xa : Int) + (xm : Int)))).cell? ⟨gr, 0, none⟩ = some (.int .i64 ((pcL l (xa, xm)).getD 0 0)) := by rw [cell_o _ _ _ (by have := HX.out; omega)]; exact r1
          have f5 : (wq.setCell ⟨w.heap.size + 1 + 1 + 1, 0, none⟩ (.int .i64 ((xa : Int) + (xm : Int)))).frozen? ⟨gr, 0, none⟩ = false := by rw [World.frozen?_setCell]; exact r2
          have c4 : ((wq.setCell ⟨w.heap.size + 1 + 1 + 1, 0, none⟩ (.int .i64 ((xa : Int) + (xm : Int)))).setCell ⟨gr, 0, none⟩ (.int .i64 1)).cell? ⟨w.heap.size + 1 + 1 + 1 + 1, 0, none⟩ = some (.int .i64 (pre.length : Nat)) := by rw [cell_o _ _ _ (by have := HX.out; omega), cell_o _ _ _ (by omega)]; exact (HI.out.1.gr HGq.out).c4
          have f4 : ((wq.setCell ⟨w.heap.size + 1 + 1 + 1, 0, none⟩ (.int .i64 ((xa : Int) + (xm : Int)))).setCell ⟨gr, 0, none⟩ (.int .i64 1)).frozen? ⟨w.heap.size + 1 + 1 + 1 + 1, 0, none⟩ = false := by rw [World.frozen?_setCell, World.frozen?_setCell]; exact (HI.out.1.gr HGq.out).f4
          have FF := law_step (v := .slice (some ⟨gr, 0, none⟩) xm kr) (xm := xm) HI.out.1 HGq.out (gr := gr) (by have := HX.out; omega) HI.out.2.2.1
          obtain ⟨y0, hy0⟩ : ∃ y, (pcL l (xa, xm)).getD 0 0 = y := ⟨_, rfl⟩
          rw [hy0] at c5
          obtain ⟨W2, hW2⟩ : ∃ W, wq.setCell ⟨w.heap.size + 1 + 1 + 1, 0, none⟩ (.int .i64 ((xa : Int) + (xm : Int))) = W := ⟨_, rfl⟩
          unfold lawW at FF
          rw [hW2] at c5 f5 c4 f4 FF ⊢
          have hxm9 : (0 : Int) < xm := by have := HX.out; omega
          clear r1 r2 hy0 c3 f3 z2 hW2
          gi_upto_region 19 with fail
          obtain ⟨W3, hW3⟩ : ∃ W, W2.setCell ⟨gr, 0, none⟩ (.int .i64 1) = W := ⟨_, rfl⟩
          rw [hW3] at c4 f4 FF ⊢
          have z3 : IntKind.i64.wrap ((pre.length : Int) + 1) = (pre.length : Int) + 1 := by rw [IntKind.wrap_i64]; omega
          clear c5 f5 hW3 hxm9
          gi_upto_region 20 with fail
          obtain ⟨W4, hW4⟩ : ∃ W, W3.setCell ⟨w.heap.size + 1 + 1 + 1 + 1, 0, none⟩ (.int .i64 ((pre.length : Int) + 1)) = W := ⟨_, rfl⟩
          rw [hW4] at FF ⊢
          have HF : Hid (LwI w (some ⟨ga, oa, none⟩) n c stop (pre ++ [((xa, xm), .slice (some ⟨gr, 0, none⟩) xm kr)]) W4 ∧ Wr [w.heap.size + 1 + 1 + 1, gr, w.heap.size + 1 + 1 + 1 + 1] W W4) := FF
          have c4 := FF.1.c4
          rw [List.length_append, List.length_cons, List.length_nil] at c4
          have c4' : W4.cell? ⟨w.heap.size + 1 + 1 + 1 + 1, 0, none⟩ = some (.int .i64 ((pre.length : Int) + 1)) := by rw [c4]; simp
          have c1' := FF.1.c1
          have KK : Hid (∀ b, b < W.heap.size → b ≠ w.heap.size + 1 + 1 + 1 → b ≠ gr → b ≠ w.heap.size + 1 + 1 + 1 + 1 → W4.heap[b]? = W.heap[b]?) := fun b hb h1 h2 h3 => FF.2.block b hb (by simp; omega)
          have HW4 : Hid (W.heap.size ≤ W4.heap.size) := FF.2.size
          clear FF c4 z3 hW4
          by_cases hss : (pre.length : Int) + 1 = stop
          · have hs1 : ((pre.length : Int) + 1 == stop) = true := by simpa using hss
            have CA := awake_any W4
            clear hss
            gi_wp2
            refine ⟨trivial, ?_⟩
            refine (CallsIn.inRound lq (callsIn_wide.2 CA)).mono ?_
            clear CA
            rintro e W5 ⟨rfl, hb5⟩
            have h2 := (hb5.cell (p := ⟨w.heap.size + 1 + 1, 0, none⟩) (block_lt HF.out.1.c2)).trans HF.out.1.c2
            have k2 := (hb5.frozen (p := ⟨w.heap.size + 1 + 1, 0, none⟩) (block_lt HF.out.1.c2)).trans HF.out.1.f2
            have hz : ∀ b, b < W.heap.size → b ≠ w.heap.size + 1 + 1 → b ≠ w.heap.size + 1 + 1 + 1 → b ≠ gr → b ≠ w.heap.size + 1 + 1 + 1 + 1 → (W5.setCell ⟨w.heap.size + 1 + 1, 0, none⟩ (.bool true)).heap[b]? = W.heap[b]? := fun b hb h0 h1 h2 h3 => by
              rw [set_block _ _ _ _ _ h0]
              exact (hb5.block b (by have := HW4.out; omega)).trans (KK.out b hb h1 h2 h3)
            have hsz : W.heap.size ≤ (W5.setCell ⟨w.heap.size + 1 + 1, 0, none⟩ (.bool true)).heap.size := by rw [set_size]; have := HW4.out; have := hb5.size; omega
            have FX : Hid _ := And.intro (And.intro (show KeptB w5.heap.size W (W5.setCell ⟨w.heap.size + 1 + 1, 0, none⟩ (.bool true)) from ⟨hsz, fun b hb => hz b (by have := HI.out.2.2.2; omega) (by have := HX.out; omega) (by have := HX.out; omega) (by have := HX.out; omega) (by have := HX.out; omega)⟩)
              (show KpZ [g, w5.heap.size + 2, w5.heap.size + 2 + 1, w5.heap.size + 2 + 2, w5.heap.size + 2 + 3, w5.heap.size + 2 + 4] W (W5.setCell ⟨w.heap.size + 1 + 1, 0, none⟩ (.bool true)) from ⟨hsz, fun b hb => by
                simp only [List.mem_cons, List.not_mem_nil, or_false] at hb
                have h1 := HX.out
                have h2 := HGZ.out
                exact hz b (by omega) (by omega) (by omega) (by omega) (by omega)⟩))
              (show LwX w (W5.setCell ⟨w.heap.size + 1 + 1, 0, none⟩ (.bool true)) from ⟨⟨cell_s h2, by rw [World.frozen?_setCell]; exact k2⟩, (HF.out.1.bel.trans (hb5.mono HF.out.1.bel.size)).setCell (p := ⟨w.heap.size + 1 + 1, 0, none⟩) (by simp; omega) _, by rw [set_size]; have := HF.out.1.size; have := hb5.size; omega⟩)
            clear hz hsz hb5 c1' c4' hs1
            gi_wp2
            exact ⟨FX.out.1, rfl, FX.out.2⟩
          · have hs1 : ((pre.length : Int) + 1 == stop) = false := by simpa using hss
            have FX : Hid _ := And.intro (And.intro (show KeptB w5.heap.size W W4 from ⟨HW4.out, fun b hb => KK.out b (by have := HI.out.2.2.2; omega) (by have := HX.out; omega) (by have := HX.out; omega) (by have := HX.out; omega)⟩)
              (show KpZ [g, w5.heap.size + 2, w5.heap.size + 2 + 1, w5.heap.size + 2 + 2, w5.heap.size + 2 + 3, w5.heap.size + 2 + 4] W W4 from ⟨HW4.out, fun b hb => by
                simp only [List.mem_cons, List.not_mem_nil, or_false] at hb
                have h1 := HX.out
                have h2 := HGZ.out
                exact KK.out b (by omega) (by omega) (by omega) (by omega)⟩)) HF.out.1
            clear hss
            gi_wp2
            exact FX.out
theorem law_runs (a : Option Addr) (n c : Nat) (l : List Int) (x : Int) (h1 : -9223372036854775808 ≤ x) (h2 : x < 9223372036854775808) (w : World) (h : Rd w (.slice a n c) l ∧ Zn (.slice a n c)) : Calls Try.prog 5 #[.slice a n c, .int .i64 x] w fun e w' => e = .returned (.bool true) ∧ Below w.heap.size w w' := by
  by_cases hn : n ≤ 150
  · exact law_runs_few a n c l x w h.1 h.2 ⟨h1, h2⟩ hn
  · exact law_runs_many a n c x w hn
end Go.Proofs.Ytblnpabgakmghaa
