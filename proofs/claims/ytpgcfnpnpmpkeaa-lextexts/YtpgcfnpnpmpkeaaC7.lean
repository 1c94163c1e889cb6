/- What All of package lex answers, as a proposition; gromalaw09 over the loaded program, given what package lex answers: LexAll. -/
import Derived.Test.YtpgcfnpnpmpkeaaC6
import Derived.Test.YtpgcfnpnpmpkeaaS15
import Derived.Test.YtpgcfnpnpmpkeaaS8
import Derived.Test.YtpgcfnpnpmpkeaaH1b
import Derived.LoopIn
import Derived.Shelf.RegionOpen
import Derived.Sort.CutIn
namespace Go.Proofs.Ytpgcfnpnpmpkeaa
open Go.RowKit Go.Shelf
attribute [local go_sem] Oper.semAt_some
abbrev Tk := Nat × Nat × Nat
/-- A token's text, as All tells it. -/
def txS (s : ByteArray) (t : Tk) : ByteArray := if t.1 = 1 then strOfNums (upL (bts (s.extract t.2.1 t.2.2))) else s.extract t.2.1 t.2.2
/-- What a round is handed. -/
def enc9 (s : ByteArray) (t : Tk) : Array Value := #[.agg #[.int .i64 (t.1 : Nat), .int .i64 (t.2.1 : Nat), .int .i64 (t.2.2 : Nat)], .string (txS s t)]
/-- What All has left: a function that tells the tokens, which stands on the blocks Z. -/
def AllOk (s : ByteArray) (w w' : World) (gf : Nat) (lb : Array Value) (Z : List Nat) : Prop :=
  Below w.heap.size w w' ∧ Enters Try.prog gf ∧ (∀ z ∈ Z, w.heap.size ≤ z ∧ z < w'.heap.size) ∧ ∀ (m : Nat) (W0 : World), 1 ≤ m → w'.heap.size ≤ W0.heap.size → (∀ z ∈ Z, W0.heap[z]? = w'.heap[z]?) →
    SeqW Fence.wide m Try.prog gf lb (enc9 s) (Below W0.heap.size) (KpZN W0.heap.size Z) (fun pre t _ => ∃ rest, (tks (bts s) 0).1 = pre ++ t :: rest) (fun xs _ => xs = (tks (bts s) 0).1) (fun xs _ => ∃ rest, (tks (bts s) 0).1 = xs ++ rest) W0
structure LexA : Prop where
  all : ∀ (s : ByteArray) (w : World), s.size ≤ 3000 → Calls Try.prog 15 #[.string s] w fun e w' => ∃ gf lb, e = .returned (.func (.func gf) #[] lb) ∧ ∃ Z, AllOk s w w' gf lb Z
theorem nilA (gf : Nat) (lb : Array Value) (w : World) : (binOp BinOp.neq 37 (.func (.func gf) #[] lb) .nilFunc).run Try.prog w = .ok (.bool true) w := by
  first | rfl | simp [binOp, run_underlying Try.underlying37, go_sem]
/-- What lies in the boxes of LexAll. -/
structure LaV (w : World) (P : Nat) (s : ByteArray) (stop : Int) (v : Value) (L : List Tk) (k : Nat) (W : World) : Prop where
  c0 : W.cell? ⟨w.heap.size, 0, none⟩ = some (.string s)
  c1 : W.cell? ⟨w.heap.size + 1, 0, none⟩ = some (.int .i64 stop)
  c2 : W.cell? ⟨w.heap.size + 1 + 1, 0, none⟩ = some (.bool false)
  f2 : W.frozen? ⟨w.heap.size + 1 + 1, 0, none⟩ = false
  cv : W.cell? ⟨P, 0, none⟩ = some v
  ck : W.cell? ⟨P + 1, 0, none⟩ = some (.int .i64 k)
  fk : W.frozen? ⟨P + 1, 0, none⟩ = false
  ls : Ls3 32 W 0 v (tok3 L)
  lb : ∀ g, v.ownBlock = some g → g < P
  lo : w.heap.size + 3 ≤ P
  bel : Below w.heap.size w W
  size : P + 2 ≤ W.heap.size
section
variable {w A B W : World} {P k : Nat} {stop : Int} {s : ByteArray} {v : Value} {L : List Tk}
theorem LaV.kp (h : LaV w P s stop v L k A) (hb : ∀ k, k < P + 2 → B.heap[k]? = A.heap[k]?) (hB : Below w.heap.size A B) (hs : A.heap.size ≤ B.heap.size) : LaV w P s stop v L k B := by
  have hlo := h.lo
  have cc : ∀ {k : Nat} {u : Value}, k < P + 2 → A.cell? ⟨k, 0, none⟩ = some u → B.cell? ⟨k, 0, none⟩ = some u := fun hk h1 => (World.cell?_of_block (hb _ hk)).trans h1
  have ff : ∀ {k : Nat}, k < P + 2 → A.frozen? ⟨k, 0, none⟩ = false → B.frozen? ⟨k, 0, none⟩ = false := fun hk h1 => (World.frozen?_of_block (hb _ hk)).trans h1
  exact ⟨cc (by omega) h.c0, cc (by omega) h.c1, cc (by omega) h.c2, ff (by omega) h.f2, cc (by omega) h.cv, cc (by omega) h.ck, ff (by omega) h.fk, h.ls.keep (fun g e => hb g (by have := h.lb g e; omega)), h.lb, h.lo, h.bel.trans hB, Nat.le_trans h.size hs⟩
theorem LaV.below {N : Nat} (h : LaV w P s stop v L k A) (hN : P + 2 ≤ N) (hb : Below N A B) : LaV w P s stop v L k B :=
  h.kp (fun k hk => hb.block k (by omega)) (hb.mono (by have := h.lo; omega)) hb.size
theorem LaV.gr (h : LaV w P s stop v L k A) (hg : IsGr A B) : LaV w P s stop v L k B := h.below h.size hg.below
theorem LaV.own {N : Nat} (hN : P + 2 ≤ N) : OwnFrom N (fun (pre : List Tk) W => LaV w P s stop v L pre.length W) := fun _ A _ row h1 hg hr =>
  h1.kp (fun k hk => hg.block k (by have := h1.size; omega) (fun e => by have := (hr k e.symm).1; omega)) ((Below.refl _ A).grown hg (by have := h1.size; have := h1.lo; omega) (fun r e => by have := (hr r e).1; have := h1.lo; omega)) hg.size
theorem LaV.setK (h : LaV w P s stop v L k A) (k' : Nat) : LaV w P s stop v L k' (A.setCell ⟨P + 1, 0, none⟩ (.int .i64 k')) := by
  have hlo := h.lo
  have ne : ∀ b, b ≠ P + 1 → ∀ (u : Value), A.cell? ⟨b, 0, none⟩ = some u → (A.setCell ⟨P + 1, 0, none⟩ (.int .i64 k')).cell? ⟨b, 0, none⟩ = some u := fun b hb u hc => (cell_o _ _ _ (Ne.symm hb)).trans hc
  have fz : ∀ b, A.frozen? ⟨b, 0, none⟩ = false → (A.setCell ⟨P + 1, 0, none⟩ (.int .i64 k')).frozen? ⟨b, 0, none⟩ = false := fun b hc => (World.frozen?_setCell _ _ _ _).trans hc
  exact ⟨ne _ (by omega) _ h.c0, ne _ (by omega) _ h.c1, ne _ (by omega) _ h.c2, fz _ h.f2, ne _ (by omega) _ h.cv, cell_s h.ck, fz _ h.fk, h.ls.keep (fun g e => set_block _ _ _ _ _ (by have := h.lb g e; omega)), h.lb, h.lo, h.bel.setCell (p := ⟨P + 1, 0, none⟩) (by simp; omega) _, by rw [set_size]; exact h.size⟩
end
/-- What is behind an early end. -/
def LaX (w W : World) : Prop := (W.cell? ⟨w.heap.size + 1 + 1, 0, none⟩ = some (.bool true) ∧ W.frozen? ⟨w.heap.size + 1 + 1, 0, none⟩ = false) ∧ Below w.heap.size w W ∧ w.heap.size + 3 ≤ W.heap.size
theorem LaX.kp {w A B : World} (h : LaX w A) (hb : ∀ k, k < w.heap.size + 3 → B.heap[k]? = A.heap[k]?) (hB : Below w.heap.size A B) (hs : A.heap.size ≤ B.heap.size) : LaX w B :=
  ⟨⟨(World.cell?_of_block (a := ⟨w.heap.size + 1 + 1, 0, none⟩) (hb _ (by simp only; omega))).trans h.1.1, (World.frozen?_of_block (a := ⟨w.heap.size + 1 + 1, 0, none⟩) (hb _ (by simp only; omega))).trans h.1.2⟩, h.2.1.trans hB, Nat.le_trans h.2.2 hs⟩
theorem LaX.below {w A B : World} {N : Nat} (h : LaX w A) (hN : w.heap.size + 3 ≤ N) (hb : Below N A B) : LaX w B := h.kp (fun k hk => hb.block k (by omega)) (hb.mono (by omega)) hb.size
theorem LaX.grown {w A C : World} {N : Nat} {row : Option Nat} (hN : w.heap.size + 3 ≤ N) (hs : LaX w A) (hg : A.grownBy C row) (hr : ∀ r, row = some r → N ≤ r) : LaX w C :=
  hs.kp (fun k hk => hg.block k (by have := hs.2.2; omega) (fun e => by have := hr k e.symm; omega)) ((Below.refl _ A).grown hg (by have := hs.2.2; omega) (fun r e => by have := hr r e; omega)) hg.size
theorem LaV.new (w w2 : World) (s : ByteArray) (stop : Int) (v : Value) (L : List Tk) (base : Nat) (hlo : w.heap.size + 3 ≤ w2.heap.size) (hl : Ls3 32 w2 base v (tok3 L)) (hb : Below w.heap.size w w2)
    (c0 : w2.cell? ⟨w.heap.size, 0, none⟩ = some (.string s)) (c1 : w2.cell? ⟨w.heap.size + 1, 0, none⟩ = some (.int .i64 stop)) (c2 : w2.cell? ⟨w.heap.size + 1 + 1, 0, none⟩ = some (.bool false)) (f2 : w2.frozen? ⟨w.heap.size + 1 + 1, 0, none⟩ = false) :
    LaV w w2.heap.size s stop v L 0 ((w2.alloc (.cells #[v] 27)).alloc (.cells #[.int .i64 0] 3)) := by
  have d0 := cell_new w2 v 27
  have d1 := cell_new (w2.alloc (.cells #[v] 27)) (.int .i64 0) 3
  simp only [World.size_alloc] at d1
  have hg : IsGr w2 ((w2.alloc (.cells #[v] 27)).alloc (.cells #[.int .i64 0] 3)) := ((IsGr.refl w2).alloc _).alloc _
  exact ⟨cellk c0 hg, cellk c1 hg, cellk c2 hg, frzk c2 f2 hg, cell_past _ d0.1, d1.1, d1.2, (hl.mono (Nat.zero_le _)).gr hg, fun g e => (hl.own g e).2, hlo, hb.trans (hg.below.mono hb.size), by simp⟩
set_option maxRecDepth 100000 in
set_option maxHeartbeats 2000000 in
theorem law_all_big (LC : LexC) (s : ByteArray) (stop : Int) (w : World) (hs : ¬ s.size ≤ 3000) :
    Calls Try.prog 6 #[.string s, .int .i64 stop] w fun e w' => e = .returned (.bool true) ∧ Below w.heap.size w w' := by
  have hs' : (3000 : Int) < s.size := by omega
  refine (callsIn_wide (n := 9)).1 ?_
  refine callsIn_of_wp_marks Try.func6 rfl trivial ?_ rfl
  simp only [Try.ntmps6, List.size_toArray, List.length_cons, List.length_nil, Nat.reduceAdd, Nat.reduceSub, Array.replicate_succ, Array.replicate_zero, List.push_toArray, List.append_toArray, List.nil_append, List.cons_append]
  gi_wp2
  have hgw : IsGr w (((w.alloc (.cells #[.string s] 9)).alloc (.cells #[.int .i64 stop] 3)).alloc (.cells #[.bool false] 4)) := ((((IsGr.refl w).alloc _).alloc _).alloc _)
  have cb := cell_new ((w.alloc (.cells #[.string s] 9)).alloc (.cells #[.int .i64 stop] 3)) (.bool false) 4
  simp only [World.size_alloc] at cb
  refine ⟨trivial, ?_⟩
  refine (callsIn_wide.2 (awake_any LC _)).mono ?_
  rintro e w2 ⟨rfl, h2⟩
  have B2 : Below w.heap.size w w2 := hgw.below.trans (h2.mono hgw.size)
  have cb2 := (h2.cell (p := ⟨w.heap.size + 1 + 1, 0, none⟩) (by simp)).trans cb.1
  have fb2 := (h2.frozen (p := ⟨w.heap.size + 1 + 1, 0, none⟩) (by simp)).trans cb.2
  clear hgw cb h2
  gi_wp2
  have hc5 := cell_s (v := .bool true) cb2
  refine ⟨.bool true, ?_, rfl, B2.setCell (p := ⟨w.heap.size + 1 + 1, 0, none⟩) (by simp; omega) _⟩
  simp [results, Try.f6, go_sem, hc5]

set_option maxRecDepth 100000 in
set_option maxHeartbeats 2000000 in
theorem law_all_none (LC : LexC) (CA : LexA) (s : ByteArray) (stop : Int) (w : World) (hs : s.size ≤ 3000) (tl : List Tk) (h : tks (bts s) 0 = (tl, none)) :
    Calls Try.prog 6 #[.string s, .int .i64 stop] w fun e w' => e = .returned (.bool true) ∧ Below w.heap.size w w' := by
  have hs' : ¬ (3000 : Int) < s.size := by omega
  have HS : Hid (s.size ≤ 3000) := hs
  have HT : Hid (tks (bts s) 0 = (tl, none)) := h
  refine (callsIn_wide (n := 9)).1 ?_
  refine callsIn_of_wp_marks Try.func6 rfl trivial ?_ rfl
  simp only [Try.ntmps6, List.size_toArray, List.length_cons, List.length_nil, Nat.reduceAdd, Nat.reduceSub, Array.replicate_succ, Array.replicate_zero, List.push_toArray, List.append_toArray, List.nil_append, List.cons_append]
  gi_wp2
  have hgw : IsGr w (((w.alloc (.cells #[.string s] 9)).alloc (.cells #[.int .i64 stop] 3)).alloc (.cells #[.bool false] 4)) := ((((IsGr.refl w).alloc _).alloc _).alloc _)
  have cb0 := cell_new w (.string s) 9
  have cb1 := cell_new (w.alloc (.cells #[.string s] 9)) (.int .i64 stop) 3
  have cb := cell_new ((w.alloc (.cells #[.string s] 9)).alloc (.cells #[.int .i64 stop] 3)) (.bool false) 4
  simp only [World.size_alloc] at cb cb1
  have ca0 := cell_past (.cells #[.bool false] 4) (cell_past (.cells #[.int .i64 stop] 3) cb0.1)
  have ca1 := cell_past (.cells #[.bool false] 4) cb1.1
  have hszA : (((w.alloc (.cells #[.string s] 9)).alloc (.cells #[.int .i64 stop] 3)).alloc (.cells #[.bool false] 4)).heap.size = w.heap.size + 3 := by simp
  obtain ⟨wA, hwA⟩ : ∃ W, (((w.alloc (.cells #[.string s] 9)).alloc (.cells #[.int .i64 stop] 3)).alloc (.cells #[.bool false] 4)) = W := ⟨_, rfl⟩
  rw [hwA] at hgw ca0 ca1 cb hszA ⊢
  refine ⟨trivial, ?_⟩
  refine (callsIn_wide.2 (RTokens_any s wA hs)).mono ?_
  rintro e w1 h1
  obtain ⟨v0, rfl, -, bA⟩ := h1.yes' HT.out
  have d0 := (bA.cell (p := ⟨w.heap.size, 0, none⟩) (block_lt ca0)).trans ca0
  have d1 := (bA.cell (p := ⟨w.heap.size + 1, 0, none⟩) (block_lt ca1)).trans ca1
  have d2 := (bA.cell (p := ⟨w.heap.size + 1 + 1, 0, none⟩) (block_lt cb.1)).trans cb.1
  have d3 := (bA.frozen (p := ⟨w.heap.size + 1 + 1, 0, none⟩) (block_lt cb.1)).trans cb.2
  have hbw1 : Below w.heap.size w w1 := hgw.below.trans (bA.mono hgw.size)
  have hsz1 : w.heap.size + 3 ≤ w1.heap.size := by have := bA.size; omega
  have HW1 : Hid (Below w.heap.size w w1 ∧ w.heap.size + 3 ≤ w1.heap.size ∧ (w1.cell? ⟨w.heap.size + 1, 0, none⟩ = some (.int .i64 stop) ∧ w1.cell? ⟨w.heap.size + 1 + 1, 0, none⟩ = some (.bool false) ∧ w1.frozen? ⟨w.heap.size + 1 + 1, 0, none⟩ = false)) := ⟨hbw1, hsz1, d1, d2, d3⟩
  clear hgw ca0 ca1 cb cb0 cb1 hwA hszA h h1 bA d1 d2 d3 hbw1 hsz1
  gi_wp2
  have C2 := RTokens_any s w1 HS.out
  refine ⟨trivial, ?_⟩
  refine (callsIn_wide.2 C2).mono ?_
  clear C2
  rintro e w2 h2
  obtain ⟨v2, rfl, hl2, hb2⟩ := h2.yes' HT.out
  have hV : LaV w w2.heap.size s stop v2 tl 0 ((w2.alloc (.cells #[v2] 27)).alloc (.cells #[.int .i64 0] 3)) :=
    LaV.new w w2 s stop v2 tl w1.heap.size (by have := HW1.out.2.1; have := hb2.size; omega) hl2 (HW1.out.1.trans (hb2.mono HW1.out.1.size)) ((hb2.cell (p := ⟨w.heap.size, 0, none⟩) (block_lt d0)).trans d0)
      ((hb2.cell (p := ⟨w.heap.size + 1, 0, none⟩) (block_lt HW1.out.2.2.1)).trans HW1.out.2.2.1) ((hb2.cell (p := ⟨w.heap.size + 1 + 1, 0, none⟩) (block_lt HW1.out.2.2.2.1)).trans HW1.out.2.2.2.1) ((hb2.frozen (p := ⟨w.heap.size + 1 + 1, 0, none⟩) (block_lt HW1.out.2.2.2.1)).trans HW1.out.2.2.2.2)
  obtain ⟨va, vc, rfl, hvc, -⟩ := hl2.form
  rw [tok3_len] at hV hvc ⊢
  obtain ⟨n, hn⟩ : ∃ n, tl.length = n := ⟨_, rfl⟩
  have HN : Hid (tl.length = n ∧ n ≤ 3000) := ⟨hn, by have := tks_len (bts s); rw [HT.out, bts_len] at this; simp only at this; omega⟩
  rw [hn] at hV hvc ⊢
  have HV : Hid (LaV w w2.heap.size s stop (.slice va n vc) tl 0 ((w2.alloc (.cells #[.slice va n vc] 27)).alloc (.cells #[.int .i64 0] 3))) := hV
  have e0 := cell_past (.cells #[.int .i64 0] 3) (cell_past (.cells #[.slice va n vc] 27) ((hb2.cell (p := ⟨w.heap.size, 0, none⟩) (block_lt d0)).trans d0))
  clear HW1 d0 h2 hl2 hb2 hV hn
  gi_wp2
  obtain ⟨wB, hwB⟩ : ∃ W, ((w2.alloc (.cells #[.slice va n vc] 27)).alloc (.cells #[.int .i64 0] 3)) = W := ⟨_, rfl⟩
  rw [hwB] at HV ⊢
  refine ⟨trivial, ?_⟩
  refine (callsIn_wide.2 (CA.all s wB HS.out)).mono ?_
  rintro e w5 ⟨gf, lb, rfl, Z, hb5, hen, hZ, hall⟩
  have hV5 := HV.out.below HV.out.size hb5
  have hnR := fun W => nilA gf lb W
  have hB5 := hb5.size
  have hBP : w2.heap.size + 2 ≤ wB.heap.size := HV.out.size
  have hlo : w.heap.size + 3 ≤ w2.heap.size := HV.out.lo
  have HZ : Hid ((∀ z ∈ Z, w2.heap.size + 2 ≤ z ∧ z < w5.heap.size) ∧ w2.heap.size + 2 ≤ w5.heap.size ∧ w.heap.size + 3 ≤ w2.heap.size) := ⟨fun z hz => by have := hZ z hz; omega, by omega, hlo⟩
  clear hwB e0 HV hb5
  gi_wp2
  refine wpIn_range_box1W (α := Tk) rfl rfl (by omega) (gf := gf) (lb := lb) rfl trivial hen (encs := fun t : Tk => #[.agg #[.int .i64 (t.1 : Nat), .int .i64 (t.2.1 : Nat), .int .i64 (t.2.2 : Nat)], .string (txS s t)]) (R := Below (w5.heap.size + 2)) (Kp := KpZN (w5.heap.size + 2) Z)
    (T := fun pre t _ => ∃ rest, (tks (bts s) 0).1 = pre ++ t :: rest) (S := fun xs _ => xs = (tks (bts s) 0).1) (Sp := fun xs _ => ∃ rest, (tks (bts s) 0).1 = xs ++ rest)
    (fun o1 o2 => by
      have h1 := hall (9 - 1) ((w5.alloc o1).alloc o2) (by omega) (by simp; omega) (fun z hz => by
        have hz2 := (hZ z hz).2
        have e1 := ((IsGr.refl w5).alloc o1).below.block z hz2
        have e2 := ((IsGr.refl (w5.alloc o1)).alloc o2).below.block z (by simp; omega)
        exact e2.trans e1)
      have e : ((w5.alloc o1).alloc o2).heap.size = w5.heap.size + 2 := by simp
      rw [e] at h1
      exact h1)
    (fun X Y hXY k hk hlt => hXY.block k (by omega)) (fun h1 h2 => h1.trans h2) (fun W o => ⟨⟨by simp, fun k hk hl => World.putObj_heap_other (by omega)⟩, fun z hz => World.putObj_heap_other (by have := (hZ z hz).2; omega)⟩) (fun _ => rfl)
    (fun pre W => LaV w w2.heap.size s stop (.slice va n vc) tl pre.length W) (fun c' _ W => c' = .ret ∧ LaX w W)
    (LaV.own (by omega)) (fun c' s A B row hs hg hr => ⟨hs.1, LaX.grown (N := w5.heap.size) (by omega) hs.2 hg (fun r e => (hr r e).1)⟩) (fun s A B row hs hg hr => hs) (fun s A B row hs hg hr => hs)
    (fun _ _ s A B row hs hg hr => hs) (fun s A B hs hr => hs.below (by omega) hr) (fun c' s A B hs hr => ⟨hs.1, hs.2.below (by omega) hr⟩) hV5
    ?a1 (fun t => [.int .i64 (t.1 : Nat), .int .i64 (t.2.1 : Nat), .int .i64 (t.2.2 : Nat)])
    (fun _ _ _ h hg => h.gr hg) (fun _ _ _ _ h _ => h) (fun A B hs hg => KpZN.of (M := 0) (KpN.gr hg) (Nat.zero_le _) (fun z hz => ⟨Nat.zero_le _, by have := (hZ z hz).2; omega⟩))
    ?assign ?body ?done ?stop
  case assign =>
    intro lq t W K hs hK
    gi_wp2
    have hg := (IsGr.refl W).alloc (.cells #[.int .i64 (t.1 : Nat), .int .i64 (t.2.1 : Nat), .int .i64 (t.2.2 : Nat)] 31)
    have z1 : ∀ (i : Nat) u, ([.int .i64 (t.1 : Nat), .int .i64 (t.2.1 : Nat), .int .i64 (t.2.2 : Nat)] : List Value)[i]? = some u → (W.alloc (.cells #[.int .i64 (t.1 : Nat), .int .i64 (t.2.1 : Nat), .int .i64 (t.2.2 : Nat)] 31)).cell? ⟨W.heap.size, i, none⟩ = some u := fun i u hu => by
      rw [World.cell?_alloc_at _ _ _ _ rfl]
      simpa using hu
    obtain ⟨B, hB⟩ : ∃ B, W.heap.size = B := ⟨_, rfl⟩
    rw [hB] at z1 ⊢
    exact hK _ _ hg (by omega) z1
  case stop =>
    rintro D c' xs W hD hSp ⟨rfl, hX⟩ hK
    have hwD : w.heap.size ≤ D := by omega
    gi_wp2
    refine ⟨by simp, .inl ⟨_, _, rfl, run_takeDeferred hK, ?_⟩⟩
    have hc5 := cell_kept hX.1.1 (grownBy_putObj' W D (.deferred none)) (fun r e => by cases e; exact ⟨_, hK, rfl⟩)
    refine ⟨.bool true, ?_, rfl, hX.2.1.trans (belowK_b (w := w) (Nat.le_refl _) _ D _ _ hwD hK rfl rfl)⟩
    simp [results, Try.f6, go_sem, hc5]
  case done =>
    rintro D xs W hD hSx hV hK
    have hxl : xs.length = n := by rw [hSx, HT.out]; exact HN.out.1
    simp only [hxl] at hV
    have cv := hV.cv
    have ck := hV.ck
    have hnn : ((n : Int) == (n : Int)) = true := by simp
    have HD : Hid ((W.cell? ⟨w.heap.size + 1 + 1, 0, none⟩ = some (.bool false) ∧ W.frozen? ⟨w.heap.size + 1 + 1, 0, none⟩ = false) ∧ Below w.heap.size w W ∧ W.heap[D]? = some (.deferred (some [])) ∧ w.heap.size + 3 ≤ D) := ⟨⟨hV.c2, hV.f2⟩, hV.bel, hK, by omega⟩
    have CW := awake_any LC W
    clear hV hxl hSx hK hV5
    gi_wp2
    refine ⟨trivial, ?_⟩
    refine (callsIn_wide.2 CW).mono ?_
    clear CW
    rintro e w6 ⟨rfl, hB6⟩
    obtain ⟨⟨r1, r2⟩, r3, r4, r5⟩ := HD.out
    have k1 := (hB6.cell (p := ⟨w.heap.size + 1 + 1, 0, none⟩) (block_lt r1)).trans r1
    have k2 := (hB6.frozen (p := ⟨w.heap.size + 1 + 1, 0, none⟩) (block_lt r1)).trans r2
    have k4 := (hB6.block D (Array.getElem?_eq_some_iff.1 r4).1).trans r4
    have k3 := r3.trans (hB6.mono r3.size)
    have k5 : w.heap.size ≤ D := by omega
    clear r1 r2 r3 r4 r5 hB6 HD cv ck
    gi_wp2
    have hK' := (KeepsOthers.setCell w6 ⟨w.heap.size + 1 + 1, 0, none⟩ (.bool true)).same D _ k4 rfl
    refine ⟨by simp, .inl ⟨_, _, rfl, run_takeDeferred hK', ?_⟩⟩
    have hc5 := cell_kept (cell_s (v := .bool true) k1) (grownBy_putObj' _ D (.deferred none)) (fun r e => by cases e; exact ⟨_, hK', rfl⟩)
    refine ⟨.bool true, ?_, rfl, (k3.setCell (p := ⟨w.heap.size + 1 + 1, 0, none⟩) (by simp; omega) _).trans (belowK_b (w := w) (Nat.le_refl _) _ D _ _ k5 hK' rfl rfl)⟩
    simp [results, Try.f6, go_sem, hc5]
  case body =>
    rintro lq pre ⟨kd, i, j⟩ B W hV ⟨rest, hrest⟩ hB hz hWs
    have z1 : W.cell? ⟨B, 0, none⟩ = some (.int .i64 (kd : Nat)) := hz 0 _ rfl
    have z2 : W.cell? ⟨B, 1, none⟩ = some (.int .i64 (i : Nat)) := hz 1 _ rfl
    have z3 : W.cell? ⟨B, 2, none⟩ = some (.int .i64 (j : Nat)) := hz 2 _ rfl
    rw [HT.out] at hrest
    simp only at hrest
    have hkn : pre.length < n := by rw [← HN.out.1, hrest]; simp
    obtain ⟨hij, hjs⟩ : i < j ∧ j ≤ s.size := by
      have h1 := tks_in _ (bts s) 0 (Nat.le_refl _) (kd, i, j) (by rw [HT.out, hrest]; simp)
      rw [bts_len] at h1
      simp only at h1
      omega
    obtain ⟨kk, hkk⟩ : ∃ kk, pre.length = kk := ⟨_, rfl⟩
    have htk : (tok3 tl).getD kk (0, 0, 0) = ((kd : Int), (i : Int), (j : Int)) := by rw [hrest, ← hkk]; simp [tok3, List.getD]
    have hLs := hV.ls
    obtain ⟨a', c', e1, hcap, hf⟩ := hLs.form
    rw [tok3_len, HN.out.1] at e1 hf hcap
    injection e1 with e1a e1b e1c
    subst e1a
    rcases hf with ⟨h, -⟩ | ⟨g, rfl, -, -, hc⟩
    · have := congrArg List.length h; rw [tok3_len, HN.out.1] at this; simp at this; omega
    obtain ⟨y1, y2, y3⟩ := hc kk (by omega)
    rw [htk] at y1 y2 y3
    simp only at y1 y2 y3
    rw [hkk] at hV hkn
    have hV' : LaV w w2.heap.size s stop (.slice (some ⟨g, 0, none⟩) n vc) tl kk W := hV
    have ck := hV'.ck
    have cv := hV'.cv
    have c0 := hV'.c0
    have HF : Hid (pre.length = kk ∧ i < j ∧ j ≤ s.size ∧ w5.heap.size ≤ B ∧ w5.heap.size + 1 < W.heap.size) := ⟨hkk, hij, hjs, hB, hWs⟩
    have HV : Hid (LaV w w2.heap.size s stop (.slice (some ⟨g, 0, none⟩) n vc) tl kk W) := hV'
    have hkn1 : ¬ (n : Int) ≤ kk := by omega
    have hkn2 : decide ((n : Int) ≤ kk) = false := decide_eq_false hkn1
    have hkn3 : (kk : Int) < n := by omega
    have hij' : (i : Int) ≤ j := by omega
    have hjs' : (j : Int) ≤ s.size := by omega
    clear hV hV' hV5 hrest hLs hc hcap htk hij hjs hkk hz e1b e1c hWs hB5 hBP hZ hlo hB
    gi_upto_region 14 with fail
    obtain ⟨C, hin, hcl, hcells, hgr⟩ : ∃ C : World → Prop, (∀ w', IsGr W w' → C w') ∧ (∀ u u', C u → IsGr u u' → C u') ∧ (∀ w', C w' → (w'.cell? ⟨w2.heap.size + 1, 0, none⟩ = some (.int .i64 kk)) ∧ (w'.cell? ⟨w2.heap.size, 0, none⟩ = some (.slice (some ⟨g, 0, none⟩) n vc)) ∧ (w'.cell? ⟨B, 0, none⟩ = some (.int .i64 kd)) ∧ (w'.cell? ⟨B, 1, none⟩ = some (.int .i64 i)) ∧ (w'.cell? ⟨B, 2, none⟩ = some (.int .i64 j)) ∧ (w'.cell? ⟨g, kk * 3, none⟩ = some (.int .i64 kd)) ∧ (w'.cell? ⟨g, kk * 3 + 1, none⟩ = some (.int .i64 i)) ∧ (w'.cell? ⟨g, kk * 3 + 2, none⟩ = some (.int .i64 j))) ∧ (∀ w', C w' → IsGr W w') := ⟨fun w' => IsGr W w', fun _ h => h, fun _ _ h k => h.trans k, fun w' hg => ⟨cellk ck hg, cellk cv hg, cellk z1 hg, cellk z2 hg, cellk z3 hg, cellk y1 hg, cellk y2 hg, cellk y3 hg⟩, fun _ h => h⟩
    refine wpIn_region_held (S := C) (by kernel_rfl) (by kernel_rfl) (fun ⟨_, _, h⟩ => h) (by (try dsimp only); exact hin _ (by with_reducible repeat (first | exact IsGr.refl _ | refine IsGr.gr ?_ _ _ | refine IsGr.alloc ?_ _ | refine IsGr.drew ?_ | refine IsGr.drewN ?_ _))) (fun hHeld => ?_)
    refine wpAnyH_take (i := 0) (oi := { dst := some 42, op := Op.load 3 (Operand.tmp 10), type := 3, pos := "law.go:69", after := #[], guard := none }) (v := ?_) rfl (by kernel_rfl) (by kernel_rfl) (by kernel_rfl) (fun _ _ _ h => h) (Or.inl ⟨by rfl, ?_⟩) (by assumption) ?_
    rotate_left
    · (intro w hSw; (try dsimp only at hSw); (try have hcs := hcells w hSw); (try go_split_ands); go_simp <;> with_reducible rfl)
    (try simp only [Act.put, List.setIfInBounds_toArray, List.set_cons_zero, List.set_cons_succ])
    refine wpAnyH_take (i := 1) (oi := { dst := some 43, op := Op.load 27 (Operand.tmp 8), type := 27, pos := "law.go:69", after := #[], guard := none }) (v := ?_) rfl (by kernel_rfl) (by kernel_rfl) (by kernel_rfl) (fun _ _ _ h => h) (Or.inl ⟨by rfl, ?_⟩) (by assumption) ?_
    rotate_left
    · (intro w hSw; (try dsimp only at hSw); (try have hcs := hcells w hSw); (try go_split_ands); go_simp <;> with_reducible rfl)
    (try simp only [Act.put, List.setIfInBounds_toArray, List.set_cons_zero, List.set_cons_succ])
    refine wpAnyH_take (i := 2) (oi := { dst := some 44, op := Op.call { callee := Callee.builtin Builtin.len, args := #[Operand.tmp 43], argTypes := #[27] }, type := 3, pos := "law.go:69", after := #[{ on := 1, ground := Ground.data }], guard := none }) (v := ?_) rfl (by kernel_rfl) (by kernel_rfl) (by kernel_rfl) (fun _ _ _ h => h) (Or.inl ⟨by rfl, ?_⟩) (by assumption) ?_
    rotate_left
    · (intro w hSw; (try dsimp only at hSw); (try have hcs := hcells w hSw); (try go_split_ands); go_simp <;> with_reducible rfl)
    (try simp only [Act.put, List.setIfInBounds_toArray, List.set_cons_zero, List.set_cons_succ])
    refine wpAnyH_take (i := 3) (oi := { dst := some 45, op := Op.binOp BinOp.geq 3 (Operand.tmp 42) (Operand.tmp 44) 3, type := 4, pos := "law.go:69", after := #[{ on := 0, ground := Ground.data }, { on := 2, ground := Ground.data }], guard := none }) (v := ?_) rfl (by kernel_rfl) (by kernel_rfl) (by kernel_rfl) (fun _ _ _ h => h) (Or.inl ⟨by rfl, ?_⟩) (by assumption) ?_
    rotate_left
    · (intro w hSw; (try dsimp only at hSw); (try have hcs := hcells w hSw); (try go_split_ands); go_simp <;> with_reducible rfl)
    (try simp only [Act.put, List.setIfInBounds_toArray, List.set_cons_zero, List.set_cons_succ])
    refine wpAnyH_take (i := 4) (oi := { dst := some 46, op := Op.move (Operand.tmp 45), type := 4, pos := "law.go:69", after := #[{ on := 3, ground := Ground.data }], guard := none }) (v := ?_) rfl (by kernel_rfl) (by kernel_rfl) (by kernel_rfl) (fun _ _ _ h => h) (Or.inl ⟨by rfl, ?_⟩) (by assumption) ?_
    rotate_left
    · (intro w hSw; (try dsimp only at hSw); (try have hcs := hcells w hSw); (try go_split_ands); go_simp <;> with_reducible rfl)
    (try simp only [Act.put, List.setIfInBounds_toArray, List.set_cons_zero, List.set_cons_succ])
    refine wpAnyH_take (i := 5) (oi := { dst := some 47, op := Op.load 31 (Operand.tmp 12), type := 31, pos := "law.go:69", after := #[{ on := 4, ground := Ground.guard }], guard := some (4, false) }) (v := ?_) rfl (by kernel_rfl) (by kernel_rfl) (by kernel_rfl) (fun _ _ _ h => h) (Or.inl ⟨by rfl, ?_⟩) (by assumption) ?_
    rotate_left
    · (intro w hSw; (try dsimp only at hSw); (try have hcs := hcells w hSw); (try go_split_ands); go_simp <;> with_reducible rfl)
    (try simp only [Act.put, List.setIfInBounds_toArray, List.set_cons_zero, List.set_cons_succ])
    refine wpAnyH_take (i := 6) (oi := { dst := some 48, op := Op.load 27 (Operand.tmp 8), type := 27, pos := "law.go:69", after := #[{ on := 4, ground := Ground.guard }], guard := some (4, false) }) (v := ?_) rfl (by kernel_rfl) (by kernel_rfl) (by kernel_rfl) (fun _ _ _ h => h) (Or.inl ⟨by rfl, ?_⟩) (by assumption) ?_
    rotate_left
    · (intro w hSw; (try dsimp only at hSw); (try have hcs := hcells w hSw); (try go_split_ands); go_simp <;> with_reducible rfl)
    (try simp only [Act.put, List.setIfInBounds_toArray, List.set_cons_zero, List.set_cons_succ])
    refine wpAnyH_take (i := 7) (oi := { dst := some 49, op := Op.load 3 (Operand.tmp 10), type := 3, pos := "law.go:69", after := #[{ on := 4, ground := Ground.guard }], guard := some (4, false) }) (v := ?_) rfl (by kernel_rfl) (by kernel_rfl) (by kernel_rfl) (fun _ _ _ h => h) (Or.inl ⟨by rfl, ?_⟩) (by assumption) ?_
    rotate_left
    · (intro w hSw; (try dsimp only at hSw); (try have hcs := hcells w hSw); (try go_split_ands); go_simp <;> with_reducible rfl)
    (try simp only [Act.put, List.setIfInBounds_toArray, List.set_cons_zero, List.set_cons_succ])
    refine wpAnyH_take (i := 8) (oi := { dst := some 50, op := Op.indexAddr 27 (Operand.tmp 48) (Operand.tmp 49), type := 0, pos := "law.go:69", after := #[{ on := 6, ground := Ground.data }, { on := 7, ground := Ground.data }, { on := 4, ground := Ground.guard }], guard := some (4, false) }) (v := ?_) rfl (by kernel_rfl) (by kernel_rfl) (by kernel_rfl) (fun _ _ _ h => h) (Or.inl ⟨by rfl, ?_⟩) (by assumption) ?_
    rotate_left
    · (intro w hSw; (try dsimp only at hSw); (try have hcs := hcells w hSw); (try go_split_ands); go_simp <;> with_reducible rfl)
    (try simp only [Act.put, List.setIfInBounds_toArray, List.set_cons_zero, List.set_cons_succ])
    refine wpAnyH_take (i := 9) (oi := { dst := some 51, op := Op.load 32 (Operand.tmp 50), type := 32, pos := "law.go:69", after := #[{ on := 8, ground := Ground.data }, { on := 4, ground := Ground.guard }], guard := some (4, false) }) (v := ?_) rfl (by kernel_rfl) (by kernel_rfl) (by kernel_rfl) (fun _ _ _ h => h) (Or.inl ⟨by rfl, ?_⟩) (by assumption) ?_
    rotate_left
    · (intro w hSw; (try dsimp only at hSw); (try have hcs := hcells w hSw); (try go_split_ands); go_simp <;> with_reducible rfl)
    (try simp only [Act.put, List.setIfInBounds_toArray, List.set_cons_zero, List.set_cons_succ])
    refine wpAnyH_take (i := 10) (oi := { dst := some 52, op := Op.binOp BinOp.neq 32 (Operand.tmp 47) (Operand.tmp 51) 32, type := 4, pos := "law.go:69", after := #[{ on := 5, ground := Ground.data }, { on := 9, ground := Ground.data }, { on := 4, ground := Ground.guard }], guard := some (4, false) }) (v := ?_) rfl (by kernel_rfl) (by kernel_rfl) (by kernel_rfl) (fun _ _ _ h => h) (Or.inl ⟨by rfl, ?_⟩) (by assumption) ?_
    rotate_left
    · (intro w hSw; (try dsimp only at hSw); (try have hcs := hcells w hSw); (try go_split_ands); go_simp <;> with_reducible rfl)
    (try simp only [Act.put, List.setIfInBounds_toArray, List.set_cons_zero, List.set_cons_succ])
    refine wpAnyH_take (i := 11) (oi := { dst := some 53, op := Op.pick (Operand.tmp 46) (Operand.const (Value.bool true)) (Operand.tmp 52), type := 4, pos := "law.go:69", after := #[{ on := 4, ground := Ground.data }, { on := 10, ground := Ground.data }], guard := none }) (v := ?_) rfl (by kernel_rfl) (by kernel_rfl) (by kernel_rfl) (fun _ _ _ h => h) (Or.inl ⟨by rfl, ?_⟩) (by assumption) ?_
    rotate_left
    · (intro w hSw; (try dsimp only at hSw); (try have hcs := hcells w hSw); (try go_split_ands); go_simp <;> with_reducible rfl)
    (try simp only [Act.put, List.setIfInBounds_toArray, List.set_cons_zero, List.set_cons_succ])
    refine wpAnyH_done (by kernel_rfl) ?_ _
    have hgq := hgr _ hHeld
    obtain ⟨wq, hwq⟩ : ∃ V, V = W.drew := ⟨_, rfl⟩
    rw [← hwq] at hgq ⊢
    have HV1 : Hid (LaV w w2.heap.size s stop (.slice (some ⟨g, 0, none⟩) n vc) tl kk wq) := HV.out.gr hgq
    have K1 : Hid (KpN (w2.heap.size + 2) W wq) := KpN.gr hgq
    have c0q := HV1.out.c0
    have z1q := cellk z1 hgq
    have z2q := cellk z2 hgq
    have z3q := cellk z3 hgq
    clear hHeld hgr hin hcl hcells hwq hgq ck cv c0 z1 z2 z3 y1 y2 y3 HV hkn1 hkn2 hkn3
    by_cases hkd : kd = 1
    · have hk1 : ((kd : Int) == 1) = true := by simp [hkd]
      have htx : txS s (kd, i, j) = strOfNums (upL (bts (s.extract i j))) := by unfold txS; rw [if_pos hkd]
      rw [htx]
      have CU := fun w => RUpper_any (s.extract i j) w (by rw [size_extract HF.out.2.2.1]; have := HS.out; omega)
      obtain ⟨u, hu⟩ : ∃ u, strOfNums (upL (bts (s.extract i j))) = u := ⟨_, rfl⟩
      simp only [hu] at CU
      rw [hu]
      clear htx hkd hu
      gi_wp2
      refine ⟨trivial, ?_⟩
      refine (CallsIn.inRound lq (callsIn_wide.2 (CU _))).mono ?_
      clear CU
      rintro e w7 ⟨rfl, hb7⟩
      have HV2 : Hid (LaV w w2.heap.size s stop (.slice (some ⟨g, 0, none⟩) n vc) tl kk w7) := HV1.out.gr (IsGr.of_below hb7)
      have K3 : Hid (KpN (w2.heap.size + 2) W w7) := K1.out.trans (KpN.gr (IsGr.of_below hb7))
      clear hb7 K1 HV1 c0q z1q z2q z3q hk1
      have HV3 : Hid (LaV w w2.heap.size s stop (.slice (some ⟨g, 0, none⟩) n vc) tl (kk + 1) (w7.setCell ⟨w2.heap.size + 1, 0, none⟩ (.int .i64 ((kk + 1 : Nat) : Int)))) := HV2.out.setK (kk + 1)
      have hcast : ((kk + 1 : Nat) : Int) = (kk : Int) + 1 := by simp
      rw [hcast] at HV3
      have ek : IntKind.i64.wrap ((kk : Int) + 1) = (kk : Int) + 1 := by rw [IntKind.wrap_i64]; have := HN.out; omega
      have ckx := HV2.out.ck
      have fkx := HV2.out.fk
      gi_upto_region 22 with fail
      obtain ⟨W4, hW4⟩ : ∃ V, w7.setCell ⟨w2.heap.size + 1, 0, none⟩ (.int .i64 ((kk : Int) + 1)) = V := ⟨_, rfl⟩
      have K4 : Hid (KpN (w2.heap.size + 2) W W4) := by rw [← hW4]; exact K3.out.trans (KpN.set (by omega))
      rw [hW4] at HV3 ⊢
      have HV4 : Hid (LaV w w2.heap.size s stop (.slice (some ⟨g, 0, none⟩) n vc) tl (kk + 1) W4) := HV3.out
      have ck4 := HV4.out.ck
      rw [hcast] at ck4
      have c14 := HV4.out.c1
      clear hcast ek ckx fkx hW4 K3 HV3 HV2
      have K5 : Hid (KpN (w2.heap.size + 2) W W4) := K4.out
      by_cases hss : (kk : Int) + 1 = stop
      · have hs1 : ((kk : Int) + 1 == stop) = true := by simpa using hss
        have CW := awake_any LC W4
        clear hss
        gi_wp2
        refine ⟨trivial, ?_⟩
        refine (CallsIn.inRound lq (callsIn_wide.2 CW)).mono ?_
        clear CW
        rintro e W5 ⟨rfl, hb5⟩
        have h2 := (hb5.cell (p := ⟨w.heap.size + 1 + 1, 0, none⟩) (block_lt HV4.out.c2)).trans HV4.out.c2
        have k2 := (hb5.frozen (p := ⟨w.heap.size + 1 + 1, 0, none⟩) (block_lt HV4.out.c2)).trans HV4.out.f2
        have K6 : KpN (w2.heap.size + 2) W (W5.setCell ⟨w.heap.size + 1 + 1, 0, none⟩ (.bool true)) := (K5.out.trans (KpN.gr (IsGr.of_below hb5))).trans (KpN.set (by have := HZ.out.2.2; omega))
        have FX : Hid ((KeptB w5.heap.size W (W5.setCell ⟨w.heap.size + 1 + 1, 0, none⟩ (.bool true)) ∧ KpZN (w5.heap.size + 2) Z W (W5.setCell ⟨w.heap.size + 1 + 1, 0, none⟩ (.bool true))) ∧ LaX w (W5.setCell ⟨w.heap.size + 1 + 1, 0, none⟩ (.bool true))) := by
          have h1 := HF.out
          have h3 := HZ.out
          refine ⟨⟨(K6.mono (by omega)).kept (by omega), KpZN.of K6 (by omega) (fun z hz => by have := h3.1 z hz; omega)⟩, ⟨cell_s h2, by rw [World.frozen?_setCell]; exact k2⟩, (HV4.out.bel.trans (hb5.mono HV4.out.bel.size)).setCell (p := ⟨w.heap.size + 1 + 1, 0, none⟩) (by simp; omega) _, ?_⟩
          rw [set_size]; have := HV4.out.size; have := hb5.size; have := HV4.out.lo; omega
        clear K6 hb5 ck4 c14 hs1
        gi_wp2
        exact ⟨FX.out.1, rfl, FX.out.2⟩
      · have hs1 : ((kk : Int) + 1 == stop) = false := by simpa using hss
        have FX : Hid ((KeptB w5.heap.size W W4 ∧ KpZN (w5.heap.size + 2) Z W W4) ∧ LaV w w2.heap.size s stop (.slice (some ⟨g, 0, none⟩) n vc) tl (pre ++ [(kd, i, j)]).length W4) := by
          have h1 := HF.out
          have h3 := HZ.out
          refine ⟨⟨(K5.out.mono (by omega)).kept (by omega), KpZN.of K5.out (by omega) (fun z hz => by have := h3.1 z hz; omega)⟩, ?_⟩
          rw [List.length_append, h1.1]
          exact HV4.out
        clear hss
        gi_wp2
        exact FX.out
    · have hk1 : ((kd : Int) == 1) = false := by simp; omega
      have htx : txS s (kd, i, j) = s.extract i j := by unfold txS; rw [if_neg hkd]
      rw [htx]
      have HV2 : Hid (LaV w w2.heap.size s stop (.slice (some ⟨g, 0, none⟩) n vc) tl kk wq) := HV1.out
      have K3 : Hid (KpN (w2.heap.size + 2) W wq) := K1.out
      clear htx hkd K1 HV1
      have HV3 : Hid (LaV w w2.heap.size s stop (.slice (some ⟨g, 0, none⟩) n vc) tl (kk + 1) (wq.setCell ⟨w2.heap.size + 1, 0, none⟩ (.int .i64 ((kk + 1 : Nat) : Int)))) := HV2.out.setK (kk + 1)
      have hcast : ((kk + 1 : Nat) : Int) = (kk : Int) + 1 := by simp
      rw [hcast] at HV3
      have ek : IntKind.i64.wrap ((kk : Int) + 1) = (kk : Int) + 1 := by rw [IntKind.wrap_i64]; have := HN.out; omega
      have ckx := HV2.out.ck
      have fkx := HV2.out.fk
      gi_upto_region 22 with fail
      obtain ⟨W4, hW4⟩ : ∃ V, wq.setCell ⟨w2.heap.size + 1, 0, none⟩ (.int .i64 ((kk : Int) + 1)) = V := ⟨_, rfl⟩
      have K4 : Hid (KpN (w2.heap.size + 2) W W4) := by rw [← hW4]; exact K3.out.trans (KpN.set (by omega))
      rw [hW4] at HV3 ⊢
      have HV4 : Hid (LaV w w2.heap.size s stop (.slice (some ⟨g, 0, none⟩) n vc) tl (kk + 1) W4) := HV3.out
      have ck4 := HV4.out.ck
      rw [hcast] at ck4
      have c14 := HV4.out.c1
      clear hcast ek ckx fkx hW4 K3 HV3 HV2
      have K5 : Hid (KpN (w2.heap.size + 2) W W4) := K4.out
      by_cases hss : (kk : Int) + 1 = stop
      · have hs1 : ((kk : Int) + 1 == stop) = true := by simpa using hss
        have CW := awake_any LC W4
        clear hss
        gi_wp2
        refine ⟨trivial, ?_⟩
        refine (CallsIn.inRound lq (callsIn_wide.2 CW)).mono ?_
        clear CW
        rintro e W5 ⟨rfl, hb5⟩
        have h2 := (hb5.cell (p := ⟨w.heap.size + 1 + 1, 0, none⟩) (block_lt HV4.out.c2)).trans HV4.out.c2
        have k2 := (hb5.frozen (p := ⟨w.heap.size + 1 + 1, 0, none⟩) (block_lt HV4.out.c2)).trans HV4.out.f2
        have K6 : KpN (w2.heap.size + 2) W (W5.setCell ⟨w.heap.size + 1 + 1, 0, none⟩ (.bool true)) := (K5.out.trans (KpN.gr (IsGr.of_below hb5))).trans (KpN.set (by have := HZ.out.2.2; omega))
        have FX : Hid ((KeptB w5.heap.size W (W5.setCell ⟨w.heap.size + 1 + 1, 0, none⟩ (.bool true)) ∧ KpZN (w5.heap.size + 2) Z W (W5.setCell ⟨w.heap.size + 1 + 1, 0, none⟩ (.bool true))) ∧ LaX w (W5.setCell ⟨w.heap.size + 1 + 1, 0, none⟩ (.bool true))) := by
          have h1 := HF.out
          have h3 := HZ.out
          refine ⟨⟨(K6.mono (by omega)).kept (by omega), KpZN.of K6 (by omega) (fun z hz => by have := h3.1 z hz; omega)⟩, ⟨cell_s h2, by rw [World.frozen?_setCell]; exact k2⟩, (HV4.out.bel.trans (hb5.mono HV4.out.bel.size)).setCell (p := ⟨w.heap.size + 1 + 1, 0, none⟩) (by simp; omega) _, ?_⟩
          rw [set_size]; have := HV4.out.size; have := hb5.size; have := HV4.out.lo; omega
        clear K6 hb5 ck4 c14 hs1
        gi_wp2
        exact ⟨FX.out.1, rfl, FX.out.2⟩
      · have hs1 : ((kk : Int) + 1 == stop) = false := by simpa using hss
        have FX : Hid ((KeptB w5.heap.size W W4 ∧ KpZN (w5.heap.size + 2) Z W W4) ∧ LaV w w2.heap.size s stop (.slice (some ⟨g, 0, none⟩) n vc) tl (pre ++ [(kd, i, j)]).length W4) := by
          have h1 := HF.out
          have h3 := HZ.out
          refine ⟨⟨(K5.out.mono (by omega)).kept (by omega), KpZN.of K5.out (by omega) (fun z hz => by have := h3.1 z hz; omega)⟩, ?_⟩
          rw [List.length_append, h1.1]
          exact HV4.out
        clear hss
        gi_wp2
        exact FX.out

set_option maxRecDepth 100000 in
set_option maxHeartbeats 2000000 in
theorem law_all_some (LC : LexC) (CA : LexA) (s : ByteArray) (stop : Int) (w : World) (hs : s.size ≤ 3000) (tl : List Tk) (q : Nat) (h : tks (bts s) 0 = (tl, some q)) :
    Calls Try.prog 6 #[.string s, .int .i64 stop] w fun e w' => e = .returned (.bool true) ∧ Below w.heap.size w w' := by
  have hs' : ¬ (3000 : Int) < s.size := by omega
  have HS : Hid (s.size ≤ 3000) := hs
  have HT : Hid (tks (bts s) 0 = (tl, some q)) := h
  have hq : q < s.size := by
    have := tks_bad_in _ (bts s) 0 q (Nat.le_refl _) (by rw [h])
    rw [bts_len] at this
    omega
  have hcut : tks (bts (s.extract 0 q)) 0 = (tl, none) := by
    have := tks_cut _ (bts s) 0 q (Nat.le_refl _) (by rw [h]; simp)
    rw [bts_extract, List.drop_zero, Nat.sub_zero, this, h]
  have HCUT : Hid (tks (bts (s.extract 0 q)) 0 = (tl, none) ∧ (s.extract 0 q).size ≤ 3000) := ⟨hcut, by rw [size_extract (by omega)]; omega⟩
  have hq0 : 0 ≤ (q : Int) := by omega
  have hq1 : (q : Int) ≤ s.size := by omega
  clear hcut
  refine (callsIn_wide (n := 9)).1 ?_
  refine callsIn_of_wp_marks Try.func6 rfl trivial ?_ rfl
  simp only [Try.ntmps6, List.size_toArray, List.length_cons, List.length_nil, Nat.reduceAdd, Nat.reduceSub, Array.replicate_succ, Array.replicate_zero, List.push_toArray, List.append_toArray, List.nil_append, List.cons_append]
  gi_wp2
  have hgw : IsGr w (((w.alloc (.cells #[.string s] 9)).alloc (.cells #[.int .i64 stop] 3)).alloc (.cells #[.bool false] 4)) := ((((IsGr.refl w).alloc _).alloc _).alloc _)
  have cb0 := cell_new w (.string s) 9
  have cb1 := cell_new (w.alloc (.cells #[.string s] 9)) (.int .i64 stop) 3
  have cb := cell_new ((w.alloc (.cells #[.string s] 9)).alloc (.cells #[.int .i64 stop] 3)) (.bool false) 4
  simp only [World.size_alloc] at cb cb1
  have ca0 := cell_past (.cells #[.bool false] 4) (cell_past (.cells #[.int .i64 stop] 3) cb0.1)
  have ca1 := cell_past (.cells #[.bool false] 4) cb1.1
  have hszA : (((w.alloc (.cells #[.string s] 9)).alloc (.cells #[.int .i64 stop] 3)).alloc (.cells #[.bool false] 4)).heap.size = w.heap.size + 3 := by simp
  obtain ⟨wA, hwA⟩ : ∃ W, (((w.alloc (.cells #[.string s] 9)).alloc (.cells #[.int .i64 stop] 3)).alloc (.cells #[.bool false] 4)) = W := ⟨_, rfl⟩
  rw [hwA] at hgw ca0 ca1 cb hszA ⊢
  refine ⟨trivial, ?_⟩
  refine (callsIn_wide.2 (RTokens_any s wA hs)).mono ?_
  rintro e w1 h1
  obtain ⟨rfl, bA⟩ := h1.no' HT.out
  have d0 := (bA.cell (p := ⟨w.heap.size, 0, none⟩) (block_lt ca0)).trans ca0
  have d1 := (bA.cell (p := ⟨w.heap.size + 1, 0, none⟩) (block_lt ca1)).trans ca1
  have d2 := (bA.cell (p := ⟨w.heap.size + 1 + 1, 0, none⟩) (block_lt cb.1)).trans cb.1
  have d3 := (bA.frozen (p := ⟨w.heap.size + 1 + 1, 0, none⟩) (block_lt cb.1)).trans cb.2
  have hbw1 : Below w.heap.size w w1 := hgw.below.trans (bA.mono hgw.size)
  have hsz1 : w.heap.size + 3 ≤ w1.heap.size := by have := bA.size; omega
  have HW1 : Hid (Below w.heap.size w w1 ∧ w.heap.size + 3 ≤ w1.heap.size ∧ (w1.cell? ⟨w.heap.size + 1, 0, none⟩ = some (.int .i64 stop) ∧ w1.cell? ⟨w.heap.size + 1 + 1, 0, none⟩ = some (.bool false) ∧ w1.frozen? ⟨w.heap.size + 1 + 1, 0, none⟩ = false)) := ⟨hbw1, hsz1, d1, d2, d3⟩
  clear hgw ca0 ca1 cb cb0 cb1 hwA hszA h h1 bA d1 d2 d3 hbw1 hsz1
  gi_wp2
  have C2 := RTokens_any (s.extract 0 q) w1 HCUT.out.2
  refine ⟨trivial, ?_⟩
  refine (callsIn_wide.2 C2).mono ?_
  clear C2
  rintro e w2 h2
  obtain ⟨v2, rfl, hl2, hb2⟩ := h2.yes' HCUT.out.1
  have hV : LaV w w2.heap.size s stop v2 tl 0 ((w2.alloc (.cells #[v2] 27)).alloc (.cells #[.int .i64 0] 3)) :=
    LaV.new w w2 s stop v2 tl w1.heap.size (by have := HW1.out.2.1; have := hb2.size; omega) hl2 (HW1.out.1.trans (hb2.mono HW1.out.1.size)) ((hb2.cell (p := ⟨w.heap.size, 0, none⟩) (block_lt d0)).trans d0)
      ((hb2.cell (p := ⟨w.heap.size + 1, 0, none⟩) (block_lt HW1.out.2.2.1)).trans HW1.out.2.2.1) ((hb2.cell (p := ⟨w.heap.size + 1 + 1, 0, none⟩) (block_lt HW1.out.2.2.2.1)).trans HW1.out.2.2.2.1) ((hb2.frozen (p := ⟨w.heap.size + 1 + 1, 0, none⟩) (block_lt HW1.out.2.2.2.1)).trans HW1.out.2.2.2.2)
  obtain ⟨va, vc, rfl, hvc, -⟩ := hl2.form
  rw [tok3_len] at hV hvc ⊢
  obtain ⟨n, hn⟩ : ∃ n, tl.length = n := ⟨_, rfl⟩
  have HN : Hid (tl.length = n ∧ n ≤ 3000) := ⟨hn, by have := tks_len (bts s); rw [HT.out, bts_len] at this; simp only at this; omega⟩
  rw [hn] at hV hvc ⊢
  have HV : Hid (LaV w w2.heap.size s stop (.slice va n vc) tl 0 ((w2.alloc (.cells #[.slice va n vc] 27)).alloc (.cells #[.int .i64 0] 3))) := hV
  have e0 := cell_past (.cells #[.int .i64 0] 3) (cell_past (.cells #[.slice va n vc] 27) ((hb2.cell (p := ⟨w.heap.size, 0, none⟩) (block_lt d0)).trans d0))
  clear HW1 d0 h2 hl2 hb2 hV hn
  gi_wp2
  obtain ⟨wB, hwB⟩ : ∃ W, ((w2.alloc (.cells #[.slice va n vc] 27)).alloc (.cells #[.int .i64 0] 3)) = W := ⟨_, rfl⟩
  rw [hwB] at HV ⊢
  refine ⟨trivial, ?_⟩
  refine (callsIn_wide.2 (CA.all s wB HS.out)).mono ?_
  rintro e w5 ⟨gf, lb, rfl, Z, hb5, hen, hZ, hall⟩
  have hV5 := HV.out.below HV.out.size hb5
  have hnR := fun W => nilA gf lb W
  have hB5 := hb5.size
  have hBP : w2.heap.size + 2 ≤ wB.heap.size := HV.out.size
  have hlo : w.heap.size + 3 ≤ w2.heap.size := HV.out.lo
  have HZ : Hid ((∀ z ∈ Z, w2.heap.size + 2 ≤ z ∧ z < w5.heap.size) ∧ w2.heap.size + 2 ≤ w5.heap.size ∧ w.heap.size + 3 ≤ w2.heap.size) := ⟨fun z hz => by have := hZ z hz; omega, by omega, hlo⟩
  clear hwB e0 HV hb5
  gi_wp2
  refine wpIn_range_box1W (α := Tk) rfl rfl (by omega) (gf := gf) (lb := lb) rfl trivial hen (encs := fun t : Tk => #[.agg #[.int .i64 (t.1 : Nat), .int .i64 (t.2.1 : Nat), .int .i64 (t.2.2 : Nat)], .string (txS s t)]) (R := Below (w5.heap.size + 2)) (Kp := KpZN (w5.heap.size + 2) Z)
    (T := fun pre t _ => ∃ rest, (tks (bts s) 0).1 = pre ++ t :: rest) (S := fun xs _ => xs = (tks (bts s) 0).1) (Sp := fun xs _ => ∃ rest, (tks (bts s) 0).1 = xs ++ rest)
    (fun o1 o2 => by
      have h1 := hall (9 - 1) ((w5.alloc o1).alloc o2) (by omega) (by simp; omega) (fun z hz => by
        have hz2 := (hZ z hz).2
        have e1 := ((IsGr.refl w5).alloc o1).below.block z hz2
        have e2 := ((IsGr.refl (w5.alloc o1)).alloc o2).below.block z (by simp; omega)
        exact e2.trans e1)
      have e : ((w5.alloc o1).alloc o2).heap.size = w5.heap.size + 2 := by simp
      rw [e] at h1
      exact h1)
    (fun X Y hXY k hk hlt => hXY.block k (by omega)) (fun h1 h2 => h1.trans h2) (fun W o => ⟨⟨by simp, fun k hk hl => World.putObj_heap_other (by omega)⟩, fun z hz => World.putObj_heap_other (by have := (hZ z hz).2; omega)⟩) (fun _ => rfl)
    (fun pre W => LaV w w2.heap.size s stop (.slice va n vc) tl pre.length W) (fun c' _ W => c' = .ret ∧ LaX w W)
    (LaV.own (by omega)) (fun c' s A B row hs hg hr => ⟨hs.1, LaX.grown (N := w5.heap.size) (by omega) hs.2 hg (fun r e => (hr r e).1)⟩) (fun s A B row hs hg hr => hs) (fun s A B row hs hg hr => hs)
    (fun _ _ s A B row hs hg hr => hs) (fun s A B hs hr => hs.below (by omega) hr) (fun c' s A B hs hr => ⟨hs.1, hs.2.below (by omega) hr⟩) hV5
    ?a1 (fun t => [.int .i64 (t.1 : Nat), .int .i64 (t.2.1 : Nat), .int .i64 (t.2.2 : Nat)])
    (fun _ _ _ h hg => h.gr hg) (fun _ _ _ _ h _ => h) (fun A B hs hg => KpZN.of (M := 0) (KpN.gr hg) (Nat.zero_le _) (fun z hz => ⟨Nat.zero_le _, by have := (hZ z hz).2; omega⟩))
    ?assign ?body ?done ?stop
  case assign =>
    intro lq t W K hs hK
    gi_wp2
    have hg := (IsGr.refl W).alloc (.cells #[.int .i64 (t.1 : Nat), .int .i64 (t.2.1 : Nat), .int .i64 (t.2.2 : Nat)] 31)
    have z1 : ∀ (i : Nat) u, ([.int .i64 (t.1 : Nat), .int .i64 (t.2.1 : Nat), .int .i64 (t.2.2 : Nat)] : List Value)[i]? = some u → (W.alloc (.cells #[.int .i64 (t.1 : Nat), .int .i64 (t.2.1 : Nat), .int .i64 (t.2.2 : Nat)] 31)).cell? ⟨W.heap.size, i, none⟩ = some u := fun i u hu => by
      rw [World.cell?_alloc_at _ _ _ _ rfl]
      simpa using hu
    obtain ⟨B, hB⟩ : ∃ B, W.heap.size = B := ⟨_, rfl⟩
    rw [hB] at z1 ⊢
    exact hK _ _ hg (by omega) z1
  case stop =>
    rintro D c' xs W hD hSp ⟨rfl, hX⟩ hK
    have hwD : w.heap.size ≤ D := by omega
    gi_wp2
    refine ⟨by simp, .inl ⟨_, _, rfl, run_takeDeferred hK, ?_⟩⟩
    have hc5 := cell_kept hX.1.1 (grownBy_putObj' W D (.deferred none)) (fun r e => by cases e; exact ⟨_, hK, rfl⟩)
    refine ⟨.bool true, ?_, rfl, hX.2.1.trans (belowK_b (w := w) (Nat.le_refl _) _ D _ _ hwD hK rfl rfl)⟩
    simp [results, Try.f6, go_sem, hc5]
  case done =>
    rintro D xs W hD hSx hV hK
    have hxl : xs.length = n := by rw [hSx, HT.out]; exact HN.out.1
    simp only [hxl] at hV
    have cv := hV.cv
    have ck := hV.ck
    have hnn : ((n : Int) == (n : Int)) = true := by simp
    have HD : Hid ((W.cell? ⟨w.heap.size + 1 + 1, 0, none⟩ = some (.bool false) ∧ W.frozen? ⟨w.heap.size + 1 + 1, 0, none⟩ = false) ∧ Below w.heap.size w W ∧ W.heap[D]? = some (.deferred (some [])) ∧ w.heap.size + 3 ≤ D) := ⟨⟨hV.c2, hV.f2⟩, hV.bel, hK, by omega⟩
    have CW := awake_any LC W
    clear hV hxl hSx hK hV5
    gi_wp2
    refine ⟨trivial, ?_⟩
    refine (callsIn_wide.2 CW).mono ?_
    clear CW
    rintro e w6 ⟨rfl, hB6⟩
    obtain ⟨⟨r1, r2⟩, r3, r4, r5⟩ := HD.out
    have k1 := (hB6.cell (p := ⟨w.heap.size + 1 + 1, 0, none⟩) (block_lt r1)).trans r1
    have k2 := (hB6.frozen (p := ⟨w.heap.size + 1 + 1, 0, none⟩) (block_lt r1)).trans r2
    have k4 := (hB6.block D (Array.getElem?_eq_some_iff.1 r4).1).trans r4
    have k3 := r3.trans (hB6.mono r3.size)
    have k5 : w.heap.size ≤ D := by omega
    clear r1 r2 r3 r4 r5 hB6 HD cv ck
    gi_wp2
    have hK' := (KeepsOthers.setCell w6 ⟨w.heap.size + 1 + 1, 0, none⟩ (.bool true)).same D _ k4 rfl
    refine ⟨by simp, .inl ⟨_, _, rfl, run_takeDeferred hK', ?_⟩⟩
    have hc5 := cell_kept (cell_s (v := .bool true) k1) (grownBy_putObj' _ D (.deferred none)) (fun r e => by cases e; exact ⟨_, hK', rfl⟩)
    refine ⟨.bool true, ?_, rfl, (k3.setCell (p := ⟨w.heap.size + 1 + 1, 0, none⟩) (by simp; omega) _).trans (belowK_b (w := w) (Nat.le_refl _) _ D _ _ k5 hK' rfl rfl)⟩
    simp [results, Try.f6, go_sem, hc5]
  case body =>
    rintro lq pre ⟨kd, i, j⟩ B W hV ⟨rest, hrest⟩ hB hz hWs
    have z1 : W.cell? ⟨B, 0, none⟩ = some (.int .i64 (kd : Nat)) := hz 0 _ rfl
    have z2 : W.cell? ⟨B, 1, none⟩ = some (.int .i64 (i : Nat)) := hz 1 _ rfl
    have z3 : W.cell? ⟨B, 2, none⟩ = some (.int .i64 (j : Nat)) := hz 2 _ rfl
    rw [HT.out] at hrest
    simp only at hrest
    have hkn : pre.length < n := by rw [← HN.out.1, hrest]; simp
    obtain ⟨hij, hjs⟩ : i < j ∧ j ≤ s.size := by
      have h1 := tks_in _ (bts s) 0 (Nat.le_refl _) (kd, i, j) (by rw [HT.out, hrest]; simp)
      rw [bts_len] at h1
      simp only at h1
      omega
    obtain ⟨kk, hkk⟩ : ∃ kk, pre.length = kk := ⟨_, rfl⟩
    have htk : (tok3 tl).getD kk (0, 0, 0) = ((kd : Int), (i : Int), (j : Int)) := by rw [hrest, ← hkk]; simp [tok3, List.getD]
    have hLs := hV.ls
    obtain ⟨a', c', e1, hcap, hf⟩ := hLs.form
    rw [tok3_len, HN.out.1] at e1 hf hcap
    injection e1 with e1a e1b e1c
    subst e1a
    rcases hf with ⟨h, -⟩ | ⟨g, rfl, -, -, hc⟩
    · have := congrArg List.length h; rw [tok3_len, HN.out.1] at this; simp at this; omega
    obtain ⟨y1, y2, y3⟩ := hc kk (by omega)
    rw [htk] at y1 y2 y3
    simp only at y1 y2 y3
    rw [hkk] at hV hkn
    have hV' : LaV w w2.heap.size s stop (.slice (some ⟨g, 0, none⟩) n vc) tl kk W := hV
    have ck := hV'.ck
    have cv := hV'.cv
    have c0 := hV'.c0
    have HF : Hid (pre.length = kk ∧ i < j ∧ j ≤ s.size ∧ w5.heap.size ≤ B ∧ w5.heap.size + 1 < W.heap.size) := ⟨hkk, hij, hjs, hB, hWs⟩
    have HV : Hid (LaV w w2.heap.size s stop (.slice (some ⟨g, 0, none⟩) n vc) tl kk W) := hV'
    have hkn1 : ¬ (n : Int) ≤ kk := by omega
    have hkn2 : decide ((n : Int) ≤ kk) = false := decide_eq_false hkn1
    have hkn3 : (kk : Int) < n := by omega
    have hij' : (i : Int) ≤ j := by omega
    have hjs' : (j : Int) ≤ s.size := by omega
    clear hV hV' hV5 hrest hLs hc hcap htk hij hjs hkk hz e1b e1c hWs hB5 hBP hZ hlo hB
    gi_upto_region 14 with fail
    obtain ⟨C, hin, hcl, hcells, hgr⟩ : ∃ C : World → Prop, (∀ w', IsGr W w' → C w') ∧ (∀ u u', C u → IsGr u u' → C u') ∧ (∀ w', C w' → (w'.cell? ⟨w2.heap.size + 1, 0, none⟩ = some (.int .i64 kk)) ∧ (w'.cell? ⟨w2.heap.size, 0, none⟩ = some (.slice (some ⟨g, 0, none⟩) n vc)) ∧ (w'.cell? ⟨B, 0, none⟩ = some (.int .i64 kd)) ∧ (w'.cell? ⟨B, 1, none⟩ = some (.int .i64 i)) ∧ (w'.cell? ⟨B, 2, none⟩ = some (.int .i64 j)) ∧ (w'.cell? ⟨g, kk * 3, none⟩ = some (.int .i64 kd)) ∧ (w'.cell? ⟨g, kk * 3 + 1, none⟩ = some (.int .i64 i)) ∧ (w'.cell? ⟨g, kk * 3 + 2, none⟩ = some (.int .i64 j))) ∧ (∀ w', C w' → IsGr W w') := ⟨fun w' => IsGr W w', fun _ h => h, fun _ _ h k => h.trans k, fun w' hg => ⟨cellk ck hg, cellk cv hg, cellk z1 hg, cellk z2 hg, cellk z3 hg, cellk y1 hg, cellk y2 hg, cellk y3 hg⟩, fun _ h => h⟩
    refine wpIn_region_held (S := C) (by kernel_rfl) (by kernel_rfl) (fun ⟨_, _, h⟩ => h) (by (try dsimp only); exact hin _ (by with_reducible repeat (first | exact IsGr.refl _ | refine IsGr.gr ?_ _ _ | refine IsGr.alloc ?_ _ | refine IsGr.drew ?_ | refine IsGr.drewN ?_ _))) (fun hHeld => ?_)
    refine wpAnyH_take (i := 0) (oi := { dst := some 42, op := Op.load 3 (Operand.tmp 10), type := 3, pos := "law.go:69", after := #[], guard := none }) (v := ?_) rfl (by kernel_rfl) (by kernel_rfl) (by kernel_rfl) (fun _ _ _ h => h) (Or.inl ⟨by rfl, ?_⟩) (by assumption) ?_
    rotate_left
    · (intro w hSw; (try dsimp only at hSw); (try have hcs := hcells w hSw); (try go_split_ands); go_simp <;> with_reducible rfl)
    (try simp only [Act.put, List.setIfInBounds_toArray, List.set_cons_zero, List.set_cons_succ])
    refine wpAnyH_take (i := 1) (oi := { dst := some 43, op := Op.load 27 (Operand.tmp 8), type := 27, pos := "law.go:69", after := #[], guard := none }) (v := ?_) rfl (by kernel_rfl) (by kernel_rfl) (by kernel_rfl) (fun _ _ _ h => h) (Or.inl ⟨by rfl, ?_⟩) (by assumption) ?_
    rotate_left
    · (intro w hSw; (try dsimp only at hSw); (try have hcs := hcells w hSw); (try go_split_ands); go_simp <;> with_reducible rfl)
    (try simp only [Act.put, List.setIfInBounds_toArray, List.set_cons_zero, List.set_cons_succ])
    refine wpAnyH_take (i := 2) (oi := { dst := some 44, op := Op.call { callee := Callee.builtin Builtin.len, args := #[Operand.tmp 43], argTypes := #[27] }, type := 3, pos := "law.go:69", after := #[{ on := 1, ground := Ground.data }], guard := none }) (v := ?_) rfl (by kernel_rfl) (by kernel_rfl) (by kernel_rfl) (fun _ _ _ h => h) (Or.inl ⟨by rfl, ?_⟩) (by assumption) ?_
    rotate_left
    · (intro w hSw; (try dsimp only at hSw); (try have hcs := hcells w hSw); (try go_split_ands); go_simp <;> with_reducible rfl)
    (try simp only [Act.put, List.setIfInBounds_toArray, List.set_cons_zero, List.set_cons_succ])
    refine wpAnyH_take (i := 3) (oi := { dst := some 45, op := Op.binOp BinOp.geq 3 (Operand.tmp 42) (Operand.tmp 44) 3, type := 4, pos := "law.go:69", after := #[{ on := 0, ground := Ground.data }, { on := 2, ground := Ground.data }], guard := none }) (v := ?_) rfl (by kernel_rfl) (by kernel_rfl) (by kernel_rfl) (fun _ _ _ h => h) (Or.inl ⟨by rfl, ?_⟩) (by assumption) ?_
    rotate_left
    · (intro w hSw; (try dsimp only at hSw); (try have hcs := hcells w hSw); (try go_split_ands); go_simp <;> with_reducible rfl)
    (try simp only [Act.put, List.setIfInBounds_toArray, List.set_cons_zero, List.set_cons_succ])
    refine wpAnyH_take (i := 4) (oi := { dst := some 46, op := Op.move (Operand.tmp 45), type := 4, pos := "law.go:69", after := #[{ on := 3, ground := Ground.data }], guard := none }) (v := ?_) rfl (by kernel_rfl) (by kernel_rfl) (by kernel_rfl) (fun _ _ _ h => h) (Or.inl ⟨by rfl, ?_⟩) (by assumption) ?_
    rotate_left
    · (intro w hSw; (try dsimp only at hSw); (try have hcs := hcells w hSw); (try go_split_ands); go_simp <;> with_reducible rfl)
    (try simp only [Act.put, List.setIfInBounds_toArray, List.set_cons_zero, List.set_cons_succ])
    refine wpAnyH_take (i := 5) (oi := { dst := some 47, op := Op.load 31 (Operand.tmp 12), type := 31, pos := "law.go:69", after := #[{ on := 4, ground := Ground.guard }], guard := some (4, false) }) (v := ?_) rfl (by kernel_rfl) (by kernel_rfl) (by kernel_rfl) (fun _ _ _ h => h) (Or.inl ⟨by rfl, ?_⟩) (by assumption) ?_
    rotate_left
    · (intro w hSw; (try dsimp only at hSw); (try have hcs := hcells w hSw); (try go_split_ands); go_simp <;> with_reducible rfl)
    (try simp only [Act.put, List.setIfInBounds_toArray, List.set_cons_zero, List.set_cons_succ])
    refine wpAnyH_take (i := 6) (oi := { dst := some 48, op := Op.load 27 (Operand.tmp 8), type := 27, pos := "law.go:69", after := #[{ on := 4, ground := Ground.guard }], guard := some (4, false) }) (v := ?_) rfl (by kernel_rfl) (by kernel_rfl) (by kernel_rfl) (fun _ _ _ h => h) (Or.inl ⟨by rfl, ?_⟩) (by assumption) ?_
    rotate_left
    · (intro w hSw; (try dsimp only at hSw); (try have hcs := hcells w hSw); (try go_split_ands); go_simp <;> with_reducible rfl)
    (try simp only [Act.put, List.setIfInBounds_toArray, List.set_cons_zero, List.set_cons_succ])
    refine wpAnyH_take (i := 7) (oi := { dst := some 49, op := Op.load 3 (Operand.tmp 10), type := 3, pos := "law.go:69", after := #[{ on := 4, ground := Ground.guard }], guard := some (4, false) }) (v := ?_) rfl (by kernel_rfl) (by kernel_rfl) (by kernel_rfl) (fun _ _ _ h => h) (Or.inl ⟨by rfl, ?_⟩) (by assumption) ?_
    rotate_left
    · (intro w hSw; (try dsimp only at hSw); (try have hcs := hcells w hSw); (try go_split_ands); go_simp <;> with_reducible rfl)
    (try simp only [Act.put, List.setIfInBounds_toArray, List.set_cons_zero, List.set_cons_succ])
    refine wpAnyH_take (i := 8) (oi := { dst := some 50, op := Op.indexAddr 27 (Operand.tmp 48) (Operand.tmp 49), type := 0, pos := "law.go:69", after := #[{ on := 6, ground := Ground.data }, { on := 7, ground := Ground.data }, { on := 4, ground := Ground.guard }], guard := some (4, false) }) (v := ?_) rfl (by kernel_rfl) (by kernel_rfl) (by kernel_rfl) (fun _ _ _ h => h) (Or.inl ⟨by rfl, ?_⟩) (by assumption) ?_
    rotate_left
    · (intro w hSw; (try dsimp only at hSw); (try have hcs := hcells w hSw); (try go_split_ands); go_simp <;> with_reducible rfl)
    (try simp only [Act.put, List.setIfInBounds_toArray, List.set_cons_zero, List.set_cons_succ])
    refine wpAnyH_take (i := 9) (oi := { dst := some 51, op := Op.load 32 (Operand.tmp 50), type := 32, pos := "law.go:69", after := #[{ on := 8, ground := Ground.data }, { on := 4, ground := Ground.guard }], guard := some (4, false) }) (v := ?_) rfl (by kernel_rfl) (by kernel_rfl) (by kernel_rfl) (fun _ _ _ h => h) (Or.inl ⟨by rfl, ?_⟩) (by assumption) ?_
    rotate_left
    · (intro w hSw; (try dsimp only at hSw); (try have hcs := hcells w hSw); (try go_split_ands); go_simp <;> with_reducible rfl)
    (try simp only [Act.put, List.setIfInBounds_toArray, List.set_cons_zero, List.set_cons_succ])
    refine wpAnyH_take (i := 10) (oi := { dst := some 52, op := Op.binOp BinOp.neq 32 (Operand.tmp 47) (Operand.tmp 51) 32, type := 4, pos := "law.go:69", after := #[{ on := 5, ground := Ground.data }, { on := 9, ground := Ground.data }, { on := 4, ground := Ground.guard }], guard := some (4, false) }) (v := ?_) rfl (by kernel_rfl) (by kernel_rfl) (by kernel_rfl) (fun _ _ _ h => h) (Or.inl ⟨by rfl, ?_⟩) (by assumption) ?_
    rotate_left
    · (intro w hSw; (try dsimp only at hSw); (try have hcs := hcells w hSw); (try go_split_ands); go_simp <;> with_reducible rfl)
    (try simp only [Act.put, List.setIfInBounds_toArray, List.set_cons_zero, List.set_cons_succ])
    refine wpAnyH_take (i := 11) (oi := { dst := some 53, op := Op.pick (Operand.tmp 46) (Operand.const (Value.bool true)) (Operand.tmp 52), type := 4, pos := "law.go:69", after := #[{ on := 4, ground := Ground.data }, { on := 10, ground := Ground.data }], guard := none }) (v := ?_) rfl (by kernel_rfl) (by kernel_rfl) (by kernel_rfl) (fun _ _ _ h => h) (Or.inl ⟨by rfl, ?_⟩) (by assumption) ?_
    rotate_left
    · (intro w hSw; (try dsimp only at hSw); (try have hcs := hcells w hSw); (try go_split_ands); go_simp <;> with_reducible rfl)
    (try simp only [Act.put, List.setIfInBounds_toArray, List.set_cons_zero, List.set_cons_succ])
    refine wpAnyH_done (by kernel_rfl) ?_ _
    have hgq := hgr _ hHeld
    obtain ⟨wq, hwq⟩ : ∃ V, V = W.drew := ⟨_, rfl⟩
    rw [← hwq] at hgq ⊢
    have HV1 : Hid (LaV w w2.heap.size s stop (.slice (some ⟨g, 0, none⟩) n vc) tl kk wq) := HV.out.gr hgq
    have K1 : Hid (KpN (w2.heap.size + 2) W wq) := KpN.gr hgq
    have c0q := HV1.out.c0
    have z1q := cellk z1 hgq
    have z2q := cellk z2 hgq
    have z3q := cellk z3 hgq
    clear hHeld hgr hin hcl hcells hwq hgq ck cv c0 z1 z2 z3 y1 y2 y3 HV hkn1 hkn2 hkn3
    by_cases hkd : kd = 1
    · have hk1 : ((kd : Int) == 1) = true := by simp [hkd]
      have htx : txS s (kd, i, j) = strOfNums (upL (bts (s.extract i j))) := by unfold txS; rw [if_pos hkd]
      rw [htx]
      have CU := fun w => RUpper_any (s.extract i j) w (by rw [size_extract HF.out.2.2.1]; have := HS.out; omega)
      obtain ⟨u, hu⟩ : ∃ u, strOfNums (upL (bts (s.extract i j))) = u := ⟨_, rfl⟩
      simp only [hu] at CU
      rw [hu]
      clear htx hkd hu
      gi_wp2
      refine ⟨trivial, ?_⟩
      refine (CallsIn.inRound lq (callsIn_wide.2 (CU _))).mono ?_
      clear CU
      rintro e w7 ⟨rfl, hb7⟩
      have HV2 : Hid (LaV w w2.heap.size s stop (.slice (some ⟨g, 0, none⟩) n vc) tl kk w7) := HV1.out.gr (IsGr.of_below hb7)
      have K3 : Hid (KpN (w2.heap.size + 2) W w7) := K1.out.trans (KpN.gr (IsGr.of_below hb7))
      clear hb7 K1 HV1 c0q z1q z2q z3q hk1
      have HV3 : Hid (LaV w w2.heap.size s stop (.slice (some ⟨g, 0, none⟩) n vc) tl (kk + 1) (w7.setCell ⟨w2.heap.size + 1, 0, none⟩ (.int .i64 ((kk + 1 : Nat) : Int)))) := HV2.out.setK (kk + 1)
      have hcast : ((kk + 1 : Nat) : Int) = (kk : Int) + 1 := by simp
      rw [hcast] at HV3
      have ek : IntKind.i64.wrap ((kk : Int) + 1) = (kk : Int) + 1 := by rw [IntKind.wrap_i64]; have := HN.out; omega
      have ckx := HV2.out.ck
      have fkx := HV2.out.fk
      gi_upto_region 22 with fail
      obtain ⟨W4, hW4⟩ : ∃ V, w7.setCell ⟨w2.heap.size + 1, 0, none⟩ (.int .i64 ((kk : Int) + 1)) = V := ⟨_, rfl⟩
      have K4 : Hid (KpN (w2.heap.size + 2) W W4) := by rw [← hW4]; exact K3.out.trans (KpN.set (by omega))
      rw [hW4] at HV3 ⊢
      have HV4 : Hid (LaV w w2.heap.size s stop (.slice (some ⟨g, 0, none⟩) n vc) tl (kk + 1) W4) := HV3.out
      have ck4 := HV4.out.ck
      rw [hcast] at ck4
      have c14 := HV4.out.c1
      clear hcast ek ckx fkx hW4 K3 HV3 HV2
      have K5 : Hid (KpN (w2.heap.size + 2) W W4) := K4.out
      by_cases hss : (kk : Int) + 1 = stop
      · have hs1 : ((kk : Int) + 1 == stop) = true := by simpa using hss
        have CW := awake_any LC W4
        clear hss
        gi_wp2
        refine ⟨trivial, ?_⟩
        refine (CallsIn.inRound lq (callsIn_wide.2 CW)).mono ?_
        clear CW
        rintro e W5 ⟨rfl, hb5⟩
        have h2 := (hb5.cell (p := ⟨w.heap.size + 1 + 1, 0, none⟩) (block_lt HV4.out.c2)).trans HV4.out.c2
        have k2 := (hb5.frozen (p := ⟨w.heap.size + 1 + 1, 0, none⟩) (block_lt HV4.out.c2)).trans HV4.out.f2
        have K6 : KpN (w2.heap.size + 2) W (W5.setCell ⟨w.heap.size + 1 + 1, 0, none⟩ (.bool true)) := (K5.out.trans (KpN.gr (IsGr.of_below hb5))).trans (KpN.set (by have := HZ.out.2.2; omega))
        have FX : Hid ((KeptB w5.heap.size W (W5.setCell ⟨w.heap.size + 1 + 1, 0, none⟩ (.bool true)) ∧ KpZN (w5.heap.size + 2) Z W (W5.setCell ⟨w.heap.size + 1 + 1, 0, none⟩ (.bool true))) ∧ LaX w (W5.setCell ⟨w.heap.size + 1 + 1, 0, none⟩ (.bool true))) := by
          have h1 := HF.out
          have h3 := HZ.out
          refine ⟨⟨(K6.mono (by omega)).kept (by omega), KpZN.of K6 (by omega) (fun z hz => by have := h3.1 z hz; omega)⟩, ⟨cell_s h2, by rw [World.frozen?_setCell]; exact k2⟩, (HV4.out.bel.trans (hb5.mono HV4.out.bel.size)).setCell (p := ⟨w.heap.size + 1 + 1, 0, none⟩) (by simp; omega) _, ?_⟩
          rw [set_size]; have := HV4.out.size; have := hb5.size; have := HV4.out.lo; omega
        clear K6 hb5 ck4 c14 hs1
        gi_wp2
        exact ⟨FX.out.1, rfl, FX.out.2⟩
      · have hs1 : ((kk : Int) + 1 == stop) = false := by simpa using hss
        have FX : Hid ((KeptB w5.heap.size W W4 ∧ KpZN (w5.heap.size + 2) Z W W4) ∧ LaV w w2.heap.size s stop (.slice (some ⟨g, 0, none⟩) n vc) tl (pre ++ [(kd, i, j)]).length W4) := by
          have h1 := HF.out
          have h3 := HZ.out
          refine ⟨⟨(K5.out.mono (by omega)).kept (by omega), KpZN.of K5.out (by omega) (fun z hz => by have := h3.1 z hz; omega)⟩, ?_⟩
          rw [List.length_append, h1.1]
          exact HV4.out
        clear hss
        gi_wp2
        exact FX.out
    · have hk1 : ((kd : Int) == 1) = false := by simp; omega
      have htx : txS s (kd, i, j) = s.extract i j := by unfold txS; rw [if_neg hkd]
      rw [htx]
      have HV2 : Hid (LaV w w2.heap.size s stop (.slice (some ⟨g, 0, none⟩) n vc) tl kk wq) := HV1.out
      have K3 : Hid (KpN (w2.heap.size + 2) W wq) := K1.out
      clear htx hkd K1 HV1
      have HV3 : Hid (LaV w w2.heap.size s stop (.slice (some ⟨g, 0, none⟩) n vc) tl (kk + 1) (wq.setCell ⟨w2.heap.size + 1, 0, none⟩ (.int .i64 ((kk + 1 : Nat) : Int)))) := HV2.out.setK (kk + 1)
      have hcast : ((kk + 1 : Nat) : Int) = (kk : Int) + 1 := by simp
      rw [hcast] at HV3
      have ek : IntKind.i64.wrap ((kk : Int) + 1) = (kk : Int) + 1 := by rw [IntKind.wrap_i64]; have := HN.out; omega
      have ckx := HV2.out.ck
      have fkx := HV2.out.fk
      gi_upto_region 22 with fail
      obtain ⟨W4, hW4⟩ : ∃ V, wq.setCell ⟨w2.heap.size + 1, 0, none⟩ (.int .i64 ((kk : Int) + 1)) = V := ⟨_, rfl⟩
      have K4 : Hid (KpN (w2.heap.size + 2) W W4) := by rw [← hW4]; exact K3.out.trans (KpN.set (by omega))
      rw [hW4] at HV3 ⊢
      have HV4 : Hid (LaV w w2.heap.size s stop (.slice (some ⟨g, 0, none⟩) n vc) tl (kk + 1) W4) := HV3.out
      have ck4 := HV4.out.ck
      rw [hcast] at ck4
      have c14 := HV4.out.c1
      clear hcast ek ckx fkx hW4 K3 HV3 HV2
      have K5 : Hid (KpN (w2.heap.size + 2) W W4) := K4.out
      by_cases hss : (kk : Int) + 1 = stop
      · have hs1 : ((kk : Int) + 1 == stop) = true := by simpa using hss
        have CW := awake_any LC W4
        clear hss
        gi_wp2
        refine ⟨trivial, ?_⟩
        refine (CallsIn.inRound lq (callsIn_wide.2 CW)).mono ?_
        clear CW
        rintro e W5 ⟨rfl, hb5⟩
        have h2 := (hb5.cell (p := ⟨w.heap.size + 1 + 1, 0, none⟩) (block_lt HV4.out.c2)).trans HV4.out.c2
        have k2 := (hb5.frozen (p := ⟨w.heap.size + 1 + 1, 0, none⟩) (block_lt HV4.out.c2)).trans HV4.out.f2
        have K6 : KpN (w2.heap.size + 2) W (W5.setCell ⟨w.heap.size + 1 + 1, 0, none⟩ (.bool true)) := (K5.out.trans (KpN.gr (IsGr.of_below hb5))).trans (KpN.set (by have := HZ.out.2.2; omega))
        have FX : Hid ((KeptB w5.heap.size W (W5.setCell ⟨w.heap.size + 1 + 1, 0, none⟩ (.bool true)) ∧ KpZN (w5.heap.size + 2) Z W (W5.setCell ⟨w.heap.size + 1 + 1, 0, none⟩ (.bool true))) ∧ LaX w (W5.setCell ⟨w.heap.size + 1 + 1, 0, none⟩ (.bool true))) := by
          have h1 := HF.out
          have h3 := HZ.out
          refine ⟨⟨(K6.mono (by omega)).kept (by omega), KpZN.of K6 (by omega) (fun z hz => by have := h3.1 z hz; omega)⟩, ⟨cell_s h2, by rw [World.frozen?_setCell]; exact k2⟩, (HV4.out.bel.trans (hb5.mono HV4.out.bel.size)).setCell (p := ⟨w.heap.size + 1 + 1, 0, none⟩) (by simp; omega) _, ?_⟩
          rw [set_size]; have := HV4.out.size; have := hb5.size; have := HV4.out.lo; omega
        clear K6 hb5 ck4 c14 hs1
        gi_wp2
        exact ⟨FX.out.1, rfl, FX.out.2⟩
      · have hs1 : ((kk : Int) + 1 == stop) = false := by simpa using hss
        have FX : Hid ((KeptB w5.heap.size W W4 ∧ KpZN (w5.heap.size + 2) Z W W4) ∧ LaV w w2.heap.size s stop (.slice (some ⟨g, 0, none⟩) n vc) tl (pre ++ [(kd, i, j)]).length W4) := by
          have h1 := HF.out
          have h3 := HZ.out
          refine ⟨⟨(K5.out.mono (by omega)).kept (by omega), KpZN.of K5.out (by omega) (fun z hz => by have := h3.1 z hz; omega)⟩, ?_⟩
          rw [List.length_append, h1.1]
          exact HV4.out
        clear hss
        gi_wp2
        exact FX.out
theorem law_all (LC : LexC) (CA : LexA) (s : ByteArray) (stop : Int) (w : World) : Calls Try.prog 6 #[.string s, .int .i64 stop] w fun e w' => e = .returned (.bool true) ∧ Below w.heap.size w w' := by
  by_cases hs : s.size ≤ 3000
  · cases h : tks (bts s) 0 with
    | mk tl b =>
      cases b with
      | none => exact law_all_none LC CA s stop w hs tl h
      | some q => exact law_all_some LC CA s stop w hs tl q h
  · exact law_all_big LC s stop w hs
end Go.Proofs.Ytpgcfnpnpmpkeaa
