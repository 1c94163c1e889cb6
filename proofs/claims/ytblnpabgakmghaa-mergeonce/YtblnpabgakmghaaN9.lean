/- Contracts of package merge over the loaded program: Once. -/
import Derived.Test.YtblnpabgakmghaaN8
import Derived.Test.YtblnpabgakmghaaN6
import Derived.Test.YtblnpabgakmghaaS8
import Derived.Shelf.RegionOpen
namespace Go.Proofs.Ytblnpabgakmghaa
open Go.RowKit Go.Shelf
attribute [local go_sem] Oper.semAt_some
set_option maxHeartbeats 1000000 in
theorem pieces_any (a : Option Addr) (n c : Nat) (s : Nat) (lb : Array Value) (w : World) : Calls Try.prog 28 #[.slice a n c, .func (.func s) #[] lb] w fun e w' => e = .returned (.func (.func 33) #[] #[.pointer (some ⟨w.heap.size, 0, none⟩), .pointer (some ⟨w.heap.size + 1, 0, none⟩)]) ∧ w' = (w.alloc (.cells #[.slice a n c] 22)).alloc (.cells #[.func (.func s) #[] lb] 34) := by
  go_enter Try.func28, Try.ntmps28
  go_wp2_with fail
  go_ret
  exact ⟨rfl, rfl⟩
set_option maxHeartbeats 1000000 in
theorem once1_any {f : Nat} {k : Int → Int} (hO : Ordr f k) (a b : Int) (B : Nat) (w : World) (ha : I64 a) (hb : I64 b) (hB : w.cell? ⟨B, 0, none⟩ = some (.func (.func f) #[] #[])) :
    Calls Try.prog 30 #[.int .i64 a, .int .i64 b, .pointer (some ⟨B, 0, none⟩)] w fun e w' => e = .returned (.bool (decide (k a = k b))) ∧ IsGr w w' := by
  have CO := fun w => hO.2 a b w ha hb
  have hE : ∀ args w, (callFunc f args).run Try.prog w = .ok (.enter f args) w := hO.1
  obtain ⟨r, hr⟩ : ∃ r, decide (k a = k b) = r := ⟨_, rfl⟩
  have HR : Hid (decide (k a = k b) = r) := hr
  rw [hr]
  clear hr hO
  go_enter Try.func30, Try.ntmps30
  go_wp2_with fail
  refine (CO _).mono ?_
  rintro e w1 ⟨m, hs, rfl, hg⟩
  have d1 : (m == 0) = r := by
    have := HR.out
    rw [← this]
    unfold Sg at hs
    by_cases h : k a = k b
    · rw [decide_eq_true h]; simp; omega
    · rw [decide_eq_false h]; simp; omega
  clear hs CO
  go_wp2_with fail
  go_ret
  exact ⟨rfl, hg⟩
theorem Chn.len {k : Int → Int} {L : List Int} : ∀ {xs : List (Nat × Nat)} {a b : Nat}, Chn k L a xs b → a + xs.length ≤ b
  | [], a, b, h => by
    have h : a = b := h
    simp [h]
  | x :: xs, a, b, ⟨_, h2, h3⟩ => by
    have := h3.len
    have := h2.1
    simp only [List.length_cons]
    omega
/-- The first ones of the pieces are one of each. -/
theorem onc_chn {k : Int → Int} {L : List Int} : ∀ {xs : List (Nat × Nat)} {a : Nat} {p : Option Int}, Chn k L a xs L.length → a ≤ L.length → (a < L.length → p ≠ some (k (L.getD a 0))) → xs.map (fun x => L.getD x.1 0) = onc k p (L.drop a)
  | [], a, p, h, hl, _ => by
    have h : a = L.length := h
    rw [h, List.drop_length]; rfl
  | x :: xs, a, p, ⟨h1, h2, h3⟩, hl, hp => by
    obtain ⟨q1, q2, q3, q4⟩ := h2
    have skip : ∀ m, m < x.2 → onc k (some (k (L.getD (a + x.2 - 1 - m) 0))) (L.drop (a + x.2 - m)) = onc k (some (k (L.getD (a + x.2 - 1) 0))) (L.drop (a + x.2)) := by
      intro m
      induction m with
      | zero => intro _; rfl
      | succ m ih =>
        intro hm
        rw [← ih (by omega), drop_at (show a + x.2 - (m + 1) < L.length by omega), onc]
        have e := q3 (a + x.2 - 1 - (m + 1)) (by omega) (by omega)
        have e1 : a + x.2 - 1 - (m + 1) + 1 = a + x.2 - (m + 1) := by omega
        have e2 : a + x.2 - (m + 1) = a + x.2 - 1 - m := by omega
        have e3 : a + x.2 - (m + 1) + 1 = a + x.2 - m := by omega
        rw [e1] at e
        rw [if_pos (by rw [e]), e3, e2]
    have hd := skip (x.2 - 1) (by omega)
    have e1 : a + x.2 - 1 - (x.2 - 1) = a := by omega
    have e2 : a + x.2 - (x.2 - 1) = a + 1 := by omega
    rw [e1, e2] at hd
    rw [List.map_cons, h1, onc_chn h3 q2 (fun h e => q4 h (Option.some.inj e)), ← hd, drop_at (L := L) (k := a) (by omega), onc, if_neg (hp (by omega))]
/-- What lies in the box of Once: the first ones so far. -/
def OnI (w : World) (base Bf : Nat) (L : List Int) (pre : List (Nat × Nat)) (W : World) : Prop :=
  ∃ v, W.cell? ⟨Bf, 0, none⟩ = some v ∧ W.frozen? ⟨Bf, 0, none⟩ = false ∧ Lst W base v (pre.map fun x => L.getD x.1 0) ∧ Below w.heap.size w W ∧ base ≤ W.heap.size
theorem OnI.own {w : World} {base Bf : Nat} {L : List Int} (hw : w.heap.size ≤ base) : OwnFrom base (OnI w base Bf L) := fun _ _ _ _ ⟨v, h1, h2, h3, h4, h5⟩ hg hr =>
  ⟨v, cell_kept h1 hg (fun r e => (hr r e).2), (frozen_kept h1 hg (fun r e => (hr r e).2)).trans h2, h3.grown hg (fun r e => (hr r e).2), h4.grown hg h4.size (fun r e => by have := (hr r e).1; omega), Nat.le_trans h5 hg.size⟩
theorem OnI.gr {w : World} {base Bf : Nat} {L : List Int} {s : List (Nat × Nat)} {A B : World} (h : OnI w base Bf L s A) (hg : IsGr A B) : OnI w base Bf L s B := by
  obtain ⟨v, h1, h2, h3, h4, h5⟩ := h
  exact ⟨v, cellk h1 hg, frzk h1 h2 hg, h3.gr hg, h4.trans (hg.below.mono h4.size), Nat.le_trans h5 hg.size⟩
/-- What the iterator stands on in Once. -/
def OnP (f : Nat) (ad : Option Addr) (g n c Bl Bo : Nat) (L : List Int) (W : World) : Prop := PcH1 ad g 0 n c Bl (Bl + 1) 30 Bo L (fun W => W.cell? ⟨Bo, 0, none⟩ = some (.func (.func f) #[] #[])) W
theorem OnP.gr {f : Nat} {ad : Option Addr} {g n c Bl Bo : Nat} {L : List Int} {A B : World} (h : OnP f ad g n c Bl Bo L A) (hg : IsGr A B) : OnP f ad g n c Bl Bo L B :=
  ⟨cellk h.list hg, cellk h.same hg, fun i hi => cellk (h.cells i hi) hg, cellk h.held hg⟩
theorem OnP.kp {f : Nat} {ad : Option Addr} {g n c Bl Bo : Nat} {L : List Int} {A B : World} (h : OnP f ad g n c Bl Bo L A) (hg : KpZ [Bo, Bl, Bl + 1, g] A B) : OnP f ad g n c Bl Bo L B :=
  ⟨hg.cell h.list (by simp), hg.cell h.same (by simp), fun i hi => hg.cell (h.cells i hi) (by simp), hg.cell h.held (by simp)⟩
theorem OnP.own {β : Type} {f : Nat} {ad : Option Addr} {g n c Bl Bo : Nat} {L : List Int} (B : Nat) : OwnFrom B (fun (_ : β) W => OnP f ad g n c Bl Bo L W) :=
  Own.from (fun _ _ _ _ hs hg hr => ⟨cell_kept hs.list hg hr, cell_kept hs.same hg hr, fun i hi => cell_kept (hs.cells i hi) hg hr, cell_kept hs.held hg hr⟩) B
theorem on_step {w W W' w2 : World} {f base Bf Bl Bo g n c : Nat} {ad : Option Addr} {L X : List Int} {pre : List (Nat × Nat)} {x : Nat × Nat} {v v2 : Value} (hc : W.cell? ⟨Bf, 0, none⟩ = some v) (hf : W.frozen? ⟨Bf, 0, none⟩ = false) (hl : Lst W base v X) (hX : pre.map (fun x => L.getD x.1 0) = X)
    (hB : Below w.heap.size w W) (hs : base ≤ W.heap.size) (hP : OnP f ad g n c Bl Bo L W) (hZ : ∀ b ∈ [Bo, Bl, Bl + 1, g], b < base) (hBf : Bf < base) (hZf : Bf ∉ [Bo, Bl, Bl + 1, g]) (hwB : w.heap.size ≤ Bf) (hg : IsGr W W') (h2 : Lst w2 base v2 (X ++ [L.getD x.1 0])) (hg2 : W'.grownBy w2 v.ownBlock) :
    (w2.cell? ⟨Bf, 0, none⟩ = some v ∧ w2.frozen? ⟨Bf, 0, none⟩ = false) ∧ (KeepsOthers W (w2.setCell ⟨Bf, 0, none⟩ v2) ∧ KpZ [Bo, Bl, Bl + 1, g] W (w2.setCell ⟨Bf, 0, none⟩ v2)) ∧ OnI w base Bf L (pre ++ [x]) (w2.setCell ⟨Bf, 0, none⟩ v2) ∧ OnP f ad g n c Bl Bo L (w2.setCell ⟨Bf, 0, none⟩ v2) := by
  have hl' := hl.gr hg
  have hown : ∀ q, v.ownBlock = some q → base ≤ q := fun q e => (own_block hl' q e).1
  have hgs := hg.size
  have hk : ∀ b, b < base → w2.heap[b]? = W.heap[b]? := fun b hb => (hg2.block b (by omega) (fun e => by have := hown b e.symm; omega)).trans (hg.below.block b (by omega))
  have hc2 : w2.cell? ⟨Bf, 0, none⟩ = some v := (World.cell?_of_block (a := ⟨Bf, 0, none⟩) (hk Bf hBf)).trans hc
  have hf2 : w2.frozen? ⟨Bf, 0, none⟩ = false := (World.frozen?_of_block (a := ⟨Bf, 0, none⟩) (hk Bf hBf)).trans hf
  have hKp : KpZ [Bo, Bl, Bl + 1, g] W (w2.setCell ⟨Bf, 0, none⟩ v2) := ⟨by rw [set_size]; have := hg2.size; omega, fun b hb => (set_block _ _ _ _ _ (fun e => hZf (by rw [← e]; exact hb))).trans (hk b (hZ b hb))⟩
  have h2s := hg2.size
  refine ⟨⟨hc2, hf2⟩, ⟨((keeps_gr hg).trans (hl'.keeps hg2)).trans (KeepsOthers.setCell _ _ _), hKp⟩, ⟨v2, cell_s hc2, ?_, ?_, ?_, by rw [set_size]; omega⟩, hP.kp hKp⟩
  · rw [World.frozen?_setCell]; exact hf2
  · rw [List.map_append, hX]
    exact h2.wr (S := [Bf]) ((Wr.refl _ _).set _ _ _ (Or.inl (by simp))) (fun q e hm => by
      have e1 : q = Bf := by simpa using hm
      have := (own_block h2 q e).1
      omega)
  · have h3 : Below w.heap.size W w2 := ⟨hg2.os.trans hg.below.os, hg2.tape.trans hg.below.tape, hg2.output.trans hg.below.output, by omega, fun b hb => hk b (by omega)⟩
    exact (hB.trans h3).setCell (p := ⟨Bf, 0, none⟩) hwB _

set_option maxRecDepth 100000 in
set_option maxHeartbeats 2000000 in
theorem Once_any {f : Nat} {k : Int → Int} (hO : Ordr f k) (v : Value) (l : List Int) (w : World) (h : Rd w v l) (hz : Zn v) (hn : l.length ≤ 400) :
    Calls Try.prog 18 #[v, .func (.func f) #[] #[]] w fun e w' => ∃ v', e = .returned v' ∧ Lst w' w.heap.size v' (onc k none (isort k l)) ∧ Below w.heap.size w w' := by
  have CW := fun w => whole_any (f := f) w
  have HO : Hid (Ordr f k) := hO
  have CS := fun W h => Sort_any hO v l W h hz hn
  obtain ⟨L, hL⟩ : ∃ L, isort k l = L := ⟨_, rfl⟩
  have HL : Hid (isort k l = L) := hL
  simp only [hL] at CS
  rw [hL]
  have hLi : ∀ x ∈ L, I64 x := hL ▸ isort_ints h.ints
  have hLn : L.length ≤ 400 := by rw [← hL, isort_len]; exact hn
  clear hL
  refine (callsIn_wide (n := 9)).1 ?_
  refine callsIn_of_wp_marks Try.func18 rfl trivial ?_ rfl
  simp only [Try.ntmps18, List.size_toArray, List.length_cons, List.length_nil, Nat.reduceAdd, Nat.reduceSub, Array.replicate_succ, Array.replicate_zero, List.push_toArray, List.append_toArray, List.nil_append, List.cons_append]
  gi_wp2
  refine ⟨trivial, ?_⟩
  refine (callsIn_wide.2 (CW _)).mono ?_
  rintro e w1 ⟨rfl, e1⟩
  have cb := cell_new w (.func (.func f) #[] #[]) 25
  have cb1 : w1.cell? ⟨w.heap.size, 0, none⟩ = some (.func (.func f) #[] #[]) := e1 ▸ cb.1
  have fb1 : w1.frozen? ⟨w.heap.size, 0, none⟩ = false := e1 ▸ cb.2
  have B1 : Below w.heap.size w w1 := e1 ▸ ((IsGr.refl w).alloc _).below
  have hs1 : w1.heap.size = w.heap.size + 1 := by rw [e1]; simp
  have hst : (store ⟨w.heap.size, 0, none⟩ (.func (.func f) #[] #[])).run Try.prog w1 = .ok () (w1.setCell ⟨w.heap.size, 0, none⟩ (.func (.func f) #[] #[])) := by
    rw [run_store Try.prog w1 _ _ _ rfl, cb1]
    simp [fb1]
  obtain ⟨w2, hw2⟩ : ∃ W, w1.setCell ⟨w.heap.size, 0, none⟩ (.func (.func f) #[] #[]) = W := ⟨_, rfl⟩
  have cb2 : w2.cell? ⟨w.heap.size, 0, none⟩ = some (.func (.func f) #[] #[]) := hw2 ▸ cell_s cb1
  have B2 : Below w.heap.size w w2 := hw2 ▸ B1.setCell (p := ⟨w.heap.size, 0, none⟩) (Nat.le_refl _) _
  have hs2 : w2.heap.size = w.heap.size + 1 := by rw [← hw2, set_size, hs1]
  rw [hw2] at hst
  have hst3 : (w2.alloc (.cells #[.slice none 0 0] 22)).heap.size = w.heap.size + 2 := by simp [hs2]
  have B3 : Below w.heap.size w (w2.alloc (.cells #[.slice none 0 0] 22)) := B2.trans (((IsGr.refl w2).alloc _).below.mono B2.size)
  have cb3 := cellk cb2 ((IsGr.refl w2).alloc (.cells #[.slice none 0 0] 22))
  have cf3 := cell_new w2 (.slice none 0 0) 22
  rw [hs2] at cf3
  have hR3 : Rd (w2.alloc (.cells #[.slice none 0 0] 22)) v l := h.below B3
  clear e1 cb CW hO hw2 cb1 fb1 B1 hs1 h hz
  gi_wp2
  refine ⟨trivial, ?_⟩
  refine (callsIn_wide.2 (CS _ hR3)).mono ?_
  rintro e w4 ⟨v4, rfl, hl4, hb4⟩
  rw [hst3] at hl4 hb4
  obtain ⟨a4, c4, rfl, hf4⟩ := hl4.form
  obtain ⟨n, hn'⟩ : ∃ n, L.length = n := ⟨_, rfl⟩
  have hcap : L.length ≤ c4 := hl4.cap
  rw [hn'] at hl4 hf4 hcap hLn ⊢
  have hw4 : w.heap.size + 2 ≤ w4.heap.size := by have := hb4.size; rw [hst3] at this; exact this
  obtain ⟨g, hg0, hgc, hgw, hgf⟩ : ∃ g, (0 < n → a4 = some ⟨g, 0, none⟩) ∧ (∀ i, i < n → w4.cell? ⟨g, 0 + i, none⟩ = some (.int .i64 (L.getD i 0))) ∧ g < w4.heap.size ∧ g ≠ w.heap.size + 1 := by
    rcases hf4 with h0 | ⟨g, rfl, q1, q2, q3⟩
    · have : n = 0 := by rw [← hn', h0]; rfl
      exact ⟨w.heap.size, fun h => by omega, fun i h => by omega, by omega, by omega⟩
    · exact ⟨g, fun _ => rfl, fun i hi => by rw [Nat.zero_add]; exact q3 i hi, q2, by omega⟩
  have cb4 := (hb4.cell (p := ⟨w.heap.size, 0, none⟩) (by simp)).trans cb3
  have cf4 := (hb4.cell (p := ⟨w.heap.size + 1, 0, none⟩) (by simp)).trans cf3.1
  have ff4 := (hb4.frozen (p := ⟨w.heap.size + 1, 0, none⟩) (by simp)).trans cf3.2
  have B4 : Below w.heap.size w w4 := B3.trans (hb4.mono (by omega))
  clear hf4 hl4 hb4 cf3 cb3 B3 hR3 hst3 hst cb2 B2 CS
  gi_wp2
  refine ⟨trivial, ?_⟩
  refine (callsIn_wide.2 (pieces_any _ _ _ _ _ _)).mono ?_
  rintro e w5 ⟨rfl, e5⟩
  have hg45 : IsGr w4 w5 := e5 ▸ ((IsGr.refl w4).alloc _).alloc _
  have hs5 : w5.heap.size = w4.heap.size + 2 := by rw [e5]; simp
  have cl := cell_new w4 (.slice a4 n c4) 22
  have cs := cell_new (w4.alloc (.cells #[.slice a4 n c4] 22)) (.func (.func 30) #[] #[.pointer (some ⟨w.heap.size, 0, none⟩)]) 34
  simp only [World.size_alloc] at cs
  have hP5 : OnP f a4 g n c4 w4.heap.size w.heap.size L w5 :=
    ⟨by rw [e5]; exact cell_past _ cl.1, by rw [e5]; exact cs.1, fun i hi => cellk (hgc i hi) hg45, cellk cb4 hg45⟩
  have hI0 : OnI w w5.heap.size (w.heap.size + 1) L [] w5 := ⟨_, cellk cf4 hg45, frzk cf4 ff4 hg45, Lst.nil _ _, B4.trans (hg45.below.mono B4.size), Nat.le_refl _⟩
  have hSF : SameF1 k 30 w.heap.size (fun W => W.cell? ⟨w.heap.size, 0, none⟩ = some (.func (.func f) #[] #[])) := ⟨enters_of Try.func30 (by kernel_rfl) rfl, fun a b W ha hb hB => once1_any HO.out a b _ W ha hb hB⟩
  have hZl : ∀ b ∈ [w.heap.size, w4.heap.size, w4.heap.size + 1, g], b < w5.heap.size := fun b hb => by
    simp at hb
    omega
  have hZf : w.heap.size + 1 ∉ [w.heap.size, w4.heap.size, w4.heap.size + 1, g] := fun hb => by
    simp at hb
    omega
  have hbf : w.heap.size + 1 < w5.heap.size := by omega
  have hL9 : Hid (L.length = n ∧ n ≤ 400) := ⟨hn', hLn⟩
  clear e5 cl cs cf4 ff4 cb4 hgc
  gi_wp2
  refine wpIn_range_turns rfl rfl (by omega) (gf := 33) (lb := #[.pointer (some ⟨w4.heap.size, 0, none⟩), .pointer (some ⟨w4.heap.size + 1, 0, none⟩)]) rfl trivial (enters_of Try.func33 (by kernel_rfl) rfl)
    (R := IsGr) (Kp := KpZ [w.heap.size, w4.heap.size, w4.heap.size + 1, g]) (T := fun pre x => Chn k L 0 pre x.1 ∧ PcAt k L x.1 x.2) (S := fun xs _ => Chn k L 0 xs n) (Sp := fun xs _ => ∃ b, Chn k L 0 xs b)
    (fun o1 o2 => pieces_in1 hSF a4 g 0 n c4 w4.heap.size (w4.heap.size + 1) _ L _ _ (hP5.gr (((IsGr.refl w5).alloc o1).alloc o2)) (fun _ _ h => OnP.gr h) (fun _ _ h => OnP.kp h) hg0 hn' hcap hLi (by omega))
    (kept2_gr _) (fun h1 h2 => h1.trans h2) (fun W l o hl => KpZ.putObj hZl W l o hl) (fun _ => rfl)
    (fun pre W => OnI w w5.heap.size (w.heap.size + 1) L pre W ∧ OnP f a4 g n c4 w4.heap.size w.heap.size L W) (fun _ _ _ => False) (OwnFrom.and (OnI.own (by have := B4.size; omega)) (OnP.own _)) (fun c s A B row hs hg hr => hs) (fun s A B row hs hg hr => hs) (fun s A B row hs hg hr => hs)
    (fun s A B hs hr => ⟨hs.1.gr hr, hs.2.gr hr⟩) (fun c s A B hs hr => hs) ⟨hI0, hP5⟩
    ?a1 ?assign ?body ?done ?stop
  case assign =>
    intro lq x W K hK
    gi_wp2
    exact hK
  case stop => exact fun D c xs W _ _ h => h.elim
  case body =>
    rintro lq pre ⟨xa, xm⟩ W ⟨⟨v1, c1, f1, hl1, hB1, hs1⟩, hP⟩ ⟨hch, hpa⟩ hWs
    simp only at hch hpa
    have hxn : xa < n := by have := hpa.1; have := hpa.2.1; have := hL9.out; omega
    have cx := hP.cells xa hxn
    rw [Nat.zero_add] at cx
    obtain ⟨X, hX⟩ : ∃ X, pre.map (fun x => L.getD x.1 0) = X := ⟨_, rfl⟩
    rw [hX] at hl1
    have hXl : X.length ≤ 2000 := by
      rw [← hX, List.length_map]
      have := hch.len
      have := hL9.out
      omega
    have FIN := fun W' w2 v2 hg h2 hg2 => on_step (W' := W') (w2 := w2) (v2 := v2) (x := (xa, xm)) c1 f1 hl1 hX hB1 hs1 hP hZl hbf hZf (by omega) hg h2 hg2
    simp only at FIN
    have HF : Hid _ := FIN
    clear FIN
    obtain ⟨y, hy⟩ : ∃ y, L.getD xa 0 = y := ⟨_, rfl⟩
    have HY : Hid (L.getD xa 0 = y) := hy
    rw [hy] at cx
    obtain ⟨a1, k1, rfl, -⟩ := hl1.form
    have hpc : pcV g 0 c4 (xa, xm) = .slice (some ⟨g, xa, none⟩) xm (c4 - xa) := by simp [pcV]
    have hm0 : 0 < xm := hpa.1
    have hm1 : (0 : Int) < xm := by omega
    rw [hpc]
    clear hpc hpa hch hP hX hB1 hWs hP5 hI0 hSF hy
    have hq1 := fun o => cellk c1 (((IsGr.refl W).drew).alloc o)
    have hq2 := fun o => cellk c1 (((IsGr.refl W).alloc o).drew)
    gi_upto_region 6 with fail
    refine wpIn_region_held (S := (fun _ => True)) (by kernel_rfl) (by kernel_rfl) (fun ⟨_, _, h⟩ => h) (by (try dsimp only); all_goals trivial) (fun hHeld => ?_)
    refine wpAnyH_take (i := 1) (oi := { dst := some 18, op := Op.move (Operand.tmp 7), type := 22, pos := "merge.go:87", after := #[], guard := none }) (v := ?_) rfl (by kernel_rfl) (by kernel_rfl) (by kernel_rfl) (fun _ _ _ h => h) (Or.inl ⟨by rfl, ?_⟩) (by assumption) ?_
    rotate_left
    · (intro w hSw; (try dsimp only at hSw); go_simp <;> with_reducible rfl)
    (try simp only [Act.put, List.setIfInBounds_toArray, List.set_cons_zero, List.set_cons_succ])
    refine wpAnyH_take (i := 2) (oi := { dst := some 19, op := Op.indexAddr 22 (Operand.tmp 18) (Operand.const (Value.int IntKind.i64 0)), type := 0, pos := "merge.go:87", after := #[{ on := 1, ground := Ground.data }], guard := none }) (v := ?_) rfl (by kernel_rfl) (by kernel_rfl) (by kernel_rfl) (fun _ _ _ h => h) (Or.inl ⟨by rfl, ?_⟩) (by assumption) ?_
    rotate_left
    · (intro w hSw; (try dsimp only at hSw); go_simp <;> with_reducible rfl)
    (try simp only [Act.put, List.setIfInBounds_toArray, List.set_cons_zero, List.set_cons_succ])
    refine wpAnyH_ready (rs := [0, 3]) (by kernel_rfl) (by simp) ?_
    refine AllReadyH.cons (o := { dst := some 17, op := Op.load 22 (Operand.tmp 6), type := 22, pos := "merge.go:87", after := #[], guard := none }) rfl (fun K hK => ?_) ?_
    · go_simp
      refine hK.out _ _ (by (try dsimp only); all_goals trivial) (fun hHeld2 => ?_)
      clear hK K hHeld
      have hHeld := hHeld2
      clear hHeld2
      (try simp only [Act.put, List.setIfInBounds_toArray, List.set_cons_zero, List.set_cons_succ])
      refine wpAnyH_ready (rs := [3]) (by kernel_rfl) (by simp) ?_
      refine AllReadyH.cons (o := { dst := some 20, op := Op.load 3 (Operand.tmp 19), type := 3, pos := "merge.go:87", after := #[{ on := 2, ground := Ground.data }], guard := none }) rfl (fun K hK => ?_) ?_
      · go_simp
        refine hK.out _ _ (by (try dsimp only); all_goals trivial) (fun hHeld2 => ?_)
        clear hK K hHeld
        have hHeld := hHeld2
        clear hHeld2
        (try simp only [Act.put, List.setIfInBounds_toArray, List.set_cons_zero, List.set_cons_succ])
        refine wpAnyH_ready (rs := [4]) (by kernel_rfl) (by simp) ?_
        refine AllReadyH.cons (o := { dst := some 21, op := Op.buildSlice 22 1 #[(0, Operand.tmp 20)], type := 22, pos := "merge.go:87", after := #[{ on := 3, ground := Ground.data }], guard := none }) rfl (fun K hK => ?_) ?_
        · go_simp
          refine hK.out _ _ (by (try dsimp only); all_goals trivial) (fun hHeld2 => ?_)
          clear hK K hHeld
          have hHeld := hHeld2
          clear hHeld2
          (try simp only [Act.put, List.setIfInBounds_toArray, List.set_cons_zero, List.set_cons_succ])
          refine wpAnyH_ready (rs := [5]) (by kernel_rfl) (by simp) ?_
          refine AllReadyH.cons (o := { dst := some 22, op := Op.call { callee := Callee.builtin Builtin.append, args := #[Operand.tmp 17, Operand.tmp 21], argTypes := #[22, 22] }, type := 22, pos := "merge.go:87", after := #[{ on := 0, ground := Ground.data }, { on := 4, ground := Ground.data }], guard := none }) rfl (fun K hK => ?_) ?_
          · refine step_append1 rfl _ _ rfl w5.heap.size (.slice a1 X.length k1) X y _ _ rfl rfl (hl1.gr (by with_reducible repeat (first | exact IsGr.refl _ | refine IsGr.gr ?_ _ _ | refine IsGr.alloc ?_ _ | refine IsGr.drew ?_ | refine IsGr.drewN ?_ _))) (cell_new _ _ _).1 hXl (by simp; omega) ?_
            intro v2 w2 hl2 hg2
            obtain ⟨⟨cB2, fB2⟩, FF1⟩ := HF.out _ _ v2 (by with_reducible repeat (first | exact IsGr.refl _ | refine IsGr.gr ?_ _ _ | refine IsGr.alloc ?_ _ | refine IsGr.drew ?_ | refine IsGr.drewN ?_ _)) (HY.out.symm ▸ hl2) hg2
            have FF : Hid _ := FF1
            clear FF1
            obtain ⟨a2, k2, rfl, -⟩ := hl2.form
            obtain ⟨N2, hN2⟩ : ∃ N, (X ++ [y]).length = N := ⟨_, rfl⟩
            rw [hN2] at FF
            rw [hN2]
            clear hl2 hg2 hN2
            refine hK.out _ _ (by (try dsimp only); all_goals trivial) (fun hHeld2 => ?_)
            clear hK K hHeld
            have hHeld := hHeld2
            clear hHeld2
            (try simp only [Act.put, List.setIfInBounds_toArray, List.set_cons_zero, List.set_cons_succ])
            refine wpAnyH_ready (rs := [6]) (by kernel_rfl) (by simp) ?_
            refine AllReadyH.cons (o := { dst := none, op := Op.store 22 (Operand.tmp 6) (Operand.tmp 22), type := 0, pos := "merge.go:87", after := #[{ on := 5, ground := Ground.data }, { on := 5, ground := Ground.chain }, { on := 0, ground := Ground.phase }, { on := 1, ground := Ground.phase }, { on := 2, ground := Ground.phase }, { on := 3, ground := Ground.phase }, { on := 4, ground := Ground.phase }, { on := 5, ground := Ground.phase }], guard := none }) rfl (fun K hK => ?_) ?_
            · go_simp
              refine hK.out _ _ (by (try dsimp only); all_goals trivial) (fun hHeld2 => ?_)
              clear hK K hHeld
              have hHeld := hHeld2
              clear hHeld2
              (try simp only [Act.put, List.setIfInBounds_toArray, List.set_cons_zero, List.set_cons_succ])
              refine wpAnyH_done (by kernel_rfl) ?_ _
              exact FF.out
            exact AllReadyH.nil
          exact AllReadyH.nil
        exact AllReadyH.nil
      exact AllReadyH.nil
    refine AllReadyH.cons (o := { dst := some 20, op := Op.load 3 (Operand.tmp 19), type := 3, pos := "merge.go:87", after := #[{ on := 2, ground := Ground.data }], guard := none }) rfl (fun K hK => ?_) ?_
    · go_simp
      refine hK.out _ _ (by (try dsimp only); all_goals trivial) (fun hHeld2 => ?_)
      clear hK K hHeld
      have hHeld := hHeld2
      clear hHeld2
      (try simp only [Act.put, List.setIfInBounds_toArray, List.set_cons_zero, List.set_cons_succ])
      refine wpAnyH_ready (rs := [0, 4]) (by kernel_rfl) (by simp) ?_
      refine AllReadyH.cons (o := { dst := some 17, op := Op.load 22 (Operand.tmp 6), type := 22, pos := "merge.go:87", after := #[], guard := none }) rfl (fun K hK => ?_) ?_
      · go_simp
        refine hK.out _ _ (by (try dsimp only); all_goals trivial) (fun hHeld2 => ?_)
        clear hK K hHeld
        have hHeld := hHeld2
        clear hHeld2
        (try simp only [Act.put, List.setIfInBounds_toArray, List.set_cons_zero, List.set_cons_succ])
        refine wpAnyH_ready (rs := [4]) (by kernel_rfl) (by simp) ?_
        refine AllReadyH.cons (o := { dst := some 21, op := Op.buildSlice 22 1 #[(0, Operand.tmp 20)], type := 22, pos := "merge.go:87", after := #[{ on := 3, ground := Ground.data }], guard := none }) rfl (fun K hK => ?_) ?_
        · go_simp
          refine hK.out _ _ (by (try dsimp only); all_goals trivial) (fun hHeld2 => ?_)
          clear hK K hHeld
          have hHeld := hHeld2
          clear hHeld2
          (try simp only [Act.put, List.setIfInBounds_toArray, List.set_cons_zero, List.set_cons_succ])
          refine wpAnyH_ready (rs := [5]) (by kernel_rfl) (by simp) ?_
          refine AllReadyH.cons (o := { dst := some 22, op := Op.call { callee := Callee.builtin Builtin.append, args := #[Operand.tmp 17, Operand.tmp 21], argTypes := #[22, 22] }, type := 22, pos := "merge.go:87", after := #[{ on := 0, ground := Ground.data }, { on := 4, ground := Ground.data }], guard := none }) rfl (fun K hK => ?_) ?_
          · refine step_append1 rfl _ _ rfl w5.heap.size (.slice a1 X.length k1) X y _ _ rfl rfl (hl1.gr (by with_reducible repeat (first | exact IsGr.refl _ | refine IsGr.gr ?_ _ _ | refine IsGr.alloc ?_ _ | refine IsGr.drew ?_ | refine IsGr.drewN ?_ _))) (cell_new _ _ _).1 hXl (by simp; omega) ?_
            intro v2 w2 hl2 hg2
            obtain ⟨⟨cB2, fB2⟩, FF1⟩ := HF.out _ _ v2 (by with_reducible repeat (first | exact IsGr.refl _ | refine IsGr.gr ?_ _ _ | refine IsGr.alloc ?_ _ | refine IsGr.drew ?_ | refine IsGr.drewN ?_ _)) (HY.out.symm ▸ hl2) hg2
            have FF : Hid _ := FF1
            clear FF1
            obtain ⟨a2, k2, rfl, -⟩ := hl2.form
            obtain ⟨N2, hN2⟩ : ∃ N, (X ++ [y]).length = N := ⟨_, rfl⟩
            rw [hN2] at FF
            rw [hN2]
            clear hl2 hg2 hN2
            refine hK.out _ _ (by (try dsimp only); all_goals trivial) (fun hHeld2 => ?_)
            clear hK K hHeld
            have hHeld := hHeld2
            clear hHeld2
            (try simp only [Act.put, List.setIfInBounds_toArray, List.set_cons_zero, List.set_cons_succ])
            refine wpAnyH_ready (rs := [6]) (by kernel_rfl) (by simp) ?_
            refine AllReadyH.cons (o := { dst := none, op := Op.store 22 (Operand.tmp 6) (Operand.tmp 22), type := 0, pos := "merge.go:87", after := #[{ on := 5, ground := Ground.data }, { on := 5, ground := Ground.chain }, { on := 0, ground := Ground.phase }, { on := 1, ground := Ground.phase }, { on := 2, ground := Ground.phase }, { on := 3, ground := Ground.phase }, { on := 4, ground := Ground.phase }, { on := 5, ground := Ground.phase }], guard := none }) rfl (fun K hK => ?_) ?_
            · go_simp
              refine hK.out _ _ (by (try dsimp only); all_goals trivial) (fun hHeld2 => ?_)
              clear hK K hHeld
              have hHeld := hHeld2
              clear hHeld2
              (try simp only [Act.put, List.setIfInBounds_toArray, List.set_cons_zero, List.set_cons_succ])
              refine wpAnyH_done (by kernel_rfl) ?_ _
              exact FF.out
            exact AllReadyH.nil
          exact AllReadyH.nil
        exact AllReadyH.nil
      refine AllReadyH.cons (o := { dst := some 21, op := Op.buildSlice 22 1 #[(0, Operand.tmp 20)], type := 22, pos := "merge.go:87", after := #[{ on := 3, ground := Ground.data }], guard := none }) rfl (fun K hK => ?_) ?_
      · go_simp
        refine hK.out _ _ (by (try dsimp only); all_goals trivial) (fun hHeld2 => ?_)
        clear hK K hHeld
        have hHeld := hHeld2
        clear hHeld2
        (try simp only [Act.put, List.setIfInBounds_toArray, List.set_cons_zero, List.set_cons_succ])
        refine wpAnyH_ready (rs := [0]) (by kernel_rfl) (by simp) ?_
        refine AllReadyH.cons (o := { dst := some 17, op := Op.load 22 (Operand.tmp 6), type := 22, pos := "merge.go:87", after := #[], guard := none }) rfl (fun K hK => ?_) ?_
        · go_simp
          refine hK.out _ _ (by (try dsimp only); all_goals trivial) (fun hHeld2 => ?_)
          clear hK K hHeld
          have hHeld := hHeld2
          clear hHeld2
          (try simp only [Act.put, List.setIfInBounds_toArray, List.set_cons_zero, List.set_cons_succ])
          refine wpAnyH_ready (rs := [5]) (by kernel_rfl) (by simp) ?_
          refine AllReadyH.cons (o := { dst := some 22, op := Op.call { callee := Callee.builtin Builtin.append, args := #[Operand.tmp 17, Operand.tmp 21], argTypes := #[22, 22] }, type := 22, pos := "merge.go:87", after := #[{ on := 0, ground := Ground.data }, { on := 4, ground := Ground.data }], guard := none }) rfl (fun K hK => ?_) ?_
          · refine step_append1 rfl _ _ rfl w5.heap.size (.slice a1 X.length k1) X y _ _ rfl rfl (hl1.gr (by with_reducible repeat (first | exact IsGr.refl _ | refine IsGr.gr ?_ _ _ | refine IsGr.alloc ?_ _ | refine IsGr.drew ?_ | refine IsGr.drewN ?_ _))) (cell_new _ _ _).1 hXl (by simp; omega) ?_
            intro v2 w2 hl2 hg2
            obtain ⟨⟨cB2, fB2⟩, FF1⟩ := HF.out _ _ v2 (by with_reducible repeat (first | exact IsGr.refl _ | refine IsGr.gr ?_ _ _ | refine IsGr.alloc ?_ _ | refine IsGr.drew ?_ | refine IsGr.drewN ?_ _)) (HY.out.symm ▸ hl2) hg2
            have FF : Hid _ := FF1
            clear FF1
            obtain ⟨a2, k2, rfl, -⟩ := hl2.form
            obtain ⟨N2, hN2⟩ : ∃ N, (X ++ [y]).length = N := ⟨_, rfl⟩
            rw [hN2] at FF
            rw [hN2]
            clear hl2 hg2 hN2
            refine hK.out _ _ (by (try dsimp only); all_goals trivial) (fun hHeld2 => ?_)
            clear hK K hHeld
            have hHeld := hHeld2
            clear hHeld2
            (try simp only [Act.put, List.setIfInBounds_toArray, List.set_cons_zero, List.set_cons_succ])
            refine wpAnyH_ready (rs := [6]) (by kernel_rfl) (by simp) ?_
            refine AllReadyH.cons (o := { dst := none, op := Op.store 22 (Operand.tmp 6) (Operand.tmp 22), type := 0, pos := "merge.go:87", after := #[{ on := 5, ground := Ground.data }, { on := 5, ground := Ground.chain }, { on := 0, ground := Ground.phase }, { on := 1, ground := Ground.phase }, { on := 2, ground := Ground.phase }, { on := 3, ground := Ground.phase }, { on := 4, ground := Ground.phase }, { on := 5, ground := Ground.phase }], guard := none }) rfl (fun K hK => ?_) ?_
            · go_simp
              refine hK.out _ _ (by (try dsimp only); all_goals trivial) (fun hHeld2 => ?_)
              clear hK K hHeld
              have hHeld := hHeld2
              clear hHeld2
              (try simp only [Act.put, List.setIfInBounds_toArray, List.set_cons_zero, List.set_cons_succ])
              refine wpAnyH_done (by kernel_rfl) ?_ _
              exact FF.out
            exact AllReadyH.nil
          exact AllReadyH.nil
        exact AllReadyH.nil
      exact AllReadyH.nil
    exact AllReadyH.nil

  case done =>
    rintro D xs W hD hS ⟨⟨v1, c1, f1, hl1, hB1, hs1⟩, hP⟩ hK
    have hon : xs.map (fun x => L.getD x.1 0) = onc k none L := by
      have := onc_chn (k := k) (L := L) (xs := xs) (a := 0) (p := none) (by rw [hL9.out.1]; exact hS) (Nat.zero_le _) (fun _ e => by cases e)
      rw [this, List.drop_zero]
    rw [hon] at hl1
    have HR : Hid (Lst W w.heap.size v1 (onc k none L) ∧ Below w.heap.size w W) := ⟨hl1.mono (by have := B4.size; omega), hB1⟩
    have hwD : w.heap.size ≤ D := by have := B4.size; omega
    clear hS hP hl1 hB1 hon hP5 hI0 hSF f1
    gi_wp2
    refine ⟨by simp, .inl ⟨_, _, rfl, run_takeDeferred hK, ?_⟩⟩
    refine ⟨v1, ?_, v1, rfl, HR.out.1.grown (grownBy_putObj' W D (.deferred none)) (fun r e => by cases e; exact ⟨_, hK, rfl⟩), HR.out.2.trans (belowK_b (w := w) (Nat.le_refl _) _ D _ _ hwD hK rfl rfl)⟩
    simp [results, Try.f18, go_sem]
end Go.Proofs.Ytblnpabgakmghaa
