/- Contracts of package merge over the loaded program: whole, join. -/
import Derived.Test.YtblnpabgakmghaaN3
import Derived.Test.YtblnpabgakmghaaH1b
import Derived.Deep.RegionLaw
import Derived.Lib.JoinLaws
namespace Go.Proofs.Ytblnpabgakmghaa
open Go.RowKit Go.Shelf
attribute [local go_sem] Gr.size Gr.cell? Gr.frozen? Gr.setCell Gr.drew Gr.drewN Gr.of_drew Gr.of_drewN Gr.gr Gr.lt_of1 Gr.le_of1 Gr.lt_of2 Gr.le_of2 Gr.lt_of3 Gr.le_of3 Gr.lt_of4 Gr.le_of4 Gr.lt_of5 Gr.le_of5 Gr.lt_of6 Gr.le_of6 Gr.lt_of7 Gr.le_of7 Gr.lt_of8 Gr.le_of8 Gr.lt_of9 Gr.le_of9 Gr.lt_of10 Gr.le_of10 Gr.lt_of11 Gr.le_of11 Gr.lt_of12 Gr.le_of12 Gr.lt_of13 Gr.le_of13 Gr.lt_of14 Gr.le_of14 Gr.lt_of15 Gr.le_of15 Gr.lt_of16 Gr.le_of16 Gr.lt_of17 Gr.le_of17 Gr.lt_of18 Gr.le_of18 Gr.lt_of19 Gr.le_of19 Gr.lt_of20 Gr.le_of20 Gr.lt_of21 Gr.le_of21 Gr.lt_of22 Gr.le_of22 Gr.lt_of23 Gr.le_of23 Gr.lt_of24 Gr.le_of24
set_option maxRecDepth 20000 in set_option maxHeartbeats 2000000 in
theorem whole_any {f : Nat} (w : World) : Calls Try.prog 23 #[.func (.func f) #[] #[]] w fun e w' => e = .returned (.func (.func f) #[] #[]) ∧ w' = w := by
  have hn := fun w => nilf f w
  go_enter Try.func23, Try.ntmps23
  go_wp2_with fail
  go_ret
  exact ⟨rfl, rfl⟩
theorem spare1 {w w' : World} {g o n : Nat} {cur : Array Value} (v : Value) (h : Blk w g cur) (hg : IsGr w w') (hlt : o + n < cur.size) :
    ∀ j, j < [v].length → (w'.cell? ⟨g, o + n * 1 + j, none⟩).isSome = true ∧ w'.frozen? ⟨g, o + n * 1 + j, none⟩ = false := fun j hj => by
  have h1 := h.gr hg
  obtain rfl : j = 0 := by simp only [List.length_cons, List.length_nil] at hj; omega
  rw [h1.cell, h1.frozen]
  simp only [Nat.mul_one, Nat.add_zero]
  exact ⟨by simp [hlt], trivial⟩
/-- The cells that join may turn. -/
def Dj (g o n : Nat) : Nat → Nat → Prop := fun k i => k = g ∧ o ≤ i ∧ i < o + n
/-- On the way: P is laid, A and B are to come. -/
structure JnR (k : Int → Int) (w : World) (g o n : Nat) (L : List Int) (P A B : List Int) (va vb : Value) (wr : World) : Prop where
  eq : P ++ mrg k A B = L
  len : P.length + (A.length + B.length) = n
  ra : Rd wr va A
  rb : Rd wr vb B
  na : ∀ b, va.ownBlock = some b → b ≠ g
  nb : ∀ b, vb.ownBlock = some b → b ≠ g
  blk : ∃ cur, Blk wr g cur ∧ o + n ≤ cur.size
  seg : Seg wr g o P
  wq : Wq (Dj g o n) w wr
theorem JnR.laid {k : Int → Int} {w wr W : World} {g o n : Nat} {L P A B A2 B2 : List Int} {va vb va2 vb2 : Value} {z : Int} (h : JnR k w g o n L P A B va vb wr) (hg : IsGr wr W) (hz : P ++ [z] ++ mrg k A2 B2 = L) (hl : A2.length + B2.length + 1 = A.length + B.length)
    (r1 : Rd wr va2 A2) (r2 : Rd wr vb2 B2) (o1 : va2.ownBlock = va.ownBlock) (o2 : vb2.ownBlock = vb.ownBlock) : JnR k w g o n L (P ++ [z]) A2 B2 va2 vb2 (W.setCells g (o + P.length) [.int .i64 z]) := by
  obtain ⟨cur, hb, hc⟩ := h.blk
  have hlen := h.len
  have hbW := hb.gr hg
  obtain ⟨q1, q2⟩ := hbW.put (o + P.length) [z] (by simp; omega)
  have q1' : Wq (Dj g o n) wr (W.setCells g (o + P.length) [.int .i64 z]) := (Wq.of_gr _ hg).trans (q1.mono (fun k i _ ⟨e1, e2⟩ => ⟨e1, by simp at e2; omega⟩))
  have hw : Wr [g] wr (W.setCells g (o + P.length) [.int .i64 z]) := q1'.wr (fun k i _ e => by simp [e.1])
  refine ⟨hz, by simp; omega, r1.wr hw (fun b e hm => ?_), r2.wr hw (fun b e hm => ?_), fun b e => h.na b (o1 ▸ e), fun b e => h.nb b (o2 ▸ e), ?_, ?_, h.wq.trans q1'⟩
  · exact h.na b (o1 ▸ e) (by simpa using hm)
  · exact h.nb b (o2 ▸ e) (by simpa using hm)
  · obtain ⟨c', k1, k2, _⟩ := q1.cells g cur hbW
    exact ⟨c', k1, by omega⟩
  · exact ((h.seg.gr hg).wq q1 (fun i hi e => by have := e.2; omega)).append q2
theorem JnR.left {k : Int → Int} {w wr W : World} {g o n ga oa oa' na cA : Nat} {L P A B : List Int} {vb : Value} {x y : Int} (h : JnR k w g o n L P (x :: A) (y :: B) (.slice (some ⟨ga, oa, none⟩) na cA) vb wr) (hg : IsGr wr W) (hk : ¬ k y < k x) (ho : cA = 1 ∧ oa' = oa ∨ oa' = oa + 1) :
    JnR k w g o n L (P ++ [x]) A (y :: B) (.slice (some ⟨ga, oa', none⟩) (na - 1) (cA - 1)) vb (W.setCells g (o + P.length) [.int .i64 x]) :=
  h.laid hg (by rw [← h.eq, mrg, if_neg hk]; simp) (by simp; omega) (rd_tail h.ra ho) h.rb rfl rfl
theorem JnR.right {k : Int → Int} {w wr W : World} {g o n gb ob ob' nb cB : Nat} {L P A B : List Int} {va : Value} {x y : Int} (h : JnR k w g o n L P (x :: A) (y :: B) va (.slice (some ⟨gb, ob, none⟩) nb cB) wr) (hg : IsGr wr W) (hk : k y < k x) (ho : cB = 1 ∧ ob' = ob ∨ ob' = ob + 1) :
    JnR k w g o n L (P ++ [y]) (x :: A) B va (.slice (some ⟨gb, ob', none⟩) (nb - 1) (cB - 1)) (W.setCells g (o + P.length) [.int .i64 y]) :=
  h.laid hg (by rw [← h.eq, mrg, if_pos hk]; simp) (by simp; omega) h.ra (rd_tail h.rb ho) rfl rfl
theorem Rd.src {w : World} {v : Value} {l : List Int} (h : Rd w v l) : Src Try.prog 1 22 v l.length (l.map fun x => .int .i64 x) w := by
  obtain ⟨a, c, rfl, hc, h1, h2, h3⟩ := h
  rcases h3 with h3 | ⟨g, o, rfl, h4, h5⟩
  · obtain rfl := List.length_eq_zero_iff.1 h3
    cases a with
    | none => exact Src.ofNil _ Try.underlying22 c
    | some a => exact Src.ofSlice _ Try.underlying22 a 0 c [] (by simp) (by simp) (by simp)
  · refine Src.ofSlice _ Try.underlying22 _ _ _ _ (by simp) (fun j u hu => ?_) (fun u hu => by simp at hu; obtain ⟨x, _, rfl⟩ := hu; rfl)
    rw [adr_add]
    have hj : j < l.length := by have := (List.getElem?_eq_some_iff.1 hu).1; simpa using this
    rw [h5 j hj]
    simp [hj] at hu
    simp [List.getD, hj, hu]
/-- Room for what is still to come. -/
theorem spare {w : World} {g o p : Nat} {cur : Array Value} {X : List Value} (h : Blk w g cur) (hlt : o + p + X.length ≤ cur.size) :
    (∀ j, j < X.length → (w.cell? ⟨g, o + p + j, none⟩).isSome = true) ∧ ∀ j, j < X.length → w.frozen? ⟨g, o + p + j, none⟩ = false :=
  ⟨fun j hj => by rw [h.cell]; simp; omega, fun j hj => h.frozen _⟩
theorem JnR.fst {k : Int → Int} {w wr : World} {g o n : Nat} {L P A B : List Int} {va vb : Value} (h : JnR k w g o n L P A B va vb wr) :
    (∃ cur, Blk (wr.setCells g (o + P.length) (A.map fun x => .int .i64 x)) g cur ∧ o + n ≤ cur.size) ∧ Seg (wr.setCells g (o + P.length) (A.map fun x => .int .i64 x)) g o (P ++ A) ∧ Rd (wr.setCells g (o + P.length) (A.map fun x => .int .i64 x)) vb B ∧ Wq (Dj g o n) w (wr.setCells g (o + P.length) (A.map fun x => .int .i64 x)) := by
  obtain ⟨cur, hb, hc⟩ := h.blk
  have hlen := h.len
  obtain ⟨q1, q2⟩ := hb.put (o + P.length) A (by omega)
  have q1' : Wq (Dj g o n) wr (wr.setCells g (o + P.length) (A.map fun x => .int .i64 x)) := q1.mono (fun k i _ ⟨e1, e2⟩ => ⟨e1, by omega⟩)
  obtain ⟨c', k1, k2, _⟩ := q1.cells g cur hb
  exact ⟨⟨c', k1, by omega⟩, (h.seg.wq q1 (fun i hi e => by have := e.2; omega)).append q2, h.rb.wr (q1'.wr (S := [g]) (fun k i _ e => by simp [e.1])) (fun b e hm => h.nb b e (by simpa using hm)), h.wq.trans q1'⟩
theorem jn_snd {w wr : World} {g o n p : Nat} {Q B : List Int} (hb : ∃ cur, Blk wr g cur ∧ o + n ≤ cur.size) (hs : Seg wr g o Q) (hw : Wq (Dj g o n) w wr) (hp : Q.length = p) (hn : p + B.length = n) :
    Seg (wr.setCells g (o + p) (B.map fun x => .int .i64 x)) g o (Q ++ B) ∧ Wq (Dj g o n) w (wr.setCells g (o + p) (B.map fun x => .int .i64 x)) := by
  obtain ⟨cur, hb, hc⟩ := hb
  obtain ⟨q1, q2⟩ := hb.put (o + p) B (by omega)
  subst hp
  exact ⟨(hs.wq q1 (fun i hi e => by have := e.2; omega)).append q2, hw.trans (q1.mono (fun k i _ ⟨e1, e2⟩ => ⟨e1, by omega⟩))⟩

set_option maxRecDepth 20000 in set_option maxHeartbeats 2000000 in
theorem join_any {f : Nat} {k : Int → Int} (hO : Ordr f k) (g o c n : Nat) (va vb : Value) (A B L : List Int) (w : World) (h : JnR k w g o n L [] A B va vb w) (hc : n ≤ c) (hn : n ≤ 1000) :
    Calls Try.prog 26 #[.slice (Option.some ⟨g, o, none⟩) 0 c, va, vb, .func (.func f) #[] #[]] w fun e w' => e = .returned (.slice (Option.some ⟨g, o, none⟩) n c) ∧ Seg w' g o L ∧ Wq (Dj g o n) w w' := by
  obtain ⟨i0, hi, hz0, hz1, hz2⟩ := info_parts info_int
  have H0 : Hid (JnR k w g o n L [] A B va vb w) := h
  obtain ⟨a0, c0, ea⟩ := h.ra.form
  obtain ⟨b0, d0, eb⟩ := h.rb.form
  have hE : ∀ args w, (callFunc f args).run Try.prog w = .ok (.enter f args) w := hO.1
  have HO : Hid (Ordr f k) := hO
  clear h hO
  subst ea eb
  go_enter Try.func26, Try.ntmps26
  go_wp2_with fail
  go_loopg [0, 1, 2] n (fun r p0 p1 p2 wr => ∃ P A B, p0 = .slice (Option.some ⟨g, o, none⟩) P.length c ∧ r = A.length + B.length ∧ Hid (JnR k w g o n L P A B p1 p2 wr))
  case atStart => exact ⟨[], A, B, rfl, by have := H0.out.len; simp at this; omega, H0⟩
  case round =>
    clear H0
    obtain ⟨P, A', B', rfl, hr, H⟩ := hrel
    obtain ⟨a1, cA, ea⟩ := H.out.ra.form
    obtain ⟨b1, cB, eb⟩ := H.out.rb.form
    subst ea eb
    have hlen := H.out.len
    have hPn : P.length ≤ 1000 := by omega
    obtain ⟨p, hp⟩ : ∃ p, P.length = p := ⟨_, rfl⟩
    have HP : Hid (P.length = p) := hp
    rw [hp]
    rw [hp] at hlen hPn
    clear hp
    rcases A' with _ | ⟨x, A'⟩
    · obtain ⟨nb, hnb⟩ : ∃ m, B'.length = m := ⟨_, rfl⟩
      rw [hnb]
      simp only [List.length_nil] at *
      have HQ : Hid (JnR k w g o n L P [] B' (.slice a1 0 cA) (.slice b1 nb cB) wr) := (show JnR k w g o n L P [] B' (.slice a1 0 cA) (.slice b1 nb cB) wr from by have := H.out; simpa [hnb] using this)
      have HM : Hid (mrg k [] B' = [] ++ B') := by show _ = _; simp [mrg]
      have HL : Hid (([] : List Int).length = 0 ∧ B'.length = nb) := ⟨rfl, hnb⟩
      obtain ⟨f1, f2, f3, f4⟩ := HQ.out.fst
      rw [HP.out] at f1 f2 f3 f4
      have s1 := HQ.out.ra.src
      have s2 := f3.src
      rw [HL.out.1] at s1
      rw [HL.out.2] at s2
      have e9 : p + (0 + nb) = n := by have := HQ.out.len; rw [HP.out, HL.out.1, HL.out.2] at this; exact this
      obtain ⟨p1, p2⟩ : (∀ j, j < ([].map fun x => Value.int .i64 x).length → (wr.cell? ⟨g, o + p + j, none⟩).isSome = true) ∧ ∀ j, j < ([].map fun x => Value.int .i64 x).length → wr.frozen? ⟨g, o + p + j, none⟩ = false := by
        obtain ⟨cur, hb, hcur⟩ := HQ.out.blk
        exact spare hb (by rw [List.length_map, HL.out.1]; omega)
      obtain ⟨p3, p4⟩ : (∀ j, j < (B'.map fun x => Value.int .i64 x).length → ((wr.setCells g (o + p) ([].map fun x => .int .i64 x)).cell? ⟨g, o + (p + 0) + j, none⟩).isSome = true) ∧ ∀ j, j < (B'.map fun x => Value.int .i64 x).length → (wr.setCells g (o + p) ([].map fun x => .int .i64 x)).frozen? ⟨g, o + (p + 0) + j, none⟩ = false := by
        obtain ⟨cur, hb, hcur⟩ := f1
        exact spare hb (by rw [List.length_map, HL.out.2]; omega)
      have F := jn_snd (B := B') f1 f2 f4 (p := p + 0) (by rw [List.length_append, HP.out, HL.out.1]) (by rw [HL.out.2]; omega)
      have HF : Hid (Seg ((wr.setCells g (o + p) ([].map fun x => .int .i64 x)).setCells g (o + (p + 0)) (B'.map fun x => .int .i64 x)) g o L ∧ Wq (Dj g o n) w ((wr.setCells g (o + p) ([].map fun x => .int .i64 x)).setCells g (o + (p + 0)) (B'.map fun x => .int .i64 x))) := by
        have := H.out.eq
        rw [HM.out, ← List.append_assoc] at this
        rw [← this]
        exact F
      obtain ⟨XA, hXA⟩ : ∃ X, ([].map fun x => Value.int .i64 x) = X := ⟨_, rfl⟩
      obtain ⟨XB, hXB⟩ : ∃ X, (B'.map fun x => Value.int .i64 x) = X := ⟨_, rfl⟩
      rw [hXA] at s1 p1 p2 s2 p3 p4 HF
      rw [hXB] at s2 p3 p4 HF
      have r1 : p + 0 ≤ c := by omega
      have r2 : p + 0 + nb ≤ c := by omega
      clear hXA hXB F f1 f2 f3 f4
      go_wp2_with (first
        | (at_builtin; refine wpList_append_room1 _ rfl _ _ 22 22 rfl 3 (.int .i64 0) 8 Try.underlying22 info_int g o p c rfl (.slice a1 0 cA) rfl 0 XA s1 r1 p1 p2 ?_)
        | (at_builtin; refine wpList_append_room1 _ rfl _ _ 22 22 rfl 3 (.int .i64 0) 8 Try.underlying22 info_int g o (p + 0) c rfl (.slice b1 nb cB) rfl nb XB s2 r2 p3 p4 ?_))
      go_ret
      refine ⟨?_, HF.out.1, HF.out.2⟩
      rw [← e9]
      simp
    · rcases B' with _ | ⟨y, B'⟩
      · obtain ⟨na, hna⟩ : ∃ m, (x :: A').length = m := ⟨_, rfl⟩
        have hna0 : (0 : Int) < na := by simp only [List.length_cons] at hna; omega
        rw [hna]
        simp only [List.length_nil] at *
        have HQ : Hid (JnR k w g o n L P (x :: A') [] (.slice a1 na cA) (.slice b1 0 cB) wr) := (show JnR k w g o n L P (x :: A') [] (.slice a1 na cA) (.slice b1 0 cB) wr from by have := H.out; rw [← hna]; exact this)
        have HM : Hid (mrg k (x :: A') [] = (x :: A') ++ []) := by show _ = _; simp [mrg_nil_right]
        have HL : Hid ((x :: A').length = na ∧ ([] : List Int).length = 0) := ⟨hna, rfl⟩
        obtain ⟨f1, f2, f3, f4⟩ := HQ.out.fst
        rw [HP.out] at f1 f2 f3 f4
        have s1 := HQ.out.ra.src
        have s2 := f3.src
        rw [HL.out.1] at s1
        rw [HL.out.2] at s2
        have e9 : p + (na + 0) = n := by have := HQ.out.len; rw [HP.out, HL.out.1, HL.out.2] at this; exact this
        obtain ⟨p1, p2⟩ : (∀ j, j < ((x :: A').map fun x => Value.int .i64 x).length → (wr.cell? ⟨g, o + p + j, none⟩).isSome = true) ∧ ∀ j, j < ((x :: A').map fun x => Value.int .i64 x).length → wr.frozen? ⟨g, o + p + j, none⟩ = false := by
          obtain ⟨cur, hb, hcur⟩ := HQ.out.blk
          exact spare hb (by rw [List.length_map, HL.out.1]; omega)
        obtain ⟨p3, p4⟩ : (∀ j, j < ([].map fun x => Value.int .i64 x).length → ((wr.setCells g (o + p) ((x :: A').map fun x => .int .i64 x)).cell? ⟨g, o + (p + na) + j, none⟩).isSome = true) ∧ ∀ j, j < ([].map fun x => Value.int .i64 x).length → (wr.setCells g (o + p) ((x :: A').map fun x => .int .i64 x)).frozen? ⟨g, o + (p + na) + j, none⟩ = false := by
          obtain ⟨cur, hb, hcur⟩ := f1
          exact spare hb (by rw [List.length_map, HL.out.2]; omega)
        have F := jn_snd (B := []) f1 f2 f4 (p := p + na) (by rw [List.length_append, HP.out, HL.out.1]) (by rw [HL.out.2]; omega)
        have HF : Hid (Seg ((wr.setCells g (o + p) ((x :: A').map fun x => .int .i64 x)).setCells g (o + (p + na)) ([].map fun x => .int .i64 x)) g o L ∧ Wq (Dj g o n) w ((wr.setCells g (o + p) ((x :: A').map fun x => .int .i64 x)).setCells g (o + (p + na)) ([].map fun x => .int .i64 x))) := by
          have := H.out.eq
          rw [HM.out, ← List.append_assoc] at this
          rw [← this]
          exact F
        obtain ⟨XA, hXA⟩ : ∃ X, ((x :: A').map fun x => Value.int .i64 x) = X := ⟨_, rfl⟩
        obtain ⟨XB, hXB⟩ : ∃ X, ([].map fun x => Value.int .i64 x) = X := ⟨_, rfl⟩
        rw [hXA] at s1 p1 p2 s2 p3 p4 HF
        rw [hXB] at s2 p3 p4 HF
        have r1 : p + na ≤ c := by omega
        have r2 : p + na + 0 ≤ c := by omega
        clear hXA hXB F f1 f2 f3 f4
        go_wp2_with (first
          | (at_builtin; refine wpList_append_room1 _ rfl _ _ 22 22 rfl 3 (.int .i64 0) 8 Try.underlying22 info_int g o p c rfl (.slice a1 na cA) rfl na XA s1 r1 p1 p2 ?_)
          | (at_builtin; refine wpList_append_room1 _ rfl _ _ 22 22 rfl 3 (.int .i64 0) 8 Try.underlying22 info_int g o (p + na) c rfl (.slice b1 0 cB) rfl 0 XB s2 r2 p3 p4 ?_))
        go_ret
        refine ⟨?_, HF.out.1, HF.out.2⟩
        rw [← e9]
        simp
      · simp only [List.length_cons] at *
        obtain ⟨ga, oa, rfl, -, hca, hx64, -, ca⟩ := H.out.ra.at (k := 0) (by omega)
        obtain ⟨gb, ob, rfl, -, hcb, hy64, -, cb⟩ := H.out.rb.at (k := 0) (by omega)
        simp only [List.getD_cons_zero, Nat.add_zero] at ca cb hx64 hy64
        have CO := fun w => HO.out.2 x y w hx64 hy64
        obtain ⟨na, hna⟩ : ∃ m, A'.length + 1 = m := ⟨_, rfl⟩
        obtain ⟨nb, hnb⟩ : ∃ m, B'.length + 1 = m := ⟨_, rfl⟩
        have HN : Hid (A'.length + 1 = na ∧ B'.length + 1 = nb) := ⟨hna, hnb⟩
        rw [hna] at hca
        rw [hnb] at hcb
        have hlen' : p + (na + nb) = n := by omega
        have hr' : gk = na + nb := by omega
        rw [hna, hnb]
        have hna0 : 0 < na := by omega
        have hnb0 : 0 < nb := by omega
        clear hna hnb hlen hr
        have hna1 : (0 : Int) < na := by omega
        have hnb1 : (0 : Int) < nb := by omega
        have hroom : p + 1 ≤ c := by omega
        by_cases hk : k y < k x
        · go_upto_region 2 with fail
          obtain ⟨C, hin, hcl, hcells, hgr⟩ : ∃ C : World → Prop, (∀ w', IsGr wr w' → C w') ∧ (∀ u u', C u → IsGr u u' → C u') ∧ (∀ w', C w' → (w'.cell? ⟨ga, oa, none⟩ = some (.int .i64 x)) ∧ (w'.cell? ⟨gb, ob, none⟩ = some (.int .i64 y))) ∧ (∀ w', C w' → IsGr wr w') := ⟨fun w' => IsGr wr w', fun _ h => h, fun _ _ h k => h.trans k, fun w' hg => ⟨cellk ca hg, cellk cb hg⟩, fun _ h => h⟩
          refine wp_region_held_drew (S := C) (by kernel_rfl) (by (try dsimp only); exact hin _ (by with_reducible repeat (first | exact IsGr.refl _ | refine IsGr.gr ?_ _ _ | refine IsGr.alloc ?_ _ | refine IsGr.drew ?_ | refine IsGr.drewN ?_ _))) (fun hHeld => ?_)
          refine wpAnyH_take (i := 0) (oi := { dst := some 17, op := Op.move (Operand.tmp 3), type := 25, pos := "merge.go:44", after := #[], guard := none }) (v := ?_) rfl (by kernel_rfl) (by kernel_rfl) (by kernel_rfl) (fun _ _ _ h => h) (Or.inl ⟨by rfl, ?_⟩) (by assumption) ?_
          rotate_left
          · (intro w hSw; (try dsimp only at hSw); (try have hcs := hcells w hSw); (try go_split_ands); go_simp <;> with_reducible rfl)
          (try simp only [Act.put, List.setIfInBounds_toArray, List.set_cons_zero, List.set_cons_succ])
          refine wpAnyH_take (i := 1) (oi := { dst := some 18, op := Op.move (Operand.tmp 1), type := 22, pos := "merge.go:44", after := #[], guard := none }) (v := ?_) rfl (by kernel_rfl) (by kernel_rfl) (by kernel_rfl) (fun _ _ _ h => h) (Or.inl ⟨by rfl, ?_⟩) (by assumption) ?_
          rotate_left
          · (intro w hSw; (try dsimp only at hSw); (try have hcs := hcells w hSw); (try go_split_ands); go_simp <;> with_reducible rfl)
          (try simp only [Act.put, List.setIfInBounds_toArray, List.set_cons_zero, List.set_cons_succ])
          refine wpAnyH_take (i := 2) (oi := { dst := some 19, op := Op.indexAddr 22 (Operand.tmp 18) (Operand.const (Value.int IntKind.i64 0)), type := 0, pos := "merge.go:44", after := #[{ on := 1, ground := Ground.data }], guard := none }) (v := ?_) rfl (by kernel_rfl) (by kernel_rfl) (by kernel_rfl) (fun _ _ _ h => h) (Or.inl ⟨by rfl, ?_⟩) (by assumption) ?_
          rotate_left
          · (intro w hSw; (try dsimp only at hSw); (try have hcs := hcells w hSw); (try go_split_ands); go_simp <;> with_reducible rfl)
          (try simp only [Act.put, List.setIfInBounds_toArray, List.set_cons_zero, List.set_cons_succ])
          refine wpAnyH_take (i := 3) (oi := { dst := some 20, op := Op.load 3 (Operand.tmp 19), type := 3, pos := "merge.go:44", after := #[{ on := 2, ground := Ground.data }], guard := none }) (v := ?_) rfl (by kernel_rfl) (by kernel_rfl) (by kernel_rfl) (fun _ _ _ h => h) (Or.inl ⟨by rfl, ?_⟩) (by assumption) ?_
          rotate_left
          · (intro w hSw; (try dsimp only at hSw); (try have hcs := hcells w hSw); (try go_split_ands); go_simp <;> with_reducible rfl)
          (try simp only [Act.put, List.setIfInBounds_toArray, List.set_cons_zero, List.set_cons_succ])
          refine wpAnyH_take (i := 4) (oi := { dst := some 21, op := Op.move (Operand.tmp 2), type := 22, pos := "merge.go:44", after := #[], guard := none }) (v := ?_) rfl (by kernel_rfl) (by kernel_rfl) (by kernel_rfl) (fun _ _ _ h => h) (Or.inl ⟨by rfl, ?_⟩) (by assumption) ?_
          rotate_left
          · (intro w hSw; (try dsimp only at hSw); (try have hcs := hcells w hSw); (try go_split_ands); go_simp <;> with_reducible rfl)
          (try simp only [Act.put, List.setIfInBounds_toArray, List.set_cons_zero, List.set_cons_succ])
          refine wpAnyH_take (i := 5) (oi := { dst := some 22, op := Op.indexAddr 22 (Operand.tmp 21) (Operand.const (Value.int IntKind.i64 0)), type := 0, pos := "merge.go:44", after := #[{ on := 4, ground := Ground.data }], guard := none }) (v := ?_) rfl (by kernel_rfl) (by kernel_rfl) (by kernel_rfl) (fun _ _ _ h => h) (Or.inl ⟨by rfl, ?_⟩) (by assumption) ?_
          rotate_left
          · (intro w hSw; (try dsimp only at hSw); (try have hcs := hcells w hSw); (try go_split_ands); go_simp <;> with_reducible rfl)
          (try simp only [Act.put, List.setIfInBounds_toArray, List.set_cons_zero, List.set_cons_succ])
          refine wpAnyH_take (i := 6) (oi := { dst := some 23, op := Op.load 3 (Operand.tmp 22), type := 3, pos := "merge.go:44", after := #[{ on := 5, ground := Ground.data }], guard := none }) (v := ?_) rfl (by kernel_rfl) (by kernel_rfl) (by kernel_rfl) (fun _ _ _ h => h) (Or.inl ⟨by rfl, ?_⟩) (by assumption) ?_
          rotate_left
          · (intro w hSw; (try dsimp only at hSw); (try have hcs := hcells w hSw); (try go_split_ands); go_simp <;> with_reducible rfl)
          (try simp only [Act.put, List.setIfInBounds_toArray, List.set_cons_zero, List.set_cons_succ])
          refine wpAnyH_ready (rs := [7]) (by kernel_rfl) (by simp) ?_
          refine AllReadyH.cons (o := { dst := some 24, op := Op.call { callee := Callee.value (Operand.tmp 17), args := #[Operand.tmp 20, Operand.tmp 23], argTypes := #[3, 3] }, type := 3, pos := "merge.go:44", after := #[{ on := 0, ground := Ground.data }, { on := 3, ground := Ground.data }, { on := 6, ground := Ground.data }], guard := none }) rfl (fun K hK => ?_) AllReadyH.nil
          go_simp
          refine (CO _).mono ?_
          rintro e w1 ⟨m, hs, rfl, hg⟩
          have d1 : decide (m ≤ 0) = false := by unfold Sg at hs; exact decide_eq_false (by omega)
          clear hs
          (try go_wp2_with fail)
          refine hK.out _ _ (by (try dsimp only); exact hcl _ _ hHeld (by first | with_reducible assumption | with_reducible exact IsGr.refl _ | with_reducible exact (IsGr.refl _).alloc _ | with_reducible exact ((IsGr.refl _).alloc _).alloc _ | assumption)) (fun hHeld2 => ?_)
          clear hK K hHeld
          have hHeld := hHeld2
          clear hHeld2
          (try simp only [Act.put, List.setIfInBounds_toArray, List.set_cons_zero, List.set_cons_succ])
          refine wpAnyH_take (i := 8) (oi := { dst := some 25, op := Op.binOp BinOp.leq 3 (Operand.tmp 24) (Operand.const (Value.int IntKind.i64 0)) 3, type := 4, pos := "merge.go:44", after := #[{ on := 7, ground := Ground.data }], guard := none }) (v := ?_) rfl (by kernel_rfl) (by kernel_rfl) (by kernel_rfl) (fun _ _ _ h => h) (Or.inl ⟨by rfl, ?_⟩) (by assumption) ?_
          rotate_left
          · (intro w hSw; (try dsimp only at hSw); (try have hcs := hcells w hSw); (try go_split_ands); go_simp <;> with_reducible rfl)
          (try simp only [Act.put, List.setIfInBounds_toArray, List.set_cons_zero, List.set_cons_succ])
          refine wpAnyH_done (by kernel_rfl) ?_ _
          have hg2 := hgr _ hHeld
          obtain ⟨cur, hb, hcur⟩ := H.out.blk
          have hb1 := hb.gr hg2
          have c1 := cellk cb hg2
          clear hHeld hgr hin hcl hcells ca cb CO d1
          have hfit : o + p < cur.size := by omega
          by_cases hc1 : cB = 1
          · obtain rfl : nb = 1 := by omega
            subst hc1
            go_wp2_with fail
            go_region_law (refine step_append_room rfl (.tmp 34) (.tmp 38) 22 rfl 3 i0 1 Try.underlying22 hi hz1 g o p c rfl _ 1 1 [.int .i64 y] rfl rfl (cell_one_new _ _ _) (fun u hu => by simp at hu; subst hu; rfl) hroom (spare1 _ hb1 (by with_reducible repeat (first | exact IsGr.refl _ | refine IsGr.gr ?_ _ _ | refine IsGr.alloc ?_ _ | refine IsGr.drew ?_ | refine IsGr.drewN ?_ _)) hfit) ?_)
            all_goals go_simp
            all_goals (go_wp2_with fail)
            all_goals go_roundg (gk - 1)
            case measure => have := HN.out; omega
            case rel =>
              have HW := H.out.right (W := (w1.alloc (Obj.cells #[.int .i64 y] 3)).drew) (hg2.trans (by with_reducible repeat (first | exact IsGr.refl _ | refine IsGr.gr ?_ _ _ | refine IsGr.alloc ?_ _ | refine IsGr.drew ?_ | refine IsGr.drewN ?_ _))) (by omega) (Or.inl ⟨rfl, rfl⟩)
              rw [HP.out] at HW
              refine ⟨P ++ [y], x :: A', B', by rw [List.length_append, HP.out]; rfl, by have := HN.out; simp only [List.length_cons]; omega, ?_⟩
              have := HN.out
              show JnR k w g o n L _ _ _ _ _ _
              simpa [this.1, this.2] using HW
          · go_wp2_with fail
            have z1 : (1 : Int) ≤ nb := by omega
            go_region_law (refine step_append_room rfl (.tmp 34) (.tmp 38) 22 rfl 3 i0 1 Try.underlying22 hi hz1 g o p c rfl _ 1 1 [.int .i64 y] rfl rfl (cell_one_new _ _ _) (fun u hu => by simp at hu; subst hu; rfl) hroom (spare1 _ hb1 (by with_reducible repeat (first | exact IsGr.refl _ | refine IsGr.gr ?_ _ _ | refine IsGr.alloc ?_ _ | refine IsGr.drew ?_ | refine IsGr.drewN ?_ _)) hfit) ?_)
            all_goals go_simp
            all_goals (go_wp2_with fail)
            all_goals go_roundg (gk - 1)
            case measure => have := HN.out; omega
            case rel =>
              have HW := H.out.right (W := (w1.alloc (Obj.cells #[.int .i64 y] 3)).drew) (hg2.trans (by with_reducible repeat (first | exact IsGr.refl _ | refine IsGr.gr ?_ _ _ | refine IsGr.alloc ?_ _ | refine IsGr.drew ?_ | refine IsGr.drewN ?_ _))) (by omega) (Or.inr rfl)
              rw [HP.out] at HW
              refine ⟨P ++ [y], x :: A', B', by rw [List.length_append, HP.out]; rfl, by have := HN.out; simp only [List.length_cons]; omega, ?_⟩
              have := HN.out
              show JnR k w g o n L _ _ _ _ _ _
              simpa [this.1, this.2] using HW
        · go_upto_region 2 with fail
          obtain ⟨C, hin, hcl, hcells, hgr⟩ : ∃ C : World → Prop, (∀ w', IsGr wr w' → C w') ∧ (∀ u u', C u → IsGr u u' → C u') ∧ (∀ w', C w' → (w'.cell? ⟨ga, oa, none⟩ = some (.int .i64 x)) ∧ (w'.cell? ⟨gb, ob, none⟩ = some (.int .i64 y))) ∧ (∀ w', C w' → IsGr wr w') := ⟨fun w' => IsGr wr w', fun _ h => h, fun _ _ h k => h.trans k, fun w' hg => ⟨cellk ca hg, cellk cb hg⟩, fun _ h => h⟩
          refine wp_region_held_drew (S := C) (by kernel_rfl) (by (try dsimp only); exact hin _ (by with_reducible repeat (first | exact IsGr.refl _ | refine IsGr.gr ?_ _ _ | refine IsGr.alloc ?_ _ | refine IsGr.drew ?_ | refine IsGr.drewN ?_ _))) (fun hHeld => ?_)
          refine wpAnyH_take (i := 0) (oi := { dst := some 17, op := Op.move (Operand.tmp 3), type := 25, pos := "merge.go:44", after := #[], guard := none }) (v := ?_) rfl (by kernel_rfl) (by kernel_rfl) (by kernel_rfl) (fun _ _ _ h => h) (Or.inl ⟨by rfl, ?_⟩) (by assumption) ?_
          rotate_left
          · (intro w hSw; (try dsimp only at hSw); (try have hcs := hcells w hSw); (try go_split_ands); go_simp <;> with_reducible rfl)
          (try simp only [Act.put, List.setIfInBounds_toArray, List.set_cons_zero, List.set_cons_succ])
          refine wpAnyH_take (i := 1) (oi := { dst := some 18, op := Op.move (Operand.tmp 1), type := 22, pos := "merge.go:44", after := #[], guard := none }) (v := ?_) rfl (by kernel_rfl) (by kernel_rfl) (by kernel_rfl) (fun _ _ _ h => h) (Or.inl ⟨by rfl, ?_⟩) (by assumption) ?_
          rotate_left
          · (intro w hSw; (try dsimp only at hSw); (try have hcs := hcells w hSw); (try go_split_ands); go_simp <;> with_reducible rfl)
          (try simp only [Act.put, List.setIfInBounds_toArray, List.set_cons_zero, List.set_cons_succ])
          refine wpAnyH_take (i := 2) (oi := { dst := some 19, op := Op.indexAddr 22 (Operand.tmp 18) (Operand.const (Value.int IntKind.i64 0)), type := 0, pos := "merge.go:44", after := #[{ on := 1, ground := Ground.data }], guard := none }) (v := ?_) rfl (by kernel_rfl) (by kernel_rfl) (by kernel_rfl) (fun _ _ _ h => h) (Or.inl ⟨by rfl, ?_⟩) (by assumption) ?_
          rotate_left
          · (intro w hSw; (try dsimp only at hSw); (try have hcs := hcells w hSw); (try go_split_ands); go_simp <;> with_reducible rfl)
          (try simp only [Act.put, List.setIfInBounds_toArray, List.set_cons_zero, List.set_cons_succ])
          refine wpAnyH_take (i := 3) (oi := { dst := some 20, op := Op.load 3 (Operand.tmp 19), type := 3, pos := "merge.go:44", after := #[{ on := 2, ground := Ground.data }], guard := none }) (v := ?_) rfl (by kernel_rfl) (by kernel_rfl) (by kernel_rfl) (fun _ _ _ h => h) (Or.inl ⟨by rfl, ?_⟩) (by assumption) ?_
          rotate_left
          · (intro w hSw; (try dsimp only at hSw); (try have hcs := hcells w hSw); (try go_split_ands); go_simp <;> with_reducible rfl)
          (try simp only [Act.put, List.setIfInBounds_toArray, List.set_cons_zero, List.set_cons_succ])
          refine wpAnyH_take (i := 4) (oi := { dst := some 21, op := Op.move (Operand.tmp 2), type := 22, pos := "merge.go:44", after := #[], guard := none }) (v := ?_) rfl (by kernel_rfl) (by kernel_rfl) (by kernel_rfl) (fun _ _ _ h => h) (Or.inl ⟨by rfl, ?_⟩) (by assumption) ?_
          rotate_left
          · (intro w hSw; (try dsimp only at hSw); (try have hcs := hcells w hSw); (try go_split_ands); go_simp <;> with_reducible rfl)
          (try simp only [Act.put, List.setIfInBounds_toArray, List.set_cons_zero, List.set_cons_succ])
          refine wpAnyH_take (i := 5) (oi := { dst := some 22, op := Op.indexAddr 22 (Operand.tmp 21) (Operand.const (Value.int IntKind.i64 0)), type := 0, pos := "merge.go:44", after := #[{ on := 4, ground := Ground.data }], guard := none }) (v := ?_) rfl (by kernel_rfl) (by kernel_rfl) (by kernel_rfl) (fun _ _ _ h => h) (Or.inl ⟨by rfl, ?_⟩) (by assumption) ?_
          rotate_left
          · (intro w hSw; (try dsimp only at hSw); (try have hcs := hcells w hSw); (try go_split_ands); go_simp <;> with_reducible rfl)
          (try simp only [Act.put, List.setIfInBounds_toArray, List.set_cons_zero, List.set_cons_succ])
          refine wpAnyH_take (i := 6) (oi := { dst := some 23, op := Op.load 3 (Operand.tmp 22), type := 3, pos := "merge.go:44", after := #[{ on := 5, ground := Ground.data }], guard := none }) (v := ?_) rfl (by kernel_rfl) (by kernel_rfl) (by kernel_rfl) (fun _ _ _ h => h) (Or.inl ⟨by rfl, ?_⟩) (by assumption) ?_
          rotate_left
          · (intro w hSw; (try dsimp only at hSw); (try have hcs := hcells w hSw); (try go_split_ands); go_simp <;> with_reducible rfl)
          (try simp only [Act.put, List.setIfInBounds_toArray, List.set_cons_zero, List.set_cons_succ])
          refine wpAnyH_ready (rs := [7]) (by kernel_rfl) (by simp) ?_
          refine AllReadyH.cons (o := { dst := some 24, op := Op.call { callee := Callee.value (Operand.tmp 17), args := #[Operand.tmp 20, Operand.tmp 23], argTypes := #[3, 3] }, type := 3, pos := "merge.go:44", after := #[{ on := 0, ground := Ground.data }, { on := 3, ground := Ground.data }, { on := 6, ground := Ground.data }], guard := none }) rfl (fun K hK => ?_) AllReadyH.nil
          go_simp
          refine (CO _).mono ?_
          rintro e w1 ⟨m, hs, rfl, hg⟩
          have d1 : decide (m ≤ 0) = true := by unfold Sg at hs; exact decide_eq_true (by omega)
          clear hs
          (try go_wp2_with fail)
          refine hK.out _ _ (by (try dsimp only); exact hcl _ _ hHeld (by first | with_reducible assumption | with_reducible exact IsGr.refl _ | with_reducible exact (IsGr.refl _).alloc _ | with_reducible exact ((IsGr.refl _).alloc _).alloc _ | assumption)) (fun hHeld2 => ?_)
          clear hK K hHeld
          have hHeld := hHeld2
          clear hHeld2
          (try simp only [Act.put, List.setIfInBounds_toArray, List.set_cons_zero, List.set_cons_succ])
          refine wpAnyH_take (i := 8) (oi := { dst := some 25, op := Op.binOp BinOp.leq 3 (Operand.tmp 24) (Operand.const (Value.int IntKind.i64 0)) 3, type := 4, pos := "merge.go:44", after := #[{ on := 7, ground := Ground.data }], guard := none }) (v := ?_) rfl (by kernel_rfl) (by kernel_rfl) (by kernel_rfl) (fun _ _ _ h => h) (Or.inl ⟨by rfl, ?_⟩) (by assumption) ?_
          rotate_left
          · (intro w hSw; (try dsimp only at hSw); (try have hcs := hcells w hSw); (try go_split_ands); go_simp <;> with_reducible rfl)
          (try simp only [Act.put, List.setIfInBounds_toArray, List.set_cons_zero, List.set_cons_succ])
          refine wpAnyH_done (by kernel_rfl) ?_ _
          have hg2 := hgr _ hHeld
          obtain ⟨cur, hb, hcur⟩ := H.out.blk
          have hb1 := hb.gr hg2
          have c1 := cellk ca hg2
          clear hHeld hgr hin hcl hcells ca cb CO d1
          have hfit : o + p < cur.size := by omega
          by_cases hc1 : cA = 1
          · obtain rfl : na = 1 := by omega
            subst hc1
            go_wp2_with fail
            go_region_law (refine step_append_room rfl (.tmp 26) (.tmp 30) 22 rfl 3 i0 1 Try.underlying22 hi hz1 g o p c rfl _ 1 1 [.int .i64 x] rfl rfl (cell_one_new _ _ _) (fun u hu => by simp at hu; subst hu; rfl) hroom (spare1 _ hb1 (by with_reducible repeat (first | exact IsGr.refl _ | refine IsGr.gr ?_ _ _ | refine IsGr.alloc ?_ _ | refine IsGr.drew ?_ | refine IsGr.drewN ?_ _)) hfit) ?_)
            all_goals go_simp
            all_goals (go_wp2_with fail)
            all_goals go_roundg (gk - 1)
            case measure => have := HN.out; omega
            case rel =>
              have HW := H.out.left (W := (w1.alloc (Obj.cells #[.int .i64 x] 3)).drew) (hg2.trans (by with_reducible repeat (first | exact IsGr.refl _ | refine IsGr.gr ?_ _ _ | refine IsGr.alloc ?_ _ | refine IsGr.drew ?_ | refine IsGr.drewN ?_ _))) (by omega) (Or.inl ⟨rfl, rfl⟩)
              rw [HP.out] at HW
              refine ⟨P ++ [x], A', y :: B', by rw [List.length_append, HP.out]; rfl, by have := HN.out; simp only [List.length_cons]; omega, ?_⟩
              have := HN.out
              show JnR k w g o n L _ _ _ _ _ _
              simpa [this.1, this.2] using HW
          · go_wp2_with fail
            have z1 : (1 : Int) ≤ na := by omega
            go_region_law (refine step_append_room rfl (.tmp 26) (.tmp 30) 22 rfl 3 i0 1 Try.underlying22 hi hz1 g o p c rfl _ 1 1 [.int .i64 x] rfl rfl (cell_one_new _ _ _) (fun u hu => by simp at hu; subst hu; rfl) hroom (spare1 _ hb1 (by with_reducible repeat (first | exact IsGr.refl _ | refine IsGr.gr ?_ _ _ | refine IsGr.alloc ?_ _ | refine IsGr.drew ?_ | refine IsGr.drewN ?_ _)) hfit) ?_)
            all_goals go_simp
            all_goals (go_wp2_with fail)
            all_goals go_roundg (gk - 1)
            case measure => have := HN.out; omega
            case rel =>
              have HW := H.out.left (W := (w1.alloc (Obj.cells #[.int .i64 x] 3)).drew) (hg2.trans (by with_reducible repeat (first | exact IsGr.refl _ | refine IsGr.gr ?_ _ _ | refine IsGr.alloc ?_ _ | refine IsGr.drew ?_ | refine IsGr.drewN ?_ _))) (by omega) (Or.inr rfl)
              rw [HP.out] at HW
              refine ⟨P ++ [x], A', y :: B', by rw [List.length_append, HP.out]; rfl, by have := HN.out; simp only [List.length_cons]; omega, ?_⟩
              have := HN.out
              show JnR k w g o n L _ _ _ _ _ _
              simpa [this.1, this.2] using HW
end Go.Proofs.Ytblnpabgakmghaa
