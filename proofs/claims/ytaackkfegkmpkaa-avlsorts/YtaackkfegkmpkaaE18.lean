/- gromaref05 over the loaded program: Put, Without. -/
import Derived.Test.YtaackkfegkmpkaaE17
import Derived.Laws.AppendOwnNone
import Derived.Maps.AppendAt
namespace Go.Proofs.Ytaackkfegkmpkaa
open Go.RowKit Go.Shelf
attribute [local go_sem] Gr.size Gr.cell? Gr.frozen? Gr.setCell Gr.drew Gr.drewN Gr.of_drew Gr.of_drewN Gr.gr Gr.lt_of1 Gr.le_of1 Gr.lt_of2 Gr.le_of2 Gr.lt_of3 Gr.le_of3 Gr.lt_of4 Gr.le_of4 Gr.lt_of5 Gr.le_of5 Gr.lt_of6 Gr.le_of6 Gr.lt_of7 Gr.le_of7 Gr.lt_of8 Gr.le_of8 Gr.lt_of9 Gr.le_of9 Gr.lt_of10 Gr.le_of10 Gr.lt_of11 Gr.le_of11 Gr.lt_of12 Gr.le_of12 Gr.lt_of13 Gr.le_of13 Gr.lt_of14 Gr.le_of14 Gr.lt_of15 Gr.le_of15 Gr.lt_of16 Gr.le_of16 Gr.lt_of17 Gr.le_of17 Gr.lt_of18 Gr.le_of18 Gr.lt_of19 Gr.le_of19 Gr.lt_of20 Gr.le_of20 Gr.lt_of21 Gr.le_of21 Gr.lt_of22 Gr.le_of22 Gr.lt_of23 Gr.le_of23 Gr.lt_of24 Gr.le_of24
theorem info_int : (Try.prog.info? 3).map (fun i => (i.zero, i.size, i.bytes)) = some (some (.int .i64 0), 1, 8) := by kernel_rfl
theorem below_grow {w w' : World} {N : Nat} {row : Option Nat} (h : w.grownBy w' row) (hN : N ≤ w.heap.size) (hr : ∀ k, row = some k → N ≤ k) : Below N w w' :=
  ⟨h.os, h.tape, h.output, by have := h.size; omega, fun k hk => h.block k (by omega) (fun e => by have := hr k e.symm; omega)⟩
/-- One more, in its place: what is still to come of the list. -/
def pu (n : Int) : List Int → Bool → List Int
  | [], true => []
  | [], false => [n]
  | x :: l, true => x :: pu n l true
  | x :: l, false => if tq n < tq x then n :: x :: pu n l true else x :: pu n l false
theorem drop_at {L : List Int} {k : Nat} (h : k < L.length) : L.drop k = L.getD k 0 :: L.drop (k + 1) := by
  rw [List.drop_eq_getElem_cons h]; simp [List.getD, h]
/-- What one append leaves. -/
theorem Lst.snoc {w' : World} {base : Nat} {v : Value} {L : List Int} {x : Int} (h : w'.ownsRow base 3 1 v (L.length + 1) ((L.map fun x => Value.int .i64 x) ++ [.int .i64 x])) : Lst w' base v (L ++ [x]) := by
  unfold Lst; simpa using h
theorem own_block {w : World} {base : Nat} {v : Value} {L : List Int} (h : Lst w base v L) : ∀ k, v.ownBlock = some k → base ≤ k ∧ k < w.heap.size := World.ownsRow.lt h
theorem pu_len (n : Int) : ∀ (l : List Int) (d : Bool), (pu n l d).length = l.length + (if d then 0 else 1)
  | [], true => rfl
  | [], false => rfl
  | x :: l, true => by simp [pu, pu_len n l true]
  | x :: l, false => by
    unfold pu
    split
    · simp [pu_len n l true]
    · simp [pu_len n l false]

set_option maxRecDepth 20000 in set_option maxHeartbeats 1000000 in
theorem RPut_any (base : Nat) (v : Value) (L : List Int) (n : Int) (w : World) (h : Lst w base v L) (hL : ∀ x ∈ L, I64 x) (hn : I64 n) (hlen : L.length ≤ 1000) :
    Calls Try.prog 29 #[v, .int .i64 n] w fun e w' => ∃ v', e = .returned v' ∧ Lst w' w.heap.size v' (pu n L false) ∧ Below w.heap.size w w' := by
  obtain ⟨i0, hi, hz0, hz1, hz2⟩ := info_parts info_int
  obtain ⟨a, c, rfl, hf⟩ := h.form
  have CN := fun w => RTens_any n hn w
  have CX := fun k (hk : k < L.length) w => RTens_any (L.getD k 0) (hL _ (by simp only [List.getD, List.getElem?_eq_getElem hk, Option.getD_some]; exact List.getElem_mem hk)) w
  obtain ⟨m, hm⟩ : ∃ m, L.length = m := ⟨_, rfl⟩
  obtain ⟨y, hy⟩ : ∃ y, tq n = y := ⟨_, rfl⟩
  simp only [hy] at CN
  rw [hm] at hlen CX
  have HH : Hid (L.length = m ∧ tq n = y ∧ (L = [] ∨ ∃ g, a = some ⟨g, 0, none⟩ ∧ base ≤ g ∧ g < w.heap.size ∧ ∀ i, i < L.length → w.cell? ⟨g, i, none⟩ = some (.int .i64 (L.getD i 0)))) := ⟨hm, hy, hf⟩
  rw [hm]
  clear h hf hL hn hy hm
  have hm' : (m : Int) ≤ 1000 := by omega
  go_enter Try.func29, Try.ntmps29
  go_wp2_with fail
  go_loopg [5, 6, 7] m (fun r p5 p6 p7 wr => ∃ (k : Nat) (d : Bool) (o : List Int), k + r = m ∧ p7 = .int .i64 k ∧ p6 = .bool d ∧ Lst wr w.heap.size p5 o ∧ Hid (o ++ pu n (L.drop k) d = pu n L false) ∧ Hid (Below w.heap.size w wr))
  case atStart => exact ⟨0, false, [], by omega, rfl, rfl, Lst.nil _ _, (by show _ = _; simp), Below.refl _ _⟩
  case round =>
    obtain ⟨k, d, o, hk, rfl, rfl, hrow, hQ, HB⟩ := hrel
    obtain ⟨oa, oc, rfl, _⟩ := hrow.form
    have HO : Hid (o.length ≤ 1001) := by have h1 := congrArg List.length hQ.out; have h2 := HH.out.1; rw [List.length_append, pu_len, pu_len, List.length_drop] at h1; show _ ≤ _; simp at h1; omega
    by_cases hkm : k < m
    · have hg : ∃ g, a = some ⟨g, 0, none⟩ ∧ g < w.heap.size ∧ w.cell? ⟨g, k, none⟩ = some (.int .i64 (L.getD k 0)) := by
        obtain ⟨h1, _, h3⟩ := HH.out
        rcases h3 with h3 | ⟨g, h4, _, h6, h5⟩
        · rw [h3] at h1; simp at h1; omega
        · exact ⟨g, h4, h6, h5 k (by omega)⟩
      obtain ⟨g, rfl, hgw, hc0⟩ := hg
      have hcK := fun w' (hb : Below w.heap.size w w') => (hb.cell (p := ⟨g, k, none⟩) hgw).trans hc0
      have HD : Hid (L.drop k = L.getD k 0 :: L.drop (k + 1)) := drop_at (by have := HH.out.1; omega)
      have C := CX k hkm
      obtain ⟨x, hx⟩ : ∃ x, L.getD k 0 = x := ⟨_, rfl⟩
      obtain ⟨z, hz⟩ : ∃ z, tq x = z := ⟨_, rfl⟩
      simp only [hx] at hcK
      simp only [hx, hz] at C
      rw [hx] at HD
      have hc := hcK _ HB.out
      have HX : Hid (tq x = z) := hz
      have e1 : IntKind.i64.wrap ((k : Int) + 1) = (k : Int) + 1 := by rw [IntKind.wrap_i64]; omega
      have hgr := hgw
      have hbr := HB.out.size
      clear hx hz CX hc0
      cases d with
      | true =>
        go_wp2_with (at_builtin; refine wpList_append_own _ rfl _ _ 27 rfl w.heap.size 3 i0 (.int .i64 0) 1 8 Try.underlying27 hi hz0 hz1 hz2 rfl (by decide) (.slice oa o.length oc) _ _ rfl (World.ownsRow.alloc hrow _) ⟨wr.heap.size, 0, none⟩ 1 1 [.int .i64 x] rfl rfl (cell_one_new _ _ _) (fun u hu => by simp at hu; subst hu; rfl) (by unfold maxLen; have := HO.out; omega) (by have := HO.out; omega) (by have := HB.out.size; simp; omega) ?_; intro v1 w1 h1o h1g _; obtain ⟨g1, cap1, rfl⟩ := ownsRow_succ h1o; have HB1 : Hid (Below w.heap.size w w1) := HB.out.trans ((((Below.refl _ wr).alloc HB.out.size _)).trans (below_grow h1g (by have := HB.out.size; simp; omega) (fun k hk => (World.ownsRow.lt hrow k hk).1))))
        go_roundg (gk - 1)
        case measure => omega
        case rel =>
          refine ⟨k + 1, true, o ++ [x], by omega, by simp, rfl, Lst.snoc h1o, ?_, HB1⟩
          have := hQ.out
          rw [HD.out] at this
          show _ = _
          rw [← this]
          simp [pu]
      | false =>
        by_cases hzy : y < z
        · go_wp2_with fail
          refine (C _).mono ?_
          rintro e w2 ⟨rfl, e2⟩
          obtain rfl := e2.symm
          go_wp2_with fail
          refine (CN _).mono ?_
          rintro e w2 ⟨rfl, e2⟩
          obtain rfl := e2.symm
          go_wp2_with (first | (at_builtin; refine wpList_append_own _ rfl _ _ 27 rfl w.heap.size 3 i0 (.int .i64 0) 1 8 Try.underlying27 hi hz0 hz1 hz2 rfl (by decide) (.slice (some ⟨g1, 0, none⟩) (o.length + 1) cap1) _ _ rfl (World.ownsRow.alloc h1o _) ⟨w1.heap.size, 0, none⟩ 1 1 [.int .i64 x] rfl rfl (cell_one_new _ _ _) (fun u hu => by simp at hu; subst hu; rfl) (by unfold maxLen; have := HO.out; omega) (by have := HO.out; omega) (by have := HB1.out.size; simp; omega) ?_; intro v2 w2 h2o h2g _; obtain ⟨g2, cap2, rfl⟩ := ownsRow_succ h2o; have HB2 : Hid (Below w.heap.size w w2) := HB1.out.trans ((((Below.refl _ w1).alloc HB1.out.size _)).trans (below_grow h2g (by have := HB1.out.size; simp; omega) (fun k hk => (World.ownsRow.lt h1o k hk).1)))) | (at_builtin; refine wpList_append_own _ rfl _ _ 27 rfl w.heap.size 3 i0 (.int .i64 0) 1 8 Try.underlying27 hi hz0 hz1 hz2 rfl (by decide) (.slice oa o.length oc) _ _ rfl (World.ownsRow.alloc hrow _) ⟨wr.heap.size, 0, none⟩ 1 1 [.int .i64 n] rfl rfl (cell_one_new _ _ _) (fun u hu => by simp at hu; subst hu; rfl) (by unfold maxLen; have := HO.out; omega) (by have := HO.out; omega) (by have := HB.out.size; simp; omega) ?_; intro v1 w1 h1o h1g _; obtain ⟨g1, cap1, rfl⟩ := ownsRow_succ h1o; have HB1 : Hid (Below w.heap.size w w1) := HB.out.trans ((((Below.refl _ wr).alloc HB.out.size _)).trans (below_grow h1g (by have := HB.out.size; simp; omega) (fun k hk => (World.ownsRow.lt hrow k hk).1))); have hc1 := hcK _ HB1.out; clear hrow hc))
          go_roundg (gk - 1)
          case measure => omega
          case rel =>
            refine ⟨k + 1, true, o ++ [n] ++ [x], by omega, by simp, rfl, Lst.snoc (by simpa using h2o), ?_, HB2⟩
            have := hQ.out
            rw [HD.out] at this
            show _ = _
            rw [← this]
            rw [pu, if_pos (by rw [HH.out.2.1, HX.out]; exact hzy)]
            simp
        · go_wp2_with fail
          refine (C _).mono ?_
          rintro e w2 ⟨rfl, e2⟩
          obtain rfl := e2.symm
          go_wp2_with fail
          refine (CN _).mono ?_
          rintro e w2 ⟨rfl, e2⟩
          obtain rfl := e2.symm
          go_wp2_with (at_builtin; refine wpList_append_own _ rfl _ _ 27 rfl w.heap.size 3 i0 (.int .i64 0) 1 8 Try.underlying27 hi hz0 hz1 hz2 rfl (by decide) (.slice oa o.length oc) _ _ rfl (World.ownsRow.alloc hrow _) ⟨wr.heap.size, 0, none⟩ 1 1 [.int .i64 x] rfl rfl (cell_one_new _ _ _) (fun u hu => by simp at hu; subst hu; rfl) (by unfold maxLen; have := HO.out; omega) (by have := HO.out; omega) (by have := HB.out.size; simp; omega) ?_; intro v1 w1 h1o h1g _; obtain ⟨g1, cap1, rfl⟩ := ownsRow_succ h1o; have HB1 : Hid (Below w.heap.size w w1) := HB.out.trans ((((Below.refl _ wr).alloc HB.out.size _)).trans (below_grow h1g (by have := HB.out.size; simp; omega) (fun k hk => (World.ownsRow.lt hrow k hk).1))))
          go_roundg (gk - 1)
          case measure => omega
          case rel =>
            refine ⟨k + 1, false, o ++ [x], by omega, by simp, rfl, Lst.snoc h1o, ?_, HB1⟩
            have := hQ.out
            rw [HD.out] at this
            show _ = _
            rw [← this]
            rw [pu, if_neg (by rw [HH.out.2.1, HX.out]; omega)]
            simp
    · have hkm' : k = m := by omega
      subst hkm'
      have HE : Hid (L.drop k = []) := List.drop_eq_nil_of_le (by have := HH.out.1; omega)
      cases d with
      | true =>
        go_wp2_with fail
        go_ret
        refine ⟨_, rfl, ?_, HB.out⟩
        have := hQ.out
        rw [HE.out] at this
        simp only [pu, List.append_nil] at this
        rw [← this]
        exact hrow
      | false =>
        go_wp2_with (at_builtin; refine wpList_append_own _ rfl _ _ 27 rfl w.heap.size 3 i0 (.int .i64 0) 1 8 Try.underlying27 hi hz0 hz1 hz2 rfl (by decide) (.slice oa o.length oc) _ _ rfl (World.ownsRow.alloc hrow _) ⟨wr.heap.size, 0, none⟩ 1 1 [.int .i64 n] rfl rfl (cell_one_new _ _ _) (fun u hu => by simp at hu; subst hu; rfl) (by unfold maxLen; have := HO.out; omega) (by have := HO.out; omega) (by have := HB.out.size; simp; omega) ?_; intro v1 w1 h1o h1g _; obtain ⟨g1, cap1, rfl⟩ := ownsRow_succ h1o; have HB1 : Hid (Below w.heap.size w w1) := HB.out.trans ((((Below.refl _ wr).alloc HB.out.size _)).trans (below_grow h1g (by have := HB.out.size; simp; omega) (fun k hk => (World.ownsRow.lt hrow k hk).1))))
        go_ret
        refine ⟨_, rfl, ?_, HB1.out⟩
        have := hQ.out
        rw [HE.out] at this
        simp only [pu] at this
        rw [← this]
        exact Lst.snoc h1o

/-- All but the one at a place. -/
def wo (at' : Int) : List Int → Nat → List Int
  | [], _ => []
  | x :: l, i => if (i : Int) = at' then wo at' l (i + 1) else x :: wo at' l (i + 1)
theorem wo_len (at' : Int) : ∀ (l : List Int) (i : Nat), (wo at' l i).length ≤ l.length
  | [], _ => by simp [wo]
  | x :: l, i => by
    have := wo_len at' l (i + 1)
    unfold wo
    split
    · simp; omega
    · simp; omega

set_option maxRecDepth 20000 in set_option maxHeartbeats 1000000 in
theorem RWithout_any (base : Nat) (v : Value) (L : List Int) (at' : Int) (w : World) (h : Lst w base v L) (hlen : L.length ≤ 1000) :
    Calls Try.prog 30 #[v, .int .i64 at'] w fun e w' => ∃ v', e = .returned v' ∧ Lst w' w.heap.size v' (wo at' L 0) ∧ Below w.heap.size w w' := by
  obtain ⟨i0, hi, hz0, hz1, hz2⟩ := info_parts info_int
  obtain ⟨a, c, rfl, hf⟩ := h.form
  obtain ⟨m, hm⟩ : ∃ m, L.length = m := ⟨_, rfl⟩
  rw [hm] at hlen
  have HH : Hid (L.length = m ∧ (L = [] ∨ ∃ g, a = some ⟨g, 0, none⟩ ∧ base ≤ g ∧ g < w.heap.size ∧ ∀ i, i < L.length → w.cell? ⟨g, i, none⟩ = some (.int .i64 (L.getD i 0)))) := ⟨hm, hf⟩
  rw [hm]
  clear h hf hm
  have hm' : (m : Int) ≤ 1000 := by omega
  go_enter Try.func30, Try.ntmps30
  go_wp2_with fail
  go_loopg [5, 6] m (fun r p5 p6 wr => ∃ (k : Nat) (o : List Int), k + r = m ∧ p6 = .int .i64 k ∧ Lst wr w.heap.size p5 o ∧ Hid (o ++ wo at' (L.drop k) k = wo at' L 0 ∧ o.length ≤ k) ∧ Hid (Below w.heap.size w wr))
  case atStart => exact ⟨0, [], by omega, rfl, Lst.nil _ _, ⟨by simp, by simp⟩, Below.refl _ _⟩
  case round =>
    obtain ⟨k, o, hk, rfl, hrow, hQ, HB⟩ := hrel
    obtain ⟨oa, oc, rfl, _⟩ := hrow.form
    have HO : Hid (o.length ≤ 1001) := by have := hQ.out.2; show _ ≤ _; omega
    by_cases hkm : k < m
    · have hg : ∃ g, a = some ⟨g, 0, none⟩ ∧ g < w.heap.size ∧ w.cell? ⟨g, k, none⟩ = some (.int .i64 (L.getD k 0)) := by
        obtain ⟨h1, h3⟩ := HH.out
        rcases h3 with h3 | ⟨g, h4, _, h6, h5⟩
        · rw [h3] at h1; simp at h1; omega
        · exact ⟨g, h4, h6, h5 k (by omega)⟩
      obtain ⟨g, rfl, hgw, hc0⟩ := hg
      have hc := (HB.out.cell (p := ⟨g, k, none⟩) hgw).trans hc0
      have HD : Hid (L.drop k = L.getD k 0 :: L.drop (k + 1)) := drop_at (by have := HH.out.1; omega)
      obtain ⟨x, hx⟩ : ∃ x, L.getD k 0 = x := ⟨_, rfl⟩
      rw [hx] at hc HD
      have e1 : IntKind.i64.wrap ((k : Int) + 1) = (k : Int) + 1 := by rw [IntKind.wrap_i64]; omega
      clear hx hc0
      by_cases hka : (k : Int) = at'
      · have HA : Hid ((k : Int) = at') := hka
        subst hka
        go_wp2_with fail
        go_roundg (gk - 1)
        case measure => omega
        case rel =>
          refine ⟨k + 1, o, by omega, by simp, hrow, ⟨?_, by have := hQ.out.2; omega⟩, HB⟩
          have := hQ.out.1
          rw [HD.out] at this
          rw [← this, wo, if_pos rfl]
      · have HA : Hid (¬ (k : Int) = at') := hka
        go_wp2_with (at_builtin; refine wpList_append_own _ rfl _ _ 27 rfl w.heap.size 3 i0 (.int .i64 0) 1 8 Try.underlying27 hi hz0 hz1 hz2 rfl (by decide) (.slice oa o.length oc) _ _ rfl (World.ownsRow.alloc hrow _) ⟨wr.heap.size, 0, none⟩ 1 1 [.int .i64 x] rfl rfl (cell_one_new _ _ _) (fun u hu => by simp at hu; subst hu; rfl) (by unfold maxLen; have := HO.out; omega) (by have := HO.out; omega) (by have := HB.out.size; simp; omega) ?_; intro v1 w1 h1o h1g _; obtain ⟨g1, cap1, rfl⟩ := ownsRow_succ h1o; have HB1 : Hid (Below w.heap.size w w1) := HB.out.trans ((((Below.refl _ wr).alloc HB.out.size _)).trans (below_grow h1g (by have := HB.out.size; simp; omega) (fun k hk => (World.ownsRow.lt hrow k hk).1))))
        go_roundg (gk - 1)
        case measure => omega
        case rel =>
          refine ⟨k + 1, o ++ [x], by omega, by simp, Lst.snoc h1o, ⟨?_, by simp; exact hQ.out.2⟩, HB1⟩
          have := hQ.out.1
          rw [HD.out] at this
          rw [← this, wo, if_neg HA.out]
          simp
    · have hkm' : k = m := by omega
      subst hkm'
      go_wp2_with fail
      go_ret
      refine ⟨_, rfl, ?_, HB.out⟩
      have := hQ.out.1
      rw [List.drop_eq_nil_of_le (by have := HH.out.1; omega)] at this
      simp only [wo, List.append_nil] at this
      rw [← this]
      exact hrow
end Go.Proofs.Ytaackkfegkmpkaa
