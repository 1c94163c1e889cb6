/- gromaref06 over the loaded program: Put; lists that are read. -/
import Derived.Test.YtdffpgfmodccgaaF1
import Derived.Test.YtdffpgfmodccgaaS2
import Derived.Deep.LoopGhost
import Derived.RangeFuncBox
namespace Go.Proofs.Ytdffpgfmodccgaa
open Go.RowKit Go.Shelf
attribute [local go_sem] Gr.size Gr.cell? Gr.frozen? Gr.setCell Gr.drew Gr.drewN Gr.of_drew Gr.of_drewN Gr.gr Gr.lt_of1 Gr.le_of1 Gr.lt_of2 Gr.le_of2 Gr.lt_of3 Gr.le_of3 Gr.lt_of4 Gr.le_of4 Gr.lt_of5 Gr.le_of5 Gr.lt_of6 Gr.le_of6 Gr.lt_of7 Gr.le_of7 Gr.lt_of8 Gr.le_of8 Gr.lt_of9 Gr.le_of9 Gr.lt_of10 Gr.le_of10 Gr.lt_of11 Gr.le_of11 Gr.lt_of12 Gr.le_of12 Gr.lt_of13 Gr.le_of13 Gr.lt_of14 Gr.le_of14 Gr.lt_of15 Gr.le_of15 Gr.lt_of16 Gr.le_of16 Gr.lt_of17 Gr.le_of17 Gr.lt_of18 Gr.le_of18 Gr.lt_of19 Gr.le_of19 Gr.lt_of20 Gr.le_of20 Gr.lt_of21 Gr.le_of21 Gr.lt_of22 Gr.le_of22 Gr.lt_of23 Gr.le_of23 Gr.lt_of24 Gr.le_of24
/-- A list that is read. -/
def Rd (w : World) (v : Value) (l : List Int) : Prop := ∃ a c, v = .slice a l.length c ∧ l.length ≤ c ∧ Ins w a l.length l
theorem Ins.wr {S : List Nat} {w w' : World} {a : Option Addr} {n : Nat} {l : List Int} (h : Ins w a n l) (hg : Wr S w w') (hS : ∀ g, a.map (·.block) = some g → g ∉ S) : Ins w' a n l := by
  obtain ⟨h1, h2, h3⟩ := h
  refine ⟨h1, h2, ?_⟩
  rcases h3 with h3 | ⟨g, o, rfl, h4, h5⟩
  · exact Or.inl h3
  · exact Or.inr ⟨g, o, rfl, Nat.lt_of_lt_of_le h4 hg.size, fun i hi => cell_wr (h5 i hi) hg (hS g rfl)⟩
theorem Rd.wr {S : List Nat} {w w' : World} {v : Value} {l : List Int} (h : Rd w v l) (hg : Wr S w w') (hS : ∀ g, v.ownBlock = some g → g ∉ S) : Rd w' v l := by
  obtain ⟨a, c, rfl, hc, hI⟩ := h
  refine ⟨a, c, rfl, hc, hI.wr hg (fun g e => hS g ?_)⟩
  cases a with
  | none => cases e
  | some a => exact e
theorem Rd.gr {w w' : World} {v : Value} {l : List Int} (h : Rd w v l) (hg : IsGr w w') : Rd w' v l := h.wr (S := []) (Wr.of_gr hg) (by simp)
theorem Ins.of_lst {w : World} {base n c : Nat} {a : Option Addr} {l : List Int} (h : Lst w base (.slice a n c) l) (hi : ∀ x ∈ l, I64 x) : Ins w a n l := by
  obtain ⟨a', c', e, hf⟩ := h.form
  injection e with e1 e2 e3
  subst e1 e2
  refine ⟨rfl, hi, ?_⟩
  rcases hf with rfl | ⟨g, rfl, _, h2, h3⟩
  · exact Or.inl rfl
  · exact Or.inr ⟨g, 0, rfl, h2, fun i hi => by rw [Nat.zero_add]; exact h3 i hi⟩
theorem Rd.of_lst {w : World} {base : Nat} {v : Value} {l : List Int} (h : Lst w base v l) (hi : ∀ x ∈ l, I64 x) : Rd w v l := by
  obtain ⟨a, c, rfl, _⟩ := h.form
  exact ⟨a, c, rfl, h.cap, Ins.of_lst h hi⟩
/-- One more, in its place: what is still to come of the list. -/
def pu (n : Int) : List Int → Bool → List Int
  | [], true => []
  | [], false => [n]
  | x :: l, true => x :: pu n l true
  | x :: l, false => if n ≤ x then n :: x :: pu n l true else x :: pu n l false
theorem pu_len (n : Int) : ∀ (l : List Int) (d : Bool), (pu n l d).length = l.length + (if d then 0 else 1)
  | [], true => rfl
  | [], false => rfl
  | x :: l, true => by simp [pu, pu_len n l true]
  | x :: l, false => by
    unfold pu
    split
    · simp [pu_len n l true]
    · simp [pu_len n l false]
theorem pu_true (n : Int) : ∀ l, pu n l true = l
  | [] => rfl
  | x :: l => by simp [pu, pu_true n l]
theorem pu_false (n : Int) : ∀ l, pu n l false = pi n l
  | [] => rfl
  | x :: l => by simp [pu, pi, pu_true n l, pu_false n l]
theorem pi_ints {n : Int} {l : List Int} (hn : I64 n) (h : ∀ x ∈ l, I64 x) : ∀ x ∈ pi n l, I64 x := fun x hx => by
  rcases List.mem_cons.1 ((pi_perm n l).subset hx) with rfl | h1
  · exact hn
  · exact h x h1

set_option maxRecDepth 20000 in set_option maxHeartbeats 1000000 in
theorem RPut_any (a : Option Addr) (m c : Nat) (L : List Int) (n : Int) (w : World) (h : Ins w a m L) (hlen : m ≤ 1000) :
    Calls Try.prog 10 #[.slice a m c, .int .i64 n] w fun e w' => ∃ v', e = .returned v' ∧ Lst w' w.heap.size v' (pi n L) ∧ Below w.heap.size w w' := by
  obtain ⟨i0, hi, hz0, hz1, hz2⟩ := info_parts info_int
  have HH : Hid (Ins w a m L) := h
  have HP : Hid (pi n L = pu n L false) := (pu_false n L).symm
  clear h
  have hm' : (m : Int) ≤ 1000 := by omega
  go_enter Try.func10, Try.ntmps10
  go_wp2_with fail
  go_loopg [5, 6, 7] m (fun r p5 p6 p7 wr => ∃ (k : Nat) (d : Bool) (o : List Int), k + r = m ∧ p7 = .int .i64 k ∧ p6 = .bool d ∧ Lst wr w.heap.size p5 o ∧ Hid (o ++ pu n (L.drop k) d = pu n L false) ∧ Hid (Below w.heap.size w wr))
  case atStart => exact ⟨0, false, [], by omega, rfl, rfl, Lst.nil _ _, (by show _ = _; simp), Below.refl _ _⟩
  case round =>
    obtain ⟨k, d, o, hk, rfl, rfl, hrow, hQ, HB⟩ := hrel
    obtain ⟨oa, oc, rfl, _⟩ := hrow.form
    have HO : Hid (o.length ≤ 1001) := by have h1 := congrArg List.length hQ.out; have h2 := HH.out.1; rw [List.length_append, pu_len, pu_len, List.length_drop] at h1; show _ ≤ _; simp at h1; omega
    by_cases hkm : k < m
    · obtain ⟨g, o', rfl, _, hcK⟩ := HH.out.at hkm
      have HD : Hid (L.drop k = L.getD k 0 :: L.drop (k + 1)) := drop_at (by have := HH.out.1; omega)
      obtain ⟨x, hx⟩ : ∃ x, L.getD k 0 = x := ⟨_, rfl⟩
      simp only [hx] at hcK
      rw [hx] at HD
      have hc := hcK _ HB.out
      have e1 : IntKind.i64.wrap ((k : Int) + 1) = (k : Int) + 1 := by rw [IntKind.wrap_i64]; omega
      have hbr := HB.out.size
      clear hx
      cases d with
      | true =>
        go_wp2_with (at_builtin; refine wpList_append_own _ rfl _ _ 22 rfl w.heap.size 3 i0 (.int .i64 0) 1 8 Try.underlying22 hi hz0 hz1 hz2 rfl (by decide) (.slice oa o.length oc) _ _ rfl (World.ownsRow.alloc hrow _) ⟨wr.heap.size, 0, none⟩ 1 1 [.int .i64 x] rfl rfl (cell_one_new _ _ _) (fun u hu => by simp at hu; subst hu; rfl) (by unfold maxLen; have := HO.out; omega) (by have := HO.out; omega) (by have := HB.out.size; simp; omega) ?_; intro v1 w1 h1o h1g _; obtain ⟨g1, cap1, rfl⟩ := ownsRow_succ h1o; have HB1 : Hid (Below w.heap.size w w1) := HB.out.trans ((((Below.refl _ wr).alloc HB.out.size _)).trans (below_grow h1g (by have := HB.out.size; simp; omega) (fun k hk => (World.ownsRow.lt hrow k hk).1))))
        go_roundg (gk - 1)
        case measure => omega
        case rel =>
          refine ⟨k + 1, true, o ++ [x], by omega, by simp, rfl, Lst.snoc h1o, ?_, HB1⟩
          have := hQ.out
          rw [HD.out] at this
          show _ = _
          rw [← this]
          simp [pu]
      | false =>
        by_cases hzy : n ≤ x
        · go_wp2_with (first | (at_builtin; refine wpList_append_own _ rfl _ _ 22 rfl w.heap.size 3 i0 (.int .i64 0) 1 8 Try.underlying22 hi hz0 hz1 hz2 rfl (by decide) (.slice (some ⟨g1, 0, none⟩) (o.length + 1) cap1) _ _ rfl (World.ownsRow.alloc h1o _) ⟨w1.heap.size, 0, none⟩ 1 1 [.int .i64 x] rfl rfl (cell_one_new _ _ _) (fun u hu => by simp at hu; subst hu; rfl) (by unfold maxLen; have := HO.out; omega) (by have := HO.out; omega) (by have := HB1.out.size; simp; omega) ?_; intro v2 w2 h2o h2g _; obtain ⟨g2, cap2, rfl⟩ := ownsRow_succ h2o; have HB2 : Hid (Below w.heap.size w w2) := HB1.out.trans ((((Below.refl _ w1).alloc HB1.out.size _)).trans (below_grow h2g (by have := HB1.out.size; simp; omega) (fun k hk => (World.ownsRow.lt h1o k hk).1)))) | (at_builtin; refine wpList_append_own _ rfl _ _ 22 rfl w.heap.size 3 i0 (.int .i64 0) 1 8 Try.underlying22 hi hz0 hz1 hz2 rfl (by decide) (.slice oa o.length oc) _ _ rfl (World.ownsRow.alloc hrow _) ⟨wr.heap.size, 0, none⟩ 1 1 [.int .i64 n] rfl rfl (cell_one_new _ _ _) (fun u hu => by simp at hu; subst hu; rfl) (by unfold maxLen; have := HO.out; omega) (by have := HO.out; omega) (by have := HB.out.size; simp; omega) ?_; intro v1 w1 h1o h1g _; obtain ⟨g1, cap1, rfl⟩ := ownsRow_succ h1o; have HB1 : Hid (Below w.heap.size w w1) := HB.out.trans ((((Below.refl _ wr).alloc HB.out.size _)).trans (below_grow h1g (by have := HB.out.size; simp; omega) (fun k hk => (World.ownsRow.lt hrow k hk).1))); have hc1 := hcK _ HB1.out; clear hrow hc))
          go_roundg (gk - 1)
          case measure => omega
          case rel =>
            refine ⟨k + 1, true, o ++ [n] ++ [x], by omega, by simp, rfl, Lst.snoc (by simpa using h2o), ?_, HB2⟩
            have := hQ.out
            rw [HD.out] at this
            show _ = _
            rw [← this]
            rw [pu, if_pos hzy]
            simp
        · go_wp2_with (at_builtin; refine wpList_append_own _ rfl _ _ 22 rfl w.heap.size 3 i0 (.int .i64 0) 1 8 Try.underlying22 hi hz0 hz1 hz2 rfl (by decide) (.slice oa o.length oc) _ _ rfl (World.ownsRow.alloc hrow _) ⟨wr.heap.size, 0, none⟩ 1 1 [.int .i64 x] rfl rfl (cell_one_new _ _ _) (fun u hu => by simp at hu; subst hu; rfl) (by unfold maxLen; have := HO.out; omega) (by have := HO.out; omega) (by have := HB.out.size; simp; omega) ?_; intro v1 w1 h1o h1g _; obtain ⟨g1, cap1, rfl⟩ := ownsRow_succ h1o; have HB1 : Hid (Below w.heap.size w w1) := HB.out.trans ((((Below.refl _ wr).alloc HB.out.size _)).trans (below_grow h1g (by have := HB.out.size; simp; omega) (fun k hk => (World.ownsRow.lt hrow k hk).1))))
          go_roundg (gk - 1)
          case measure => omega
          case rel =>
            refine ⟨k + 1, false, o ++ [x], by omega, by simp, rfl, Lst.snoc h1o, ?_, HB1⟩
            have := hQ.out
            rw [HD.out] at this
            show _ = _
            rw [← this]
            rw [pu, if_neg (by omega)]
            simp
    · have hkm' : k = m := by omega
      subst hkm'
      have HE : Hid (L.drop k = []) := List.drop_eq_nil_of_le (by have := HH.out.1; omega)
      cases d with
      | true =>
        go_wp2_with fail
        go_ret
        refine ⟨_, rfl, ?_, HB.out⟩
        have := hQ.out
        rw [HE.out] at this
        simp only [pu, List.append_nil] at this
        rw [HP.out, ← this]
        exact hrow
      | false =>
        go_wp2_with (at_builtin; refine wpList_append_own _ rfl _ _ 22 rfl w.heap.size 3 i0 (.int .i64 0) 1 8 Try.underlying22 hi hz0 hz1 hz2 rfl (by decide) (.slice oa o.length oc) _ _ rfl (World.ownsRow.alloc hrow _) ⟨wr.heap.size, 0, none⟩ 1 1 [.int .i64 n] rfl rfl (cell_one_new _ _ _) (fun u hu => by simp at hu; subst hu; rfl) (by unfold maxLen; have := HO.out; omega) (by have := HO.out; omega) (by have := HB.out.size; simp; omega) ?_; intro v1 w1 h1o h1g _; obtain ⟨g1, cap1, rfl⟩ := ownsRow_succ h1o; have HB1 : Hid (Below w.heap.size w w1) := HB.out.trans ((((Below.refl _ wr).alloc HB.out.size _)).trans (below_grow h1g (by have := HB.out.size; simp; omega) (fun k hk => (World.ownsRow.lt hrow k hk).1))))
        go_ret
        refine ⟨_, rfl, ?_, HB1.out⟩
        have := hQ.out
        rw [HE.out] at this
        simp only [pu] at this
        rw [HP.out, ← this]
        exact Lst.snoc h1o
end Go.Proofs.Ytdffpgfmodccgaa
