/- gromaref08 and gromalaw08 over the loaded program: New, Join, Numbers; within, count. -/
import Derived.Test.YtchbnkapajnjgaaO1
import Derived.Test.YtchbnkapajnjgaaS6
namespace Go.Proofs.Ytchbnkapajnjgaa
open Go.RowKit Go.Shelf
attribute [local go_sem] Gr.size Gr.cell? Gr.frozen? Gr.setCell Gr.drew Gr.drewN Gr.of_drew Gr.of_drewN Gr.gr Gr.lt_of1 Gr.le_of1 Gr.lt_of2 Gr.le_of2 Gr.lt_of3 Gr.le_of3 Gr.lt_of4 Gr.le_of4 Gr.lt_of5 Gr.le_of5 Gr.lt_of6 Gr.le_of6 Gr.lt_of7 Gr.le_of7 Gr.lt_of8 Gr.le_of8 Gr.lt_of9 Gr.le_of9 Gr.lt_of10 Gr.le_of10 Gr.lt_of11 Gr.le_of11 Gr.lt_of12 Gr.le_of12 Gr.lt_of13 Gr.le_of13 Gr.lt_of14 Gr.le_of14 Gr.lt_of15 Gr.le_of15 Gr.lt_of16 Gr.le_of16 Gr.lt_of17 Gr.le_of17 Gr.lt_of18 Gr.le_of18 Gr.lt_of19 Gr.le_of19 Gr.lt_of20 Gr.le_of20 Gr.lt_of21 Gr.le_of21 Gr.lt_of22 Gr.le_of22 Gr.lt_of23 Gr.le_of23 Gr.lt_of24 Gr.le_of24
theorem take_snocU {l : List Int} {i : Nat} (h : i < l.length) : l.take (i + 1) = l.take i ++ [l.getD i 0] := by
  rw [List.take_add_one, List.getElem?_eq_getElem h]; simp [List.getD, h]
/-- A number that is one of so many. -/
def wth (a n : Int) : Bool := decide (0 ≤ a) && decide (a < n)
set_option maxRecDepth 20000 in set_option maxHeartbeats 2000000 in
theorem within_any (a n : Int) (w : World) : Calls Try.prog 11 #[.int .i64 a, .int .i64 n] w fun e w' => e = .returned (.bool (wth a n)) ∧ w' = w := by
  obtain ⟨b, hb⟩ : ∃ b, wth a n = b := ⟨_, rfl⟩
  rw [hb]
  unfold wth at hb
  by_cases h : 0 ≤ a
  · have hb2 : decide (a < n) = b := by rw [← hb, decide_eq_true h]; rfl
    have h' : decide (0 ≤ a) = true := decide_eq_true h
    clear hb
    go_enter Try.func11, Try.ntmps11
    go_wp2_with fail
    go_ret
    first | exact ⟨rfl, rfl⟩ | (refine ⟨?_, rfl⟩; rw [← hb2]; rfl)
  · have hb2 : b = false := by rw [← hb, decide_eq_false h]; rfl
    subst hb2
    have h' : decide (0 ≤ a) = false := decide_eq_false h
    clear hb
    go_enter Try.func11, Try.ntmps11
    go_wp2_with fail
    go_ret
    exact ⟨rfl, rfl⟩
set_option maxRecDepth 20000 in set_option maxHeartbeats 2000000 in
theorem count_any (v : Value) (x : List Int) (w : World) (h : Rd w v x) (hn : x.length ≤ 1000) : Calls Try.prog 15 #[v] w fun e w' => e = .returned (.int .i64 (cntU x x.length : Nat)) ∧ w' = w := by
  obtain ⟨a, c, rfl⟩ := h.form
  obtain ⟨m, hm⟩ : ∃ m, x.length = m := ⟨_, rfl⟩
  rw [hm] at h hn ⊢
  have HH : Hid (Rd w (.slice a m c) x) := h
  clear h hm
  go_enter Try.func15, Try.ntmps15
  go_wp2_with fail
  go_loopg [3, 8] m (fun r p3 p8 wr => wr = w ∧ ∃ k : Nat, k + r = m ∧ p8 = .int .i64 k ∧ ∃ q : Nat, p3 = .int .i64 q ∧ Hid (q = cntU x k) ∧ q ≤ k)
  case atStart => exact ⟨rfl, 0, by omega, rfl, 0, rfl, rfl, Nat.le_refl _⟩
  case round =>
    obtain ⟨hww, k, hk, rfl, q, rfl, HQ, hq⟩ := hrel
    obtain rfl := hww.symm
    by_cases hkm : k < m
    · obtain ⟨g, o, rfl, -, -, -, -, hc⟩ := HH.out.at hkm
      obtain ⟨y, hy⟩ : ∃ y, x.getD k 0 = y := ⟨_, rfl⟩
      have HY : Hid (x.getD k 0 = y) := hy
      rw [hy] at hc
      have hkm' : (k : Int) < m := by omega
      have e1 : IntKind.i64.wrap ((k : Int) + 1) = (k : Int) + 1 := by rw [IntKind.wrap_i64]; omega
      have e2 : IntKind.i64.wrap ((q : Int) + 1) = (q : Int) + 1 := by rw [IntKind.wrap_i64]; omega
      clear hy
      by_cases hyk : y = (k : Int)
      · have hb : (y == (k : Int)) = true := by simpa using hyk
        have HC : Hid (y = (k : Int)) := hyk
        clear hyk
        go_wp2_with fail
        go_roundg (gk - 1)
        case measure => omega
        case rel => exact ⟨rfl, k + 1, by omega, by simp, q + 1, by simp, by show _ = _; rw [cntU, HY.out, if_pos HC.out, ← HQ.out], by omega⟩
      · have hb : (y == (k : Int)) = false := by simpa using hyk
        have HC : Hid (¬ y = (k : Int)) := hyk
        clear hyk
        go_wp2_with fail
        go_roundg (gk - 1)
        case measure => omega
        case rel => exact ⟨rfl, k + 1, by omega, by simp, q, rfl, by show _ = _; rw [cntU, HY.out, if_neg HC.out, ← HQ.out]; rfl, by omega⟩
    · obtain rfl : k = m := by omega
      have hkm' : ¬ (k : Int) < k := by omega
      go_wp2_with fail
      go_ret
      exact ⟨by rw [← HQ.out]; rfl, rfl⟩

set_option maxRecDepth 20000 in set_option maxHeartbeats 2000000 in
theorem RNew_any (n : Nat) (w : World) (hn : n ≤ 1000) : Calls Try.prog 9 #[.int .i64 n] w fun e w' => ∃ v', e = .returned v' ∧ Lst w' w.heap.size v' (rng n) ∧ Below w.heap.size w w' := by
  obtain ⟨i0, hi, hz0, hz1, hz2⟩ := info_parts info_int
  go_enter Try.func9, Try.ntmps9
  go_wp2_with fail
  go_loopg [3, 4] n (fun r p3 p4 wr => ∃ (i : Nat) (q : List Int), i + r = n ∧ p4 = .int .i64 i ∧ Lst wr w.heap.size p3 q ∧ Hid (q = rng i) ∧ Hid (Below w.heap.size w wr))
  case atStart => exact ⟨0, [], by omega, rfl, Lst.nil _ _, rfl, Below.refl _ _⟩
  case round =>
    obtain ⟨i, q, hk, rfl, hrow, HQ, HB⟩ := hrel
    obtain ⟨qa, qc, rfl, -⟩ := hrow.form
    have HQL : Hid (q.length ≤ 1001) := by show _ ≤ _; rw [HQ.out, rng_len]; omega
    by_cases hin : i < n
    · have hin' : (i : Int) < n := by omega
      have e1 : IntKind.i64.wrap ((i : Int) + 1) = (i : Int) + 1 := by rw [IntKind.wrap_i64]; omega
      go_wp2_with (at_builtin; refine wpList_append_own _ rfl _ _ 26 rfl w.heap.size 3 i0 (.int .i64 0) 1 8 Try.underlying26 hi hz0 hz1 hz2 rfl (by decide) (.slice qa q.length qc) _ _ rfl (World.ownsRow.alloc hrow _) ⟨wr.heap.size, 0, none⟩ 1 1 [.int .i64 i] rfl rfl (cell_one_new _ _ _) (fun u hu => by simp at hu; subst hu; rfl) (by unfold maxLen; have := HQL.out; omega) (by have := HQL.out; omega) (by have := HB.out.size; simp; omega) ?_; intro v9 w9 h1o h1g _; obtain ⟨g1, cap1, rfl⟩ := ownsRow_succ h1o; have HB1 : Hid (Below w.heap.size w w9) := HB.out.trans (((Below.refl _ wr).alloc HB.out.size _).trans (below_grow h1g (by have := HB.out.size; simp; omega) (fun k hk => (World.ownsRow.lt hrow k hk).1))))
      go_roundg (n - (i + 1))
      case measure => omega
      case rel => exact ⟨i + 1, q ++ [(i : Int)], by omega, by simp, Lst.snoc h1o, by show _ = _; rw [rng_succ, HQ.out], HB1⟩
    · obtain rfl : i = n := by omega
      have hin' : ¬ (i : Int) < i := by omega
      go_wp2_with fail
      go_ret
      exact ⟨_, rfl, HQ.out ▸ hrow, HB.out⟩
/-- What Join has done to the first i. -/
theorem jn_take {x : List Int} {a b i : Nat} (hi : i < x.length) : (jn x a b).take (i + 1) = (jn x a b).take i ++ [if x.getD i 0 = max (x.getD a 0) (x.getD b 0) then min (x.getD a 0) (x.getD b 0) else x.getD i 0] := by
  rw [take_snocU (by rw [jn_len]; exact hi), jn_at hi]
set_option maxRecDepth 20000 in set_option maxHeartbeats 2000000 in
theorem RJoin_any (v : Value) (x : List Int) (a b : Nat) (w : World) (h : Rd w v x) (ha : a < x.length) (hb : b < x.length) (hn : x.length ≤ 1000) : Calls Try.prog 13 #[v, .int .i64 a, .int .i64 b] w fun e w' => ∃ v', e = .returned v' ∧ Lst w' w.heap.size v' (jn x a b) ∧ Below w.heap.size w w' := by
  obtain ⟨i0, hi, hz0, hz1, hz2⟩ := info_parts info_int
  obtain ⟨ax, c, rfl⟩ := h.form
  obtain ⟨m, hm⟩ : ∃ m, x.length = m := ⟨_, rfl⟩
  rw [hm] at h ha hb hn ⊢
  have HH : Hid (Rd w (.slice ax m c) x ∧ x.length = m) := ⟨h, hm⟩
  obtain ⟨g, o, rfl, -, -, -, -, ca⟩ := h.at ha
  obtain ⟨g1, o1, e9, -, -, -, -, cb⟩ := h.at hb
  cases e9
  obtain ⟨p, hp⟩ : ∃ y, x.getD a 0 = y := ⟨_, rfl⟩
  obtain ⟨q, hq⟩ : ∃ y, x.getD b 0 = y := ⟨_, rfl⟩
  rw [hp] at ca
  rw [hq] at cb
  obtain ⟨lo, hlo⟩ : ∃ z, min p q = z := ⟨_, rfl⟩
  obtain ⟨hi', hhi⟩ : ∃ z, max p q = z := ⟨_, rfl⟩
  have HJ : Hid (∀ i, i < m → (jn x a b).take (i + 1) = (jn x a b).take i ++ [if x.getD i 0 = hi' then lo else x.getD i 0]) := fun i h9 => by rw [jn_take (by rw [hm]; exact h9), hp, hq, hlo, hhi]
  have HL : Hid ((jn x a b).length = m) := by rw [← hm]; exact jn_len x a b
  have har : (a : Int) < m := by omega
  have hbr : (b : Int) < m := by omega
  obtain ⟨J, hJ⟩ : ∃ J, jn x a b = J := ⟨_, rfl⟩
  rw [hJ] at HL ⊢
  simp only [hJ] at HJ
  clear h hp hq hm hJ
  by_cases hqp : q < p

  · have hlq : lo = q ∧ hi' = p := by omega
    obtain ⟨rfl, rfl⟩ := hlq
    clear hlo hhi
    go_enter Try.func13, Try.ntmps13
    go_wp2_with fail
    go_loopg [7, 10] m (fun r p7 p10 wr => ∃ (i : Nat) (q : List Int), i + r = m ∧ p10 = .int .i64 i ∧ Lst wr w.heap.size p7 q ∧ Hid (q = J.take i) ∧ Hid (Below w.heap.size w wr))
    case atStart => exact ⟨0, [], by omega, rfl, Lst.nil _ _, rfl, Below.refl _ _⟩
    case round =>
      clear ca cb
      obtain ⟨i, q, hk, rfl, hrow, HQ, HB⟩ := hrel
      obtain ⟨qa, qc, rfl, -⟩ := hrow.form
      have HQL : Hid (q.length ≤ 1001) := by show _ ≤ _; rw [HQ.out, List.length_take]; omega
      by_cases hin : i < m
      · obtain ⟨g1, o1, e9, -, -, -, -, cx⟩ := (HH.out.1.below HB.out).at hin
        cases e9
        have hJi := HJ.out i hin
        obtain ⟨y, hy⟩ : ∃ y, x.getD i 0 = y := ⟨_, rfl⟩
        rw [hy] at cx hJi
        have hin' : (i : Int) < m := by omega
        have e1 : IntKind.i64.wrap ((i : Int) + 1) = (i : Int) + 1 := by rw [IntKind.wrap_i64]; omega
        clear hy
        by_cases hyz : y = hi'
        · have HJ2 : Hid (J.take (i + 1) = J.take i ++ [lo]) := by show _ = _; rw [hJi, if_pos hyz]
          have hbe : (y == hi') = true := by simpa using hyz
          clear hJi hyz
          go_wp2_with (at_builtin; refine wpList_append_own _ rfl _ _ 26 rfl w.heap.size 3 i0 (.int .i64 0) 1 8 Try.underlying26 hi hz0 hz1 hz2 rfl (by decide) (.slice qa q.length qc) _ _ rfl (World.ownsRow.alloc hrow _) ⟨wr.heap.size, 0, none⟩ 1 1 [.int .i64 lo] rfl rfl (cell_one_new _ _ _) (fun u hu => by simp at hu; subst hu; rfl) (by unfold maxLen; have := HQL.out; omega) (by have := HQL.out; omega) (by have := HB.out.size; simp; omega) ?_; intro v9 w9 h1o h1g _; obtain ⟨g1, cap1, rfl⟩ := ownsRow_succ h1o; have HB1 : Hid (Below w.heap.size w w9) := HB.out.trans (((Below.refl _ wr).alloc HB.out.size _).trans (below_grow h1g (by have := HB.out.size; simp; omega) (fun k hk => (World.ownsRow.lt hrow k hk).1))))
          go_roundg (m - (i + 1))
          case measure => omega
          case rel =>
            have HQ2 : q ++ [lo] = J.take (i + 1) := (by rw [HJ2.out, HQ.out])
            exact ⟨i + 1, q ++ [lo], by omega, by simp, Lst.snoc h1o, HQ2, HB1⟩
        · have HJ2 : Hid (J.take (i + 1) = J.take i ++ [y]) := by show _ = _; rw [hJi, if_neg hyz]
          have hbe : (y == hi') = false := by simpa using hyz
          have hyz' : Hid (¬ y = hi') := hyz
          clear hJi hyz
          go_wp2_with (at_builtin; refine wpList_append_own _ rfl _ _ 26 rfl w.heap.size 3 i0 (.int .i64 0) 1 8 Try.underlying26 hi hz0 hz1 hz2 rfl (by decide) (.slice qa q.length qc) _ _ rfl (World.ownsRow.alloc hrow _) ⟨wr.heap.size, 0, none⟩ 1 1 [.int .i64 y] rfl rfl (cell_one_new _ _ _) (fun u hu => by simp at hu; subst hu; rfl) (by unfold maxLen; have := HQL.out; omega) (by have := HQL.out; omega) (by have := HB.out.size; simp; omega) ?_; intro v9 w9 h1o h1g _; obtain ⟨g1, cap1, rfl⟩ := ownsRow_succ h1o; have HB1 : Hid (Below w.heap.size w w9) := HB.out.trans (((Below.refl _ wr).alloc HB.out.size _).trans (below_grow h1g (by have := HB.out.size; simp; omega) (fun k hk => (World.ownsRow.lt hrow k hk).1))))
          go_roundg (m - (i + 1))
          case measure => omega
          case rel =>
            have HQ2 : q ++ [y] = J.take (i + 1) := (by rw [HJ2.out, HQ.out])
            exact ⟨i + 1, q ++ [y], by omega, by simp, Lst.snoc h1o, HQ2, HB1⟩
      · have hin' : ¬ (i : Int) < m := by omega
        have HE : Hid (q = J) := by
          have := HQ.out
          rw [List.take_of_length_le (by have := HL.out; omega)] at this
          exact this
        go_wp2_with fail
        go_ret
        exact ⟨_, rfl, HE.out ▸ hrow, HB.out⟩

  · have hlq : lo = p ∧ hi' = q := by omega
    obtain ⟨rfl, rfl⟩ := hlq
    clear hlo hhi
    go_enter Try.func13, Try.ntmps13
    go_wp2_with fail
    go_loopg [7, 10] m (fun r p7 p10 wr => ∃ (i : Nat) (q : List Int), i + r = m ∧ p10 = .int .i64 i ∧ Lst wr w.heap.size p7 q ∧ Hid (q = J.take i) ∧ Hid (Below w.heap.size w wr))
    case atStart => exact ⟨0, [], by omega, rfl, Lst.nil _ _, rfl, Below.refl _ _⟩
    case round =>
      clear ca cb
      obtain ⟨i, q, hk, rfl, hrow, HQ, HB⟩ := hrel
      obtain ⟨qa, qc, rfl, -⟩ := hrow.form
      have HQL : Hid (q.length ≤ 1001) := by show _ ≤ _; rw [HQ.out, List.length_take]; omega
      by_cases hin : i < m
      · obtain ⟨g1, o1, e9, -, -, -, -, cx⟩ := (HH.out.1.below HB.out).at hin
        cases e9
        have hJi := HJ.out i hin
        obtain ⟨y, hy⟩ : ∃ y, x.getD i 0 = y := ⟨_, rfl⟩
        rw [hy] at cx hJi
        have hin' : (i : Int) < m := by omega
        have e1 : IntKind.i64.wrap ((i : Int) + 1) = (i : Int) + 1 := by rw [IntKind.wrap_i64]; omega
        clear hy
        by_cases hyz : y = hi'
        · have HJ2 : Hid (J.take (i + 1) = J.take i ++ [lo]) := by show _ = _; rw [hJi, if_pos hyz]
          have hbe : (y == hi') = true := by simpa using hyz
          clear hJi hyz
          go_wp2_with (at_builtin; refine wpList_append_own _ rfl _ _ 26 rfl w.heap.size 3 i0 (.int .i64 0) 1 8 Try.underlying26 hi hz0 hz1 hz2 rfl (by decide) (.slice qa q.length qc) _ _ rfl (World.ownsRow.alloc hrow _) ⟨wr.heap.size, 0, none⟩ 1 1 [.int .i64 lo] rfl rfl (cell_one_new _ _ _) (fun u hu => by simp at hu; subst hu; rfl) (by unfold maxLen; have := HQL.out; omega) (by have := HQL.out; omega) (by have := HB.out.size; simp; omega) ?_; intro v9 w9 h1o h1g _; obtain ⟨g1, cap1, rfl⟩ := ownsRow_succ h1o; have HB1 : Hid (Below w.heap.size w w9) := HB.out.trans (((Below.refl _ wr).alloc HB.out.size _).trans (below_grow h1g (by have := HB.out.size; simp; omega) (fun k hk => (World.ownsRow.lt hrow k hk).1))))
          go_roundg (m - (i + 1))
          case measure => omega
          case rel =>
            have HQ2 : q ++ [lo] = J.take (i + 1) := (by rw [HJ2.out, HQ.out])
            exact ⟨i + 1, q ++ [lo], by omega, by simp, Lst.snoc h1o, HQ2, HB1⟩
        · have HJ2 : Hid (J.take (i + 1) = J.take i ++ [y]) := by show _ = _; rw [hJi, if_neg hyz]
          have hbe : (y == hi') = false := by simpa using hyz
          have hyz' : Hid (¬ y = hi') := hyz
          clear hJi hyz
          go_wp2_with (at_builtin; refine wpList_append_own _ rfl _ _ 26 rfl w.heap.size 3 i0 (.int .i64 0) 1 8 Try.underlying26 hi hz0 hz1 hz2 rfl (by decide) (.slice qa q.length qc) _ _ rfl (World.ownsRow.alloc hrow _) ⟨wr.heap.size, 0, none⟩ 1 1 [.int .i64 y] rfl rfl (cell_one_new _ _ _) (fun u hu => by simp at hu; subst hu; rfl) (by unfold maxLen; have := HQL.out; omega) (by have := HQL.out; omega) (by have := HB.out.size; simp; omega) ?_; intro v9 w9 h1o h1g _; obtain ⟨g1, cap1, rfl⟩ := ownsRow_succ h1o; have HB1 : Hid (Below w.heap.size w w9) := HB.out.trans (((Below.refl _ wr).alloc HB.out.size _).trans (below_grow h1g (by have := HB.out.size; simp; omega) (fun k hk => (World.ownsRow.lt hrow k hk).1))))
          go_roundg (m - (i + 1))
          case measure => omega
          case rel =>
            have HQ2 : q ++ [y] = J.take (i + 1) := (by rw [HJ2.out, HQ.out])
            exact ⟨i + 1, q ++ [y], by omega, by simp, Lst.snoc h1o, HQ2, HB1⟩
      · have hin' : ¬ (i : Int) < m := by omega
        have HE : Hid (q = J) := by
          have := HQ.out
          rw [List.take_of_length_le (by have := HL.out; omega)] at this
          exact this
        go_wp2_with fail
        go_ret
        exact ⟨_, rfl, HE.out ▸ hrow, HB.out⟩
end Go.Proofs.Ytchbnkapajnjgaa
