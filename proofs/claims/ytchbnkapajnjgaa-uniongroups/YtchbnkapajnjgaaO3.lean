/- gromaref08 over the loaded program: Numbers. -/
import Derived.Test.YtchbnkapajnjgaaO2
namespace Go.Proofs.Ytchbnkapajnjgaa
open Go.RowKit Go.Shelf
attribute [local go_sem] Gr.size Gr.cell? Gr.frozen? Gr.setCell Gr.drew Gr.drewN Gr.of_drew Gr.of_drewN Gr.gr Gr.lt_of1 Gr.le_of1 Gr.lt_of2 Gr.le_of2 Gr.lt_of3 Gr.le_of3 Gr.lt_of4 Gr.le_of4 Gr.lt_of5 Gr.le_of5 Gr.lt_of6 Gr.le_of6 Gr.lt_of7 Gr.le_of7 Gr.lt_of8 Gr.le_of8 Gr.lt_of9 Gr.le_of9 Gr.lt_of10 Gr.le_of10 Gr.lt_of11 Gr.le_of11 Gr.lt_of12 Gr.le_of12 Gr.lt_of13 Gr.le_of13 Gr.lt_of14 Gr.le_of14 Gr.lt_of15 Gr.le_of15 Gr.lt_of16 Gr.le_of16 Gr.lt_of17 Gr.le_of17 Gr.lt_of18 Gr.le_of18 Gr.lt_of19 Gr.le_of19 Gr.lt_of20 Gr.le_of20 Gr.lt_of21 Gr.le_of21 Gr.lt_of22 Gr.le_of22 Gr.lt_of23 Gr.le_of23 Gr.lt_of24 Gr.le_of24
theorem nums_take {x : List Int} {i : Nat} (hi : i < x.length) : (nums x).take (i + 1) = (nums x).take i ++ [(cntU x (x.getD i 0).toNat : Int)] := by
  rw [take_snocU (by rw [nums_len]; exact hi), nums_at hi]

set_option maxRecDepth 20000 in set_option maxHeartbeats 2000000 in
theorem RNumbers_any (v : Value) (x : List Int) (w : World) (h : Rd w v x) (hx : Lea x) (hn : x.length ≤ 1000) : Calls Try.prog 21 #[v] w fun e w' => ∃ v', e = .returned v' ∧ Lst w' w.heap.size v' (nums x) ∧ Below w.heap.size w w' := by
  obtain ⟨i0, hi, hz0, hz1, hz2⟩ := info_parts info_int
  obtain ⟨ax, c, rfl⟩ := h.form
  obtain ⟨m, hm⟩ : ∃ m, x.length = m := ⟨_, rfl⟩
  have HT : Hid (∀ i, i < m → (nums x).take (i + 1) = (nums x).take i ++ [(cntU x (x.getD i 0).toNat : Int)]) := fun i h9 => nums_take (hm ▸ h9)
  have HX : Hid (∀ i, i < m → ∃ j : Nat, x.getD i 0 = j ∧ j ≤ i ∧ x.getD j 0 = j) := fun i h9 => hx.tail (hm ▸ h9)
  have HL : Hid ((nums x).length = m) := by show _ = _; rw [nums_len]; exact hm
  rw [hm] at h hn ⊢
  have HH : Hid (Rd w (.slice ax m c) x) := h
  clear h hm hx
  go_enter Try.func21, Try.ntmps21
  go_wp2_with fail
  go_loopg [3, 4] m (fun r p3 p4 wr => ∃ (i : Nat) (q : List Int), i + r = m ∧ p4 = .int .i64 i ∧ Lst wr w.heap.size p3 q ∧ Hid (q = (nums x).take i) ∧ Hid (Below w.heap.size w wr))
  case atStart => exact ⟨0, [], by omega, rfl, Lst.nil _ _, rfl, Below.refl _ _⟩
  case round =>
    obtain ⟨i, q, hk, rfl, hrow, HQ, HB⟩ := hrel
    obtain ⟨qa, qc, rfl, -⟩ := hrow.form
    have HQL : Hid (q.length ≤ 1001) := by show _ ≤ _; rw [HQ.out, List.length_take]; omega
    by_cases hin : i < m
    · obtain ⟨g, o, rfl, -, -, -, -, ci⟩ := (HH.out.below HB.out).at hin
      obtain ⟨t, ht, hti, -⟩ := HX.out i hin
      have HTI := HT.out i hin
      rw [ht] at ci HTI
      have HTJ : Hid ((nums x).take (i + 1) = q ++ [(cntU x t : Int)]) := by show _ = _; rw [HTI, ← HQ.out]; rfl
      have hin' : (i : Int) < m := by omega
      have e1 : IntKind.i64.wrap ((i : Int) + 1) = (i : Int) + 1 := by rw [IntKind.wrap_i64]; omega
      clear HTI ht
      go_wp2_with fail
      go_loopg [5, 6] t (fun r p5 p6 w2 => w2 = wr ∧ ∃ k : Nat, k + r = t ∧ p6 = .int .i64 k ∧ ∃ z : Nat, p5 = .int .i64 z ∧ Hid (z = cntU x k) ∧ z ≤ k)
      case atStart => exact ⟨rfl, 0, by omega, rfl, 0, rfl, rfl, Nat.le_refl _⟩
      case round =>
        obtain ⟨hww, k, hk2, rfl, z, rfl, HZ, hz⟩ := hrel
        obtain rfl := hww.symm
        by_cases hkt : k < t
        · have hkm : k < m := by omega
          obtain ⟨g1, o1, e9, -, -, -, -, ck⟩ := (HH.out.below HB.out).at hkm
          cases e9
          obtain ⟨y, hy⟩ : ∃ y, x.getD k 0 = y := ⟨_, rfl⟩
          have HY : Hid (x.getD k 0 = y) := hy
          rw [hy] at ck
          have hkt' : (k : Int) < t := by omega
          have hkm' : (k : Int) < m := by omega
          have e2 : IntKind.i64.wrap ((k : Int) + 1) = (k : Int) + 1 := by rw [IntKind.wrap_i64]; omega
          have e3 : IntKind.i64.wrap ((z : Int) + 1) = (z : Int) + 1 := by rw [IntKind.wrap_i64]; omega
          clear hy
          by_cases hyk : y = (k : Int)
          · have hb : (y == (k : Int)) = true := by simpa using hyk
            have HC : Hid (y = (k : Int)) := hyk
            clear hyk
            go_wp2_with fail
            go_roundg (t - (k + 1))
            case measure => omega
            case rel => exact ⟨rfl, k + 1, by omega, by simp, z + 1, by simp, by show _ = _; rw [cntU, HY.out, if_pos HC.out, ← HZ.out], by omega⟩
          · have hb : (y == (k : Int)) = false := by simpa using hyk
            have HC : Hid (¬ y = (k : Int)) := hyk
            clear hyk
            go_wp2_with fail
            go_roundg (t - (k + 1))
            case measure => omega
            case rel => exact ⟨rfl, k + 1, by omega, by simp, z, rfl, by show _ = _; rw [cntU, HY.out, if_neg HC.out, ← HZ.out]; rfl, by omega⟩
        · have hkt' : ¬ (k : Int) < t := by omega
          have HZ2 : Hid ((nums x).take (i + 1) = q ++ [(z : Int)]) := by
            show _ = _
            rw [HTJ.out, HZ.out, show k = t by omega]
          go_wp2_with (at_builtin; refine wpList_append_own _ rfl _ _ 26 rfl w.heap.size 3 i0 (.int .i64 0) 1 8 Try.underlying26 hi hz0 hz1 hz2 rfl (by decide) (.slice qa q.length qc) _ _ rfl (World.ownsRow.alloc hrow _) ⟨wr.heap.size, 0, none⟩ 1 1 [.int .i64 z] rfl rfl (cell_one_new _ _ _) (fun u hu => by simp at hu; subst hu; rfl) (by unfold maxLen; have := HQL.out; omega) (by have := HQL.out; omega) (by have := HB.out.size; simp; omega) ?_; intro v9 w9 h1o h1g _; obtain ⟨g1, cap1, rfl⟩ := ownsRow_succ h1o; have HB1 : Hid (Below w.heap.size w w9) := HB.out.trans (((Below.refl _ wr).alloc HB.out.size _).trans (below_grow h1g (by have := HB.out.size; simp; omega) (fun k hk => (World.ownsRow.lt hrow k hk).1))))
          go_roundg (m - (i + 1))
          case measure => omega
          case rel => exact ⟨i + 1, q ++ [(z : Int)], by omega, by simp, Lst.snoc h1o, HZ2.out.symm, HB1⟩
    · have hin' : ¬ (i : Int) < m := by omega
      have HE : Hid (q = nums x) := by
        have := HQ.out
        rw [List.take_of_length_le (by have := HL.out; omega)] at this
        exact this
      go_wp2_with fail
      go_ret
      exact ⟨_, rfl, HE.out ▸ hrow, HB.out⟩
end Go.Proofs.Ytchbnkapajnjgaa
