/- The number of some words, of package gromaref01. -/
import Derived.Test.YtfpifbfnebfdaaaDoorR6
namespace Go.Proofs.YtfpifbfnebfdaaaDoor
open Go.RowKit
attribute [local go_sem] Gr.size Gr.cell? Gr.frozen? Gr.setCell Gr.drew Gr.drewN Gr.of_drew Gr.of_drewN Gr.gr Gr.lt_of1 Gr.le_of1 Gr.lt_of2 Gr.le_of2 Gr.lt_of3 Gr.le_of3 Gr.lt_of4 Gr.le_of4 Gr.lt_of5 Gr.le_of5 Gr.lt_of6 Gr.le_of6 Gr.lt_of7 Gr.le_of7 Gr.lt_of8 Gr.le_of8

/-- The slice value v holds the words ws in the world w. -/
def Wds (w : World) (g o n : Nat) (ws : List Int) : Prop := ws.length = n ∧ g < w.heap.size ∧ Dg 18446744073709551616 ws ∧ ∀ i, i < n → w.cell? ⟨g, o + i, none⟩ = some (.int .u64 (ws.getD i 0))

/-- Behind k bits: os are whole digits, R what is gathered, m bits of it. -/
def Wd (N : Int) (os : List Int) (R : Int) (m k : Nat) : Prop := k = 15 * os.length + m ∧ Dg 32768 os ∧ 0 ≤ R ∧ R < 2 ^ m ∧ vl 32768 os + 32768 ^ os.length * R = N % 2 ^ k

theorem bit_of (ws : List Int) (hd : Dg 18446744073709551616 ws) (k : Nat) (hk : k / 64 < ws.length) : ws.getD (k / 64) 0 / 2 ^ (k % 64) % 2 = vl 18446744073709551616 ws / 2 ^ k % 2 := by
  have hB : (18446744073709551616 : Int) = 2 ^ 64 := by decide
  have e1 := vl_drop 18446744073709551616 ws (k / 64)
  rw [Nat.min_eq_left (by omega), List.drop_eq_getElem_cons hk] at e1
  simp only [vl] at e1
  have h1 := vl_lt (by decide : (1 : Int) ≤ 18446744073709551616) (hd.take (k / 64))
  have h0 := vl_nonneg (by decide : (0 : Int) ≤ 18446744073709551616) (hd.take (k / 64))
  rw [List.length_take, Nat.min_eq_left (by omega)] at h1
  have hX : ws.getD (k / 64) 0 = ws[k / 64] := by simp [List.getD, hk]
  rw [← hX] at e1
  have hx := hd.getD (k / 64) hk
  generalize ws.getD (k / 64) 0 = X at *
  generalize vl 18446744073709551616 (List.drop (k / 64 + 1) ws) = rest at *
  generalize vl 18446744073709551616 (List.take (k / 64) ws) = low at *
  have ek : (2 : Int) ^ k = (2 ^ 64) ^ (k / 64) * 2 ^ (k % 64) := by
    rw [← Int.pow_mul, ← Int.pow_add]; congr 1; omega
  rw [hB] at h1 e1
  have hp : (0 : Int) < (2 ^ 64) ^ (k / 64) := Int.pow_pos (by decide)
  have e2 : vl 18446744073709551616 ws / 2 ^ k = (X + 2 ^ 64 * rest) / 2 ^ (k % 64) := by
    rw [hB, ek, ← Int.ediv_ediv_of_nonneg (Int.le_of_lt hp), e1, Int.add_mul_ediv_left _ _ (by omega), Int.ediv_eq_zero_of_lt h0 h1, Int.zero_add]
  rw [e2]
  obtain ⟨r, hr⟩ : ∃ r, k % 64 + (r + 1) = 64 := ⟨63 - k % 64, by omega⟩
  have e3 : (2 : Int) ^ 64 = 2 ^ (k % 64) * (2 ^ r * 2) := by
    rw [← Int.pow_succ, ← Int.pow_add]; congr 1; omega
  rw [e3, Int.mul_assoc, Int.add_mul_ediv_left _ _ (Int.ne_of_gt (Int.pow_pos (by decide)))]
  rw [Int.mul_assoc, Int.mul_left_comm, Int.add_mul_emod_self_left]

theorem mod_succ (N : Int) (k : Nat) : N % 2 ^ (k + 1) = N % 2 ^ k + 2 ^ k * (N / 2 ^ k % 2) := by
  have hp : (0 : Int) < 2 ^ k := Int.pow_pos (by decide)
  have h1 := Int.mul_ediv_add_emod N (2 ^ k)
  have h2 := Int.emod_nonneg N (Int.ne_of_gt hp)
  have h3 := Int.emod_lt_of_pos N hp
  have h4 : N / 2 ^ k = 2 * (N / 2 ^ k / 2) + N / 2 ^ k % 2 := (Int.mul_ediv_add_emod _ _).symm
  generalize hq : N / 2 ^ k / 2 = q at h4
  generalize hb : N / 2 ^ k % 2 = b at h4 ⊢
  have hb' : 0 ≤ b ∧ b < 2 := by omega
  rw [h4, Int.mul_add, ← Int.mul_assoc] at h1
  have h5 : 2 ^ k * b ≤ 2 ^ k * 1 := Int.mul_le_mul_of_nonneg_left (by omega) (Int.le_of_lt hp)
  have h6 : 0 ≤ 2 ^ k * b := Int.mul_nonneg (Int.le_of_lt hp) hb'.1
  rw [Int.pow_succ]
  have := (Int.ediv_emod_unique (a := N) (b := 2 ^ k * 2) (q := q) (r := N % 2 ^ k + 2 ^ k * b) (by omega)).2 ⟨by omega, by omega, by omega⟩
  exact this.2

theorem Wd.step {N R b : Int} {os : List Int} {m k : Nat} (h : Wd N os R m k) (_hm : m < 15) (hb : N / 2 ^ k % 2 = b) (hb' : 0 ≤ b ∧ b ≤ 1) : Wd N os (R + b * 2 ^ m) (m + 1) (k + 1) := by
  obtain ⟨h1, h2, h3, h4, h5⟩ := h
  have hp : (0 : Int) < 2 ^ m := Int.pow_pos (by decide)
  refine ⟨by omega, h2, ?_, ?_, ?_⟩
  · have := Int.mul_nonneg hb'.1 (Int.le_of_lt hp); omega
  · rw [Int.pow_succ]
    have : b * 2 ^ m ≤ 1 * 2 ^ m := Int.mul_le_mul_of_nonneg_right hb'.2 (Int.le_of_lt hp)
    omega
  · rw [mod_succ, ← h5, hb, Int.mul_add]
    have e : (2 : Int) ^ k = 32768 ^ os.length * 2 ^ m := by
      rw [h1, Int.pow_add, Int.pow_mul]; rfl
    rw [e, Int.mul_comm b, Int.mul_assoc]; omega

theorem Wd.full {N R : Int} {os : List Int} {k : Nat} (h : Wd N os R 15 k) : Wd N (os ++ [R]) 0 0 k := by
  obtain ⟨h1, h2, h3, h4, h5⟩ := h
  refine ⟨by simp; omega, h2.append (fun d hd => by simp at hd; subst hd; exact ⟨h3, by simpa using h4⟩), by omega, by simp, ?_⟩
  rw [vl_append, ← h5]; simp [vl]

theorem Wd.fin {N R : Int} {os : List Int} {m k : Nat} (h : Wd N os R m k) (hm : m < 15) (hN : 0 ≤ N) (hk : N < 2 ^ k) : Dg 32768 (os ++ [R]) ∧ vl 32768 (os ++ [R]) = N := by
  obtain ⟨h1, h2, h3, h4, h5⟩ := h
  have h6 : (2 : Int) ^ m ≤ 2 ^ 15 := pow_le_pow' (by decide) (by omega)
  rw [show (2 : Int) ^ 15 = 32768 by decide] at h6
  refine ⟨h2.append (fun d hd => by simp at hd; subst hd; exact ⟨h3, by omega⟩), ?_⟩
  rw [vl_append]; simp only [vl, Int.mul_zero, Int.add_zero]
  rw [h5, Int.emod_eq_of_lt hN hk]


set_option maxHeartbeats 2000000 in
theorem Words_any (g o n c : Nat) (ws : List Int) (w : World) (hw : Wds w g o n ws) (hn : n ≤ 4) (_hc : n ≤ c) :
    Calls Tryd.prog 26 #[.slice (some ⟨g, o, none⟩) n c] w fun e w' => ∃ v, e = .returned v ∧ IsBig w' v (vl 18446744073709551616 ws) ∧ IsGr w w' := by
  obtain ⟨i0, hi, hz0, hz1, hz2⟩ := info_parts info_int
  go_enter Tryd.func26, Tryd.ntmps26
  go_wp2
  go_loopw [3, 4, 5, 6] (fun t3 t4 t5 t6 wr => ∃ (k m : Nat) (os : List Int) (R : Int), k ≤ 64 * n ∧ t6 = .int .i64 k ∧ t5 = .int .i64 m ∧ t4 = .int .u64 R ∧ m < 15 ∧ wr.ownsRow (w.heap.size + 1) 3 1 t3 os.length (os.map (Value.int .i64)) ∧ Wd (vl 18446744073709551616 ws) os R m k ∧ os.length ≤ k ∧ 0 ≤ R ∧ R < 32768 ∧ Below (w.heap.size + 1) (w.alloc (.cells #[.bool false, .slice none 0 0] 29)) wr) (fun _ _ _ t6 _ => (64 * n - intOf t6).toNat)
  case atStart => exact ⟨0, 0, [], 0, by omega, rfl, rfl, rfl, by omega, World.ownsRow_nil _ _ _ _, ⟨rfl, fun d hd => by simp at hd, by omega, by simp, by simp [vl, Int.emod_one]⟩, by simp, by omega, by omega, Below.refl _ _⟩
  case round =>
    obtain ⟨k, m, os, R, hk, rfl, rfl, rfl, hm, hown, HW, hol, r0, r1, hb⟩ := hrel
    have hsz : w.heap.size + 1 ≤ wr.heap.size := by have := hb.size; simpa using this
    by_cases hlt : k < 64 * n
    · have hcell : wr.cell? ⟨g, o + k / 64, none⟩ = some (.int .u64 (ws.getD (k / 64) 0)) := (hb.cell (p := ⟨g, o + k / 64, none⟩) (by have := hw.2.1; show g < _; omega)).trans ((World.cell?_alloc_past _ _ _ hw.2.1).trans (hw.2.2.2 _ (by omega)))
      have hX := hw.2.2.1.getD (k / 64) (by have := hw.1; omega)
      have hbit := bit_of ws hw.2.2.1 k (by have := hw.1; omega)
      generalize ws.getD (k / 64) 0 = X at hcell hX hbit
      have hQ2 : (2 : Int) ^ m ≤ 16384 := by
        have := pow_le_pow' (by decide : (1 : Int) ≤ 2) (show m ≤ 14 by omega)
        rwa [show (2 : Int) ^ 14 = 16384 by decide] at this
      have hQ1 : (0 : Int) < 2 ^ m := Int.pow_pos (by decide)
      have hP1 : (0 : Int) < 2 ^ (k % 64) := Int.pow_pos (by decide)
      have hP2 : (2 : Int) ^ (k % 64) ≤ 9223372036854775808 := by
        have := pow_le_pow' (by decide : (1 : Int) ≤ 2) (show k % 64 ≤ 63 by omega)
        rwa [show (2 : Int) ^ 63 = 9223372036854775808 by decide] at this
      obtain ⟨P, hP, HP, p0, p1⟩ : ∃ P : Int, IntKind.u64.wrap (2 ^ (k % 64)) = P ∧ Hid (P = 2 ^ (k % 64)) ∧ 1 ≤ P ∧ P < 18446744073709551616 := ⟨_, rfl, by unfold Hid; rw [IntKind.wrap_u64]; omega, by rw [IntKind.wrap_u64]; omega, by rw [IntKind.wrap_u64]; omega⟩
      obtain ⟨Q, hQ, HQ, q0, q1⟩ : ∃ Q : Int, IntKind.u64.wrap (2 ^ m) = Q ∧ Hid (Q = 2 ^ m) ∧ 1 ≤ Q ∧ Q ≤ 16384 := ⟨_, rfl, by unfold Hid; rw [IntKind.wrap_u64]; omega, by rw [IntKind.wrap_u64]; omega, by rw [IntKind.wrap_u64]; omega⟩
      rw [← HP.out] at hbit
      have HBt : Hid (vl 18446744073709551616 ws / 2 ^ k % 2 = X / P % 2) := hbit.symm
      clear hbit hQ1 hQ2 hP1 hP2
      have kn : (k : Int) < 64 * (n : Int) := by omega
      obtain hx0 | hx1 : X / P % 2 = 0 ∨ X / P % 2 = 1 := by omega
      · skip
        have hst := HW.step hm (HBt.out.trans hx0) ⟨by omega, by omega⟩
        have htm : (X / P).tmod 2 = 0 := by rw [Int.tmod_eq_emod_of_nonneg (Int.ediv_nonneg hX.1 (by omega))]; exact hx0
        clear hx0
        rw [← HQ.out] at hst
        have e : R + 0 * Q = R := by omega
        rw [e] at hst
        have hRb : R < 32768 := by
          have := hst.2.2.2.1
          have h2 := pow_le_pow' (by decide : (1 : Int) ≤ 2) (show m + 1 ≤ 15 by omega)
          rw [show (2 : Int) ^ 15 = 32768 by decide] at h2
          omega
        have HST : Hid (Wd (vl 18446744073709551616 ws) os (R) (m + 1) (k + 1)) := hst
        clear hst e HW HBt
        by_cases hm15 : m = 14
        · subst hm15
          have hQ16 : Q = 16384 := by have := HQ.out; omega
          subst hQ16
          go_wp2
          go_region
          go_wp2_with (first | (at_builtin; refine wpList_append_own _ rfl _ _ 27 rfl (w.heap.size + 1) 3 i0 (.int .i64 0) 1 8 Tryd.underlying27 hi hz0 hz1 hz2 rfl (by decide) _ _ _ rfl (hown.drew.alloc _) ⟨wr.heap.size, 0, none⟩ 1 1 [.int .i64 (R)] rfl rfl (cell_one_new _ _ _) ?c2 ?c3 ?c4 ?c5 ?_) | go_in)
          case c2 => first | (intro u hu; simp at hu; subst hu; rfl) | rfl
          case c3 => unfold maxLen; omega
          case c4 => omega
          case c5 => simp; omega
          intro v' w1 hown' hgrow _
          have HN : Hid (os.map (Value.int .i64) ++ [.int .i64 (R)] = (os ++ [R]).map (Value.int .i64)) := by unfold Hid; simp
          have hb1 : Below (w.heap.size + 1) (w.alloc (.cells #[.bool false, .slice none 0 0] 29)) w1 := (hb.drew.alloc (by simp; omega) _).grown hgrow (by simp; omega) (fun j hj => (World.ownsRow.lt hown j hj).1)
          have hW2 := HST.out.full
          have HW2 : Hid (Wd (vl 18446744073709551616 ws) (os ++ [R]) 0 0 (k + 1)) := hW2
          clear hgrow hown hW2 HST
          go_wp2
          go_roundw
          case rel => exact ⟨k + 1, 0, os ++ [R], 0, by omega, by go_num, rfl, rfl, by omega, by rw [List.length_append, ← HN.out]; exact hown', HW2.out, by simp; omega, by omega, by omega, hb1⟩
          case measure => simp [intOf]; omega
        · have hq15 : (((m : Int) + 1) == 15) = false := by simp; omega
          go_wp2
          go_region
          go_wp2
          go_roundw
          case rel => exact ⟨k + 1, m + 1, os, R, by omega, by go_num, by go_num, rfl, by omega, hown.drew, HST.out, by omega, by omega, by omega, hb.drew⟩
          case measure => simp [intOf]; omega
      · skip
        have hst := HW.step hm (HBt.out.trans hx1) ⟨by omega, by omega⟩
        have htm : (X / P).tmod 2 = 1 := by rw [Int.tmod_eq_emod_of_nonneg (Int.ediv_nonneg hX.1 (by omega))]; exact hx1
        clear hx1
        rw [← HQ.out] at hst
        have e : R + 1 * Q = R + Q := by omega
        rw [e] at hst
        have hRb : R + Q < 32768 := by
          have := hst.2.2.2.1
          have h2 := pow_le_pow' (by decide : (1 : Int) ≤ 2) (show m + 1 ≤ 15 by omega)
          rw [show (2 : Int) ^ 15 = 32768 by decide] at h2
          omega
        have HST : Hid (Wd (vl 18446744073709551616 ws) os (R + Q) (m + 1) (k + 1)) := hst
        clear hst e HW HBt
        by_cases hm15 : m = 14
        · subst hm15
          have hQ16 : Q = 16384 := by have := HQ.out; omega
          subst hQ16
          go_wp2
          go_region
          go_wp2_with (first | (at_builtin; refine wpList_append_own _ rfl _ _ 27 rfl (w.heap.size + 1) 3 i0 (.int .i64 0) 1 8 Tryd.underlying27 hi hz0 hz1 hz2 rfl (by decide) _ _ _ rfl (hown.drew.alloc _) ⟨wr.heap.size, 0, none⟩ 1 1 [.int .i64 (R + 16384)] rfl rfl (cell_one_new _ _ _) ?c2 ?c3 ?c4 ?c5 ?_) | go_in)
          case c2 => first | (intro u hu; simp at hu; subst hu; rfl) | rfl
          case c3 => unfold maxLen; omega
          case c4 => omega
          case c5 => simp; omega
          intro v' w1 hown' hgrow _
          have HN : Hid (os.map (Value.int .i64) ++ [.int .i64 (R + 16384)] = (os ++ [R + 16384]).map (Value.int .i64)) := by unfold Hid; simp
          have hb1 : Below (w.heap.size + 1) (w.alloc (.cells #[.bool false, .slice none 0 0] 29)) w1 := (hb.drew.alloc (by simp; omega) _).grown hgrow (by simp; omega) (fun j hj => (World.ownsRow.lt hown j hj).1)
          have hW2 := HST.out.full
          have HW2 : Hid (Wd (vl 18446744073709551616 ws) (os ++ [R + 16384]) 0 0 (k + 1)) := hW2
          clear hgrow hown hW2 HST
          go_wp2
          go_roundw
          case rel => exact ⟨k + 1, 0, os ++ [R + 16384], 0, by omega, by go_num, rfl, rfl, by omega, by rw [List.length_append, ← HN.out]; exact hown', HW2.out, by simp; omega, by omega, by omega, hb1⟩
          case measure => simp [intOf]; omega
        · have hq15 : (((m : Int) + 1) == 15) = false := by simp; omega
          go_wp2
          go_region
          go_wp2
          go_roundw
          case rel => exact ⟨k + 1, m + 1, os, R + Q, by omega, by go_num, by go_num, rfl, by omega, hown.drew, HST.out, by omega, by omega, by omega, hb.drew⟩
          case measure => simp [intOf]; omega
    · obtain rfl : k = 64 * n := by omega
      have hN0 := vl_nonneg (by decide : (0 : Int) ≤ 18446744073709551616) hw.2.2.1
      have hN1 := vl_lt (by decide : (1 : Int) ≤ 18446744073709551616) hw.2.2.1
      have hf := HW.fin hm hN0 (by rw [hw.1] at hN1; rwa [Int.pow_mul, show (2 : Int) ^ 64 = 18446744073709551616 by decide])
      have HF : Hid (Dg 32768 (os ++ [R]) ∧ vl 32768 (os ++ [R]) = vl 18446744073709551616 ws) := hf
      clear hf hN0 hN1 HW
      go_wp2_with (first | (at_builtin; refine wpList_append_own _ rfl _ _ 27 rfl (w.heap.size + 1) 3 i0 (.int .i64 0) 1 8 Tryd.underlying27 hi hz0 hz1 hz2 rfl (by decide) _ _ _ rfl (hown.alloc _) ⟨wr.heap.size, 0, none⟩ 1 1 [.int .i64 (R)] rfl rfl (cell_one_new _ _ _) ?c2 ?c3 ?c4 ?c5 ?_) | fail)
      case c2 => first | (intro u hu; simp at hu; subst hu; rfl) | rfl
      case c3 => unfold maxLen; omega
      case c4 => omega
      case c5 => simp; omega
      intro v' w1 hown' hgrow _
      have HN : Hid (os.map (Value.int .i64) ++ [.int .i64 R] = (os ++ [R]).map (Value.int .i64)) := by unfold Hid; simp
      have hb1 : Below (w.heap.size + 1) (w.alloc (.cells #[.bool false, .slice none 0 0] 29)) w1 := (hb.alloc (by omega) _).grown hgrow (by simp; omega) (fun j hj => (World.ownsRow.lt hown j hj).1)
      have hO : Own w1 (w.heap.size + 1) v' (os ++ [R]) := by unfold Own; rw [← HN.out, List.length_append]; exact hown'
      have hg1 : IsGr (w.alloc (.cells #[.bool false, .slice none 0 0] 29)) w1 := IsGr.of_below (by simpa using hb1)
      obtain ⟨os1, d1, rfl⟩ := hg1
      obtain ⟨va, vc, rfl, hv1, hv2⟩ := hO.digs.open
      have hD := hO.digs
      clear hgrow hown hown' hb1 hO
      have CT := fun w2 (hg : IsGr (Gr (w.alloc (.cells #[.bool false, .slice none 0 0] 29)) os1 d1) w2) => trim_any false va (os ++ [R]).length vc (os ++ [R]) w2 (hD.gr hg) HF.out.1 (by simp; omega)
      rw [HF.out.2, show (os ++ [R]).length = os.length + 1 by simp, show sgn false (vl 18446744073709551616 ws) = vl 18446744073709551616 ws from rfl] at CT
      go_wp2_with fail
      refine (CT _ ?_).mono ?_
      exact (by with_reducible repeat (first | exact IsGr.refl _ | refine IsGr.gr ?_ _ _ | refine IsGr.alloc ?_ _ | refine IsGr.drew ?_ | refine IsGr.drewN ?_ _))
      rintro e w2 ⟨r, rfl, hr, os2, d2, rfl⟩
      obtain ⟨rs, ra, rn, rc, rfl⟩ := hr.shape
      go_wp2
      refine bodyPost_ret (v := .agg #[.bool rs, .slice ra rn rc]) (by simp [results, Tryd.results26, go_sem]) rfl ⟨_, rfl, ?_, (by with_reducible repeat (first | exact IsGr.refl _ | refine IsGr.gr ?_ _ _ | refine IsGr.alloc ?_ _ | refine IsGr.drew ?_ | refine IsGr.drewN ?_ _))⟩
      simp only [Gr.gr] at hr
      exact IsBig.ret hr

theorem vl4 {x0 x1 x2 x3 n : Int} (h : Is x0 x1 x2 x3 n) : vl 18446744073709551616 [x0, x1, x2, x3] = n ∧ Dg 18446744073709551616 [x0, x1, x2, x3] := by
  unfold Is at h
  refine ⟨by simp only [vl]; omega, fun d hd => by simp at hd; omega⟩

end Go.Proofs.YtfpifbfnebfdaaaDoor
