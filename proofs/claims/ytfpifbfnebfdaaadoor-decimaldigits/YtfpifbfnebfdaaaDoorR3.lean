/- Differences of sizes of package gromaref01. -/
import Derived.Test.YtfpifbfnebfdaaaDoorR2
namespace Go.Proofs.YtfpifbfnebfdaaaDoor
open Go.RowKit
attribute [local go_sem] Gr.size Gr.cell? Gr.frozen? Gr.setCell Gr.drew Gr.drewN Gr.of_drew Gr.of_drewN Gr.gr Gr.lt_of1 Gr.le_of1 Gr.lt_of2 Gr.le_of2 Gr.lt_of3 Gr.le_of3 Gr.lt_of4 Gr.le_of4 Gr.lt_of5 Gr.le_of5 Gr.lt_of6 Gr.le_of6 Gr.lt_of7 Gr.le_of7 Gr.lt_of8 Gr.le_of8

/-- Behind k steps of a difference: os are the digits, C what is borrowed. -/
def Df (xs ys os : List Int) (k : Nat) (C : Int) : Prop := os.length = k ∧ Dg 32768 os ∧ vl 32768 os - 32768 ^ k * C = vl 32768 (xs.take k) - vl 32768 (ys.take k)

theorem Df.step {xs ys os : List Int} {k : Nat} {C X Y D C' : Int} (h : Df xs ys os k C)
    (ex : vl 32768 (xs.take (k + 1)) = vl 32768 (xs.take k) + 32768 ^ k * X) (ey : vl 32768 (ys.take (k + 1)) = vl 32768 (ys.take k) + 32768 ^ k * Y)
    (hd : 0 ≤ D ∧ D < 32768) (he : X - C - Y = D - 32768 * C') : Df xs ys (os ++ [D]) (k + 1) C' := by
  obtain ⟨h1, h2, h3⟩ := h
  refine ⟨by simp [h1], h2.append (fun d hd' => by simp at hd'; omega), ?_⟩
  rw [vl_append, ex, ey, h1, Int.pow_succ]
  simp only [vl, Int.mul_zero, Int.add_zero]
  have e2 : (32768 : Int) ^ k * (X - C - Y) = 32768 ^ k * D - 32768 ^ k * 32768 * C' := by
    rw [he, Int.mul_sub, Int.mul_assoc]
  rw [Int.mul_sub, Int.mul_sub] at e2
  omega

theorem Df.fin {xs ys os : List Int} {C : Int} (h : Df xs ys os xs.length C) (hl : ys.length ≤ xs.length) (hle : vl 32768 ys ≤ vl 32768 xs) (c0 : 0 ≤ C) (c1 : C ≤ 1) : vl 32768 os = vl 32768 xs - vl 32768 ys := by
  obtain ⟨h1, h2, h3⟩ := h
  rw [List.take_of_length_le (Nat.le_refl _), List.take_of_length_le hl] at h3
  have h4 := vl_lt (by decide : (1 : Int) ≤ 32768) h2
  rw [h1] at h4
  obtain rfl | rfl : C = 0 ∨ C = 1 := by omega
  · simpa using h3
  · rw [Int.mul_one] at h3; omega


set_option maxHeartbeats 4000000 in
theorem less_digits (a b : Option Addr) (na ca nb cb : Nat) (xs ys : List Int) (w : World) (hx : Digs w (.slice a na ca) xs) (hy : Digs w (.slice b nb cb) ys) (dx : Dg 32768 xs) (dy : Dg 32768 ys) (lx : na ≤ 100000) (ly : nb ≤ na) (hle : vl 32768 ys ≤ vl 32768 xs) :
    Calls Tryd.prog 41 #[.slice a na ca, .slice b nb cb] w fun e w' => ∃ v zs, e = .returned v ∧ Digs w' v zs ∧ Dg 32768 zs ∧ zs.length ≤ na ∧ vl 32768 zs = vl 32768 xs - vl 32768 ys ∧ IsGr w w' := by
  obtain ⟨i0, hi, hz0, hz1, hz2⟩ := info_parts info_int
  have HX : Hid (na = xs.length ∧ nb = ys.length) := ⟨hx.len, hy.len⟩
  go_enter Tryd.func41, Tryd.ntmps41
  go_wp2
  go_loopw [5, 6, 7] (fun t5 t6 t7 wr => ∃ (k : Nat) (os : List Int) (C : Int), k ≤ na ∧ t7 = .int .i64 k ∧ t6 = .int .i64 C ∧ 0 ≤ C ∧ C ≤ 1 ∧ wr.ownsRow w.heap.size 3 1 t5 k (os.map (Value.int .i64)) ∧ Df xs ys os k C ∧ Below w.heap.size w wr) (fun _ _ t7 _ => (na - intOf t7).toNat)
  case atStart => exact ⟨0, [], 0, by omega, rfl, rfl, by omega, by omega, World.ownsRow_nil _ _ _ _, ⟨rfl, fun d hd => by simp at hd, by simp [vl]⟩, Below.refl _ _⟩
  case round =>
    obtain ⟨k, os, C, hk, rfl, rfl, c0, c1, hown, HI, hb⟩ := hrel
    by_cases h1 : k < na
    · obtain ⟨-, g, o, rfl, hg, hc⟩ := hx.at h1
      have hcx : wr.cell? ⟨g, o + k, none⟩ = some (.int .i64 (xs.getD k 0)) := (hb.cell (p := ⟨g, o + k, none⟩) hg).trans (hc k h1)
      have hX := dx.getD k (by have := HX.out; omega)
      have HEx := vl_take_succ 32768 xs k (by have := HX.out; omega)
      generalize xs.getD k 0 = X at hcx hX HEx
      clear hc
      by_cases h2 : k < nb
      · obtain ⟨-, g2, o2, rfl, hg2, hc2⟩ := hy.at h2
        have hcy : wr.cell? ⟨g2, o2 + k, none⟩ = some (.int .i64 (ys.getD k 0)) := (hb.cell (p := ⟨g2, o2 + k, none⟩) hg2).trans (hc2 k h2)
        have hY := dy.getD k (by have := HX.out; omega)
        have HEy := vl_take_succ 32768 ys k (by have := HX.out; omega)
        generalize ys.getD k 0 = Y at hcy hY HEy
        clear hc2
        by_cases hn : X - C - Y < 0
        · skip
          have hstep : Df xs ys (os ++ [X - C - Y + 32768]) (k + 1) 1 := HI.step (Y := Y) HEx HEy (by omega) (by omega)
          clear HEx HEy HI
          go_wp2_with (first | (at_builtin; refine wpList_append_own _ rfl _ _ 27 rfl w.heap.size 3 i0 (.int .i64 0) 1 8 Tryd.underlying27 hi hz0 hz1 hz2 rfl (by decide) _ _ _ rfl (hown.alloc _) ⟨wr.heap.size, 0, none⟩ 1 1 [.int .i64 (X - C - Y + 32768)] rfl rfl (cell_one_new _ _ _) ?c2 ?c3 ?c4 ?c5 ?_) | go_in)
          case c2 => first | (intro u hu; simp at hu; subst hu; rfl) | rfl
          case c3 => unfold maxLen; omega
          case c4 => omega
          case c5 => have := hb.size; simp; omega
          intro v' w1 hown' hgrow _
          have HN : Hid (os.map (Value.int .i64) ++ [.int .i64 (X - C - Y + 32768)] = (os ++ [X - C - Y + 32768]).map (Value.int .i64)) := by unfold Hid; simp
          have hb1 : Below w.heap.size w w1 := (hb.alloc (by have := hb.size; omega) _).grown hgrow (by have := hb.size; simp; omega) (fun j hj => (World.ownsRow.lt hown j hj).1)
          clear hgrow hown
          go_wp2
          go_roundw
          case rel => exact ⟨k + 1, os ++ [X - C - Y + 32768], 1, by omega, by go_num, rfl, by omega, by omega, HN.out ▸ hown', hstep, hb1⟩
          case measure => simp [intOf]; omega
        · skip
          have hstep : Df xs ys (os ++ [X - C - Y]) (k + 1) 0 := HI.step (Y := Y) HEx HEy (by omega) (by omega)
          clear HEx HEy HI
          go_wp2_with (first | (at_builtin; refine wpList_append_own _ rfl _ _ 27 rfl w.heap.size 3 i0 (.int .i64 0) 1 8 Tryd.underlying27 hi hz0 hz1 hz2 rfl (by decide) _ _ _ rfl (hown.alloc _) ⟨wr.heap.size, 0, none⟩ 1 1 [.int .i64 (X - C - Y)] rfl rfl (cell_one_new _ _ _) ?c2 ?c3 ?c4 ?c5 ?_) | go_in)
          case c2 => first | (intro u hu; simp at hu; subst hu; rfl) | rfl
          case c3 => unfold maxLen; omega
          case c4 => omega
          case c5 => have := hb.size; simp; omega
          intro v' w1 hown' hgrow _
          have HN : Hid (os.map (Value.int .i64) ++ [.int .i64 (X - C - Y)] = (os ++ [X - C - Y]).map (Value.int .i64)) := by unfold Hid; simp
          have hb1 : Below w.heap.size w w1 := (hb.alloc (by have := hb.size; omega) _).grown hgrow (by have := hb.size; simp; omega) (fun j hj => (World.ownsRow.lt hown j hj).1)
          clear hgrow hown
          go_wp2
          go_roundw
          case rel => exact ⟨k + 1, os ++ [X - C - Y], 0, by omega, by go_num, rfl, by omega, by omega, HN.out ▸ hown', hstep, hb1⟩
          case measure => simp [intOf]; omega
      · by_cases hn : X - C < 0
        · skip
          have hstep : Df xs ys (os ++ [X - C + 32768]) (k + 1) 1 := HI.step (Y := 0) HEx (vl_take_ge _ _ _ (by have := HX.out; omega)) (by omega) (by omega)
          clear HEx HI
          go_wp2_with (first | (at_builtin; refine wpList_append_own _ rfl _ _ 27 rfl w.heap.size 3 i0 (.int .i64 0) 1 8 Tryd.underlying27 hi hz0 hz1 hz2 rfl (by decide) _ _ _ rfl (hown.alloc _) ⟨wr.heap.size, 0, none⟩ 1 1 [.int .i64 (X - C + 32768)] rfl rfl (cell_one_new _ _ _) ?c2 ?c3 ?c4 ?c5 ?_) | go_in)
          case c2 => first | (intro u hu; simp at hu; subst hu; rfl) | rfl
          case c3 => unfold maxLen; omega
          case c4 => omega
          case c5 => have := hb.size; simp; omega
          intro v' w1 hown' hgrow _
          have HN : Hid (os.map (Value.int .i64) ++ [.int .i64 (X - C + 32768)] = (os ++ [X - C + 32768]).map (Value.int .i64)) := by unfold Hid; simp
          have hb1 : Below w.heap.size w w1 := (hb.alloc (by have := hb.size; omega) _).grown hgrow (by have := hb.size; simp; omega) (fun j hj => (World.ownsRow.lt hown j hj).1)
          clear hgrow hown
          go_wp2
          go_roundw
          case rel => exact ⟨k + 1, os ++ [X - C + 32768], 1, by omega, by go_num, rfl, by omega, by omega, HN.out ▸ hown', hstep, hb1⟩
          case measure => simp [intOf]; omega
        · skip
          have hstep : Df xs ys (os ++ [X - C]) (k + 1) 0 := HI.step (Y := 0) HEx (vl_take_ge _ _ _ (by have := HX.out; omega)) (by omega) (by omega)
          clear HEx HI
          go_wp2_with (first | (at_builtin; refine wpList_append_own _ rfl _ _ 27 rfl w.heap.size 3 i0 (.int .i64 0) 1 8 Tryd.underlying27 hi hz0 hz1 hz2 rfl (by decide) _ _ _ rfl (hown.alloc _) ⟨wr.heap.size, 0, none⟩ 1 1 [.int .i64 (X - C)] rfl rfl (cell_one_new _ _ _) ?c2 ?c3 ?c4 ?c5 ?_) | go_in)
          case c2 => first | (intro u hu; simp at hu; subst hu; rfl) | rfl
          case c3 => unfold maxLen; omega
          case c4 => omega
          case c5 => have := hb.size; simp; omega
          intro v' w1 hown' hgrow _
          have HN : Hid (os.map (Value.int .i64) ++ [.int .i64 (X - C)] = (os ++ [X - C]).map (Value.int .i64)) := by unfold Hid; simp
          have hb1 : Below w.heap.size w w1 := (hb.alloc (by have := hb.size; omega) _).grown hgrow (by have := hb.size; simp; omega) (fun j hj => (World.ownsRow.lt hown j hj).1)
          clear hgrow hown
          go_wp2
          go_roundw
          case rel => exact ⟨k + 1, os ++ [X - C], 0, by omega, by go_num, rfl, by omega, by omega, HN.out ▸ hown', hstep, hb1⟩
          case measure => simp [intOf]; omega
    · obtain rfl : k = na := by omega
      have HR : Hid (vl 32768 os = vl 32768 xs - vl 32768 ys) := by
        have hl := HX.out
        rw [hl.1] at HI
        exact HI.fin (by omega) hle c0 c1
      have hO : Own wr w.heap.size u5 os := by unfold Own; rw [HI.1]; exact hown
      have HI2 : Hid (Dg 32768 os ∧ os.length = k) := ⟨HI.2.1, HI.1⟩
      clear HI
      go_wp2
      go_ret
      exact ⟨_, os, rfl, hO.digs, HI2.out.1, Nat.le_of_eq HI2.out.2, HR.out, IsGr.of_below hb⟩
end Go.Proofs.YtfpifbfnebfdaaaDoor
