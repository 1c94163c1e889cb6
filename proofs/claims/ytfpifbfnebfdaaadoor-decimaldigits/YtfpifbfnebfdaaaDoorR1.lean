/- Slices of digits that lie in memory, and the sum of two sizes of package gromaref01. -/
import Derived.Test.YtfpifbfnebfdaaaDoorRows
import Derived.Test.YtfpifbfnebfdaaaDoorG1
import Derived.Test.YtfpifbfnebfdaaaDoorS0
import Derived.Test.YtfpifbfnebfdaaaDoorM3
import Derived.WalkSpells
import Derived.WalkLawsBesides
import Derived.Deep.RegionHeld3
import Derived.Deep.DeepCutAuto
namespace Go.Proofs.YtfpifbfnebfdaaaDoor
open Go.RowKit
attribute [local go_sem] Gr.size Gr.cell? Gr.frozen? Gr.setCell Gr.drew Gr.drewN Gr.of_drew Gr.of_drewN Gr.gr Gr.lt_of1 Gr.le_of1 Gr.lt_of2 Gr.le_of2 Gr.lt_of3 Gr.le_of3 Gr.lt_of4 Gr.le_of4 Gr.lt_of5 Gr.le_of5 Gr.lt_of6 Gr.le_of6 Gr.lt_of7 Gr.le_of7 Gr.lt_of8 Gr.le_of8


/-- The slice value v holds the digits ds in the world w. -/
def Digs (w : World) (v : Value) (ds : List Int) : Prop :=
  ∃ (a : Option Addr) (c : Nat), v = .slice a ds.length c ∧ ds.length ≤ c ∧ c ≤ maxLen ∧ (ds = [] ∨ ∃ g o, a = some ⟨g, o, none⟩ ∧ g < w.heap.size ∧ ∀ i, i < ds.length → w.cell? ⟨g, o + i, none⟩ = some (.int .i64 (ds.getD i 0)))
/-- v is a row of the call's own that holds the digits ds. -/
def Own (w : World) (B : Nat) (v : Value) (ds : List Int) : Prop := w.ownsRow B 3 1 v ds.length (ds.map (Value.int .i64))

theorem Digs.gr {w w' : World} {v : Value} {ds : List Int} (h : Digs w v ds) (hg : IsGr w w') : Digs w' v ds := by
  obtain ⟨a, c, h1, h2, h3, h4⟩ := h
  refine ⟨a, c, h1, h2, h3, ?_⟩
  rcases h4 with h4 | ⟨g, o, rfl, h5, h6⟩
  · exact Or.inl h4
  · exact Or.inr ⟨g, o, rfl, by have := hg.size; omega, fun i hi => (hg.below.cell (p := ⟨g, o + i, none⟩) h5).trans (h6 i hi)⟩
theorem Digs.nil (w : World) : Digs w (.slice none 0 0) [] := ⟨none, 0, rfl, by simp, by simp [maxLen], Or.inl rfl⟩

theorem Own.digs {w : World} {B : Nat} {v : Value} {ds : List Int} (h : Own w B v ds) : Digs w v ds := by
  have hc := @World.ownsRow.cells _ _ _ _ _ _ _ h
  obtain ⟨h1, h2⟩ := h
  rcases h2 with ⟨rfl, h3⟩ | ⟨g, cap, cur, rfl, h3, h4, h5, h6, h7⟩
  · have : ds = [] := List.length_eq_zero_iff.1 h3
    subst this; exact Digs.nil w
  · refine ⟨some ⟨g, 0, none⟩, cap, rfl, h5, h6, Or.inr ⟨g, 0, rfl, ?_, fun i hi => ?_⟩⟩
    · have := Array.getElem?_eq_some_iff.1 h4; exact this.1
    · have hci := hc (g := g) rfl i (.int .i64 (ds.getD i 0)) (by simp [hi, List.getD])
      have e : (⟨g, 0, none⟩ : Addr).add i = ⟨g, 0 + i, none⟩ := by unfold Addr.add; split <;> simp_all
      rw [← e]; exact hci

/-- What a slice of digits is, opened. -/
theorem Digs.open {w : World} {v : Value} {ds : List Int} (h : Digs w v ds) : ∃ a c, v = .slice a ds.length c ∧ ds.length ≤ c ∧ c ≤ maxLen := by
  obtain ⟨a, c, h1, h2, h3, _⟩ := h; exact ⟨a, c, h1, h2, h3⟩
theorem Digs.at {w : World} {a : Option Addr} {n c : Nat} {ds : List Int} (h : Digs w (.slice a n c) ds) {k : Nat} (hk : k < n) : n = ds.length ∧ ∃ g o, a = some ⟨g, o, none⟩ ∧ g < w.heap.size ∧ ∀ i, i < n → w.cell? ⟨g, o + i, none⟩ = some (.int .i64 (ds.getD i 0)) := by
  obtain ⟨a', c', h1, h2, h3, h4⟩ := h
  injection h1 with e1 e2 e3
  subst e1 e2 e3
  refine ⟨rfl, ?_⟩
  rcases h4 with rfl | h4
  · simp at hk
  · exact h4
theorem Digs.len {w : World} {a : Option Addr} {n c : Nat} {ds : List Int} (h : Digs w (.slice a n c) ds) : n = ds.length := by
  obtain ⟨a', c', h1, _⟩ := h
  injection h1

theorem Own.nil (w : World) (B : Nat) : Own w B (.slice none 0 0) [] := World.ownsRow_nil _ _ _ _
theorem Own.len {w : World} {B : Nat} {v : Value} {ds : List Int} (h : Own w B v ds) : ∃ a c, v = .slice a ds.length c := by
  obtain ⟨_, h2⟩ := h
  rcases h2 with ⟨rfl, h3⟩ | ⟨g, cap, cur, rfl, _⟩
  · exact ⟨none, 0, by rw [h3]⟩
  · exact ⟨_, _, rfl⟩
/-- Behind an append. -/
theorem Own.pushed {w1 : World} {B : Nat} {v : Value} {ds : List Int} {x : Int} (h : w1.ownsRow B 3 1 v (ds.length + 1) (ds.map (Value.int .i64) ++ [.int .i64 x])) : Own w1 B v (ds ++ [x]) := by
  unfold Own; simpa using h
theorem own_below {w wr w1 : World} {B : Nat} {v : Value} {o : Obj} {ds : List Int} (hb : Below B w wr) (hB : B ≤ wr.heap.size) (hown : Own wr B v ds) (hg : (wr.alloc o).grownBy w1 v.ownBlock) : Below B w w1 :=
  (hb.alloc hB o).grown hg (by simp; omega) (fun k hk => (World.ownsRow.lt hown k hk).1)

theorem more_step (k : Nat) (xs ys os : List Int) (C X Y : Int) (h : os.length = k ∧ Dg 32768 os ∧ vl 32768 os + 32768 ^ k * C = vl 32768 (xs.take k) + vl 32768 (ys.take k)) (_h0 : 0 ≤ C + X + Y)
    (ex : vl 32768 (xs.take (k + 1)) = vl 32768 (xs.take k) + 32768 ^ k * X) (ey : vl 32768 (ys.take (k + 1)) = vl 32768 (ys.take k) + 32768 ^ k * Y) :
    (os ++ [(C + X + Y) % 32768]).length = k + 1 ∧ Dg 32768 (os ++ [(C + X + Y) % 32768]) ∧ vl 32768 (os ++ [(C + X + Y) % 32768]) + 32768 ^ (k + 1) * ((C + X + Y) / 32768) = vl 32768 (xs.take (k + 1)) + vl 32768 (ys.take (k + 1)) := by
  obtain ⟨h1, h2, h3⟩ := h
  refine ⟨by simp [h1], h2.append (fun d hd => by simp at hd; omega), ?_⟩
  rw [vl_append, ex, ey, h1, Int.pow_succ]
  have e : C + X + Y = 32768 * ((C + X + Y) / 32768) + (C + X + Y) % 32768 := (Int.mul_ediv_add_emod _ _).symm
  simp only [vl, Int.mul_zero, Int.add_zero]
  have e2 : (32768 : Int) ^ k * (C + X + Y) = 32768 ^ k * ((C + X + Y) % 32768) + 32768 ^ k * 32768 * ((C + X + Y) / 32768) := by
    conv => lhs; rw [e]
    rw [Int.mul_add, Int.mul_assoc]; omega
  rw [Int.mul_add, Int.mul_add] at e2
  omega
theorem vl_take_ge (b : Int) (l : List Int) (k : Nat) (h : l.length ≤ k) : vl b (l.take (k + 1)) = vl b (l.take k) + b ^ k * 0 := by
  rw [List.take_of_length_le (by omega), List.take_of_length_le h]; simp


set_option maxHeartbeats 4000000 in
theorem more_any (a b : Option Addr) (na ca nb cb : Nat) (xs ys : List Int) (w : World) (hx : Digs w (.slice a na ca) xs) (hy : Digs w (.slice b nb cb) ys) (dx : Dg 32768 xs) (dy : Dg 32768 ys) (lx : na ≤ 100000) (ly : nb ≤ 100000) :
    Calls Tryd.prog 40 #[.slice a na ca, .slice b nb cb] w fun e w' => ∃ v zs, e = .returned v ∧ Digs w' v zs ∧ Dg 32768 zs ∧ zs.length ≤ na + nb + 1 ∧ vl 32768 zs = vl 32768 xs + vl 32768 ys ∧ IsGr w w' := by
  obtain ⟨i0, hi, hz0, hz1, hz2⟩ := info_parts info_int
  have ex := hx.len; have ey := hy.len
  have HX : Hid (na = xs.length ∧ nb = ys.length) := ⟨ex, ey⟩
  clear ex ey
  go_enter Tryd.func40, Tryd.ntmps40
  go_wp2
  go_loopw [5, 6, 7] (fun t5 t6 t7 wr => ∃ (k : Nat) (os : List Int) (C : Int), (k ≤ na ∨ k ≤ nb) ∧ t7 = .int .i64 k ∧ t6 = .int .i64 C ∧ 0 ≤ C ∧ C ≤ 1 ∧ wr.ownsRow w.heap.size 3 1 t5 k (os.map (Value.int .i64)) ∧ Hid (os.length = k ∧ Dg 32768 os ∧ vl 32768 os + 32768 ^ k * C = vl 32768 (xs.take k) + vl 32768 (ys.take k)) ∧ Below w.heap.size w wr) (fun _ _ t7 _ => (na + nb - intOf t7).toNat)
  case atStart => exact ⟨0, [], 0, Or.inl (by omega), rfl, rfl, by omega, by omega, World.ownsRow_nil _ _ _ _, ⟨rfl, fun d hd => by simp at hd, by simp [vl]⟩, Below.refl _ _⟩
  case round =>
    obtain ⟨k, os, C, hk, rfl, rfl, c0, c1, hown, HI, hb⟩ := hrel
    by_cases h1 : k < na
    · skip
      obtain ⟨-, g, o, rfl, hg, hcX⟩ := hx.at h1
      have hcX' : wr.cell? ⟨g, o + k, none⟩ = some (.int .i64 (xs.getD k 0)) := (hb.cell (p := ⟨g, o + k, none⟩) hg).trans (hcX k h1)
      have hX := dx.getD k (by have := HX.out; omega)
      have HEx := vl_take_succ 32768 xs k (by have := HX.out; omega)
      generalize xs.getD k 0 = X at hcX' hX HEx
      clear hcX
      by_cases h2 : k < nb
      · skip
        obtain ⟨-, g2, o2, rfl, hg2, hcY⟩ := hy.at h2
        have hcY' : wr.cell? ⟨g2, o2 + k, none⟩ = some (.int .i64 (ys.getD k 0)) := (hb.cell (p := ⟨g2, o2 + k, none⟩) hg2).trans (hcY k h2)
        have hY := dy.getD k (by have := HX.out; omega)
        have HEy := vl_take_succ 32768 ys k (by have := HX.out; omega)
        generalize ys.getD k 0 = Y at hcY' hY HEy
        clear hcY
        go_wp2_with (first | (at_builtin; refine wpList_append_own _ rfl _ _ 27 rfl w.heap.size 3 i0 (.int .i64 0) 1 8 Tryd.underlying27 hi hz0 hz1 hz2 rfl (by decide) _ _ _ rfl (hown.alloc _) ⟨wr.heap.size, 0, none⟩ 1 1 [.int .i64 ((C + X + Y) % 32768)] rfl rfl (cell_one_new _ _ _) ?c2 ?c3 ?c4 ?c5 ?_) | go_in)
        case c2 => intro u hu; simp at hu; subst hu; rfl
        case c3 => unfold maxLen; omega
        case c4 => omega
        case c5 => have := hb.size; simp; omega
        intro v' w1 hown' hgrow _
        have HN : Hid (os.map (Value.int .i64) ++ [.int .i64 ((C + X + Y) % 32768)] = (os ++ [(C + X + Y) % 32768]).map (Value.int .i64)) := by unfold Hid; simp
        have hstep := more_step k xs ys os C X Y HI.out (by omega) HEx HEy
        have HS : Hid _ := hstep
        have hb1 : Below w.heap.size w w1 := (hb.alloc (by have := hb.size; omega) _).grown hgrow (by have := hb.size; simp; omega) (fun j hj => (World.ownsRow.lt hown j hj).1)
        clear hgrow hown hstep HEx HEy
        go_wp2
        go_roundw
        case rel => exact ⟨k + 1, os ++ [(C + X + Y) % 32768], (C + X + Y) / 32768, by omega, by go_num, rfl, by omega, by omega, HN.out ▸ hown', HS.out, hb1⟩
        case measure => simp [intOf]; omega
      · skip
        go_wp2_with (first | (at_builtin; refine wpList_append_own _ rfl _ _ 27 rfl w.heap.size 3 i0 (.int .i64 0) 1 8 Tryd.underlying27 hi hz0 hz1 hz2 rfl (by decide) _ _ _ rfl (hown.alloc _) ⟨wr.heap.size, 0, none⟩ 1 1 [.int .i64 ((C + X) % 32768)] rfl rfl (cell_one_new _ _ _) ?c2 ?c3 ?c4 ?c5 ?_) | go_in)
        case c2 => intro u hu; simp at hu; subst hu; rfl
        case c3 => unfold maxLen; omega
        case c4 => omega
        case c5 => have := hb.size; simp; omega
        intro v' w1 hown' hgrow _
        have HN : Hid (os.map (Value.int .i64) ++ [.int .i64 ((C + X) % 32768)] = (os ++ [(C + X) % 32768]).map (Value.int .i64)) := by unfold Hid; simp
        have hstep := more_step k xs ys os C X 0 HI.out (by omega) HEx (vl_take_ge _ _ _ (by have := HX.out; omega))
        simp only [Int.add_zero] at hstep
        have HS : Hid _ := hstep
        have hb1 : Below w.heap.size w w1 := (hb.alloc (by have := hb.size; omega) _).grown hgrow (by have := hb.size; simp; omega) (fun j hj => (World.ownsRow.lt hown j hj).1)
        clear hgrow hown hstep HEx
        go_wp2
        go_roundw
        case rel => exact ⟨k + 1, os ++ [(C + X) % 32768], (C + X) / 32768, by omega, by go_num, rfl, by omega, by omega, HN.out ▸ hown', HS.out, hb1⟩
        case measure => simp [intOf]; omega
    · by_cases h2 : k < nb
      · skip
        obtain ⟨-, g2, o2, rfl, hg2, hcY⟩ := hy.at h2
        have hcY' : wr.cell? ⟨g2, o2 + k, none⟩ = some (.int .i64 (ys.getD k 0)) := (hb.cell (p := ⟨g2, o2 + k, none⟩) hg2).trans (hcY k h2)
        have hY := dy.getD k (by have := HX.out; omega)
        have HEy := vl_take_succ 32768 ys k (by have := HX.out; omega)
        generalize ys.getD k 0 = Y at hcY' hY HEy
        clear hcY
        go_wp2_with (first | (at_builtin; refine wpList_append_own _ rfl _ _ 27 rfl w.heap.size 3 i0 (.int .i64 0) 1 8 Tryd.underlying27 hi hz0 hz1 hz2 rfl (by decide) _ _ _ rfl (hown.alloc _) ⟨wr.heap.size, 0, none⟩ 1 1 [.int .i64 ((C + Y) % 32768)] rfl rfl (cell_one_new _ _ _) ?c2 ?c3 ?c4 ?c5 ?_) | go_in)
        case c2 => intro u hu; simp at hu; subst hu; rfl
        case c3 => unfold maxLen; omega
        case c4 => omega
        case c5 => have := hb.size; simp; omega
        intro v' w1 hown' hgrow _
        have HN : Hid (os.map (Value.int .i64) ++ [.int .i64 ((C + Y) % 32768)] = (os ++ [(C + Y) % 32768]).map (Value.int .i64)) := by unfold Hid; simp
        have hstep := more_step k xs ys os C 0 Y HI.out (by omega) (vl_take_ge _ _ _ (by have := HX.out; omega)) HEy
        simp only [Int.add_zero] at hstep
        have HS : Hid _ := hstep
        have hb1 : Below w.heap.size w w1 := (hb.alloc (by have := hb.size; omega) _).grown hgrow (by have := hb.size; simp; omega) (fun j hj => (World.ownsRow.lt hown j hj).1)
        clear hgrow hown hstep HEy
        go_wp2
        go_roundw
        case rel => exact ⟨k + 1, os ++ [(C + Y) % 32768], (C + Y) / 32768, by omega, by go_num, rfl, by omega, by omega, HN.out ▸ hown', HS.out, hb1⟩
        case measure => simp [intOf]; omega
      · go_wp2_with (first | (at_builtin; refine wpList_append_own _ rfl _ _ 27 rfl w.heap.size 3 i0 (.int .i64 0) 1 8 Tryd.underlying27 hi hz0 hz1 hz2 rfl (by decide) _ _ _ rfl (hown.alloc _) ⟨wr.heap.size, 0, none⟩ 1 1 [.int .i64 (C)] rfl rfl (cell_one_new _ _ _) ?c2 ?c3 ?c4 ?c5 ?_) | go_in)
        case c2 => intro u hu; simp at hu; subst hu; rfl
        case c3 => unfold maxLen; omega
        case c4 => omega
        case c5 => have := hb.size; simp; omega
        intro v' w1 hown' hgrow _
        have HN : Hid (os.map (Value.int .i64) ++ [.int .i64 C] = (os ++ [C]).map (Value.int .i64)) := by unfold Hid; simp
        have hb1 : Below w.heap.size w w1 := (hb.alloc (by have := hb.size; omega) _).grown hgrow (by have := hb.size; simp; omega) (fun j hj => (World.ownsRow.lt hown j hj).1)
        have hO : Own w1 w.heap.size v' (os ++ [C]) := by unfold Own; rw [← HN.out, List.length_append, HI.out.1]; exact hown'
        have HR : Hid (Dg 32768 (os ++ [C]) ∧ (os ++ [C]).length ≤ na + nb + 1 ∧ vl 32768 (os ++ [C]) = vl 32768 xs + vl 32768 ys) := by
          have h := HI.out; have hl := HX.out
          refine ⟨h.2.1.append (fun d hd => by simp at hd; omega), by simp; omega, ?_⟩
          rw [vl_append, h.1]; simp only [vl, Int.mul_zero, Int.add_zero]
          rw [h.2.2, List.take_of_length_le (by omega), List.take_of_length_le (by omega)]
        clear hgrow hown hown'
        go_wp2
        go_ret
        exact ⟨v', os ++ [C], rfl, hO.digs, HR.out.1, HR.out.2.1, HR.out.2.2, IsGr.of_below hb1⟩
end Go.Proofs.YtfpifbfnebfdaaaDoor
