/- gromalaw04.CrossSides: for every segment and every spot the law answers true. -/
import Derived.Test.YtohhlhoijanjfaaGD
import Derived.Test.YtohhlhoijanjfaaY2g
import Derived.Test.YtohhlhoijanjfaaY3g
namespace Go.Proofs.Ytohhlhoijanjfaa
open Go.RowKit Go.Shelf
attribute [local go_sem] Gr.size Gr.cell? Gr.frozen? Gr.setCell Gr.drew Gr.drewN Gr.of_drew Gr.of_drewN Gr.gr Gr.lt_of1 Gr.le_of1 Gr.lt_of2 Gr.le_of2 Gr.lt_of3 Gr.le_of3 Gr.lt_of4 Gr.le_of4 Gr.lt_of5 Gr.le_of5 Gr.lt_of6 Gr.le_of6 Gr.lt_of7 Gr.le_of7 Gr.lt_of8 Gr.le_of8 Gr.lt_of9 Gr.le_of9 Gr.lt_of10 Gr.le_of10 Gr.lt_of11 Gr.le_of11 Gr.lt_of12 Gr.le_of12 Gr.lt_of13 Gr.le_of13 Gr.lt_of14 Gr.le_of14 Gr.lt_of15 Gr.le_of15 Gr.lt_of16 Gr.le_of16 Gr.lt_of17 Gr.le_of17 Gr.lt_of18 Gr.le_of18 Gr.lt_of19 Gr.le_of19 Gr.lt_of20 Gr.le_of20 Gr.lt_of21 Gr.le_of21 Gr.lt_of22 Gr.le_of22 Gr.lt_of23 Gr.le_of23 Gr.lt_of24 Gr.le_of24

theorem sideS_swap (a1 a2 b1 b2 x y z : Int) : sideS b1 b2 a1 a2 x y z = -sideS a1 a2 b1 b2 x y z := by
  unfold sideS; grind
theorem cmpP_ahead (a1 a2 b1 b2 : Int) : aheadP b1 b2 a1 a2 = decide (0 < cmpP a1 a2 b1 b2) := by
  unfold aheadP
  rw [Bool.eq_iff_iff]
  simp
  rcases cmpP_cases a1 a2 b1 b2 with ⟨e, h⟩ | ⟨e, h⟩ | ⟨e, h⟩ <;> rw [e] <;> omega
theorem spotR_pt {a1 a2 : Int} (h : rightP a1 a2 = true) : spotR a1 a2 1 = true := by
  have := rightP_t h
  simp [spotR, withinI]
  omega
theorem spotC_D {x y z u v t : Int} (h : spotR x y z = true) (h' : spotR u v t = true) : spotC x y z u v t = spotD x y z u v t := by
  unfold spotC spotD
  rw [h, h']
  rfl
theorem holds_eq {a1 a2 b1 b2 l1 l2 h1 h2 x y z : Int} (H : Ends2 a1 a2 b1 b2 l1 l2 h1 h2) (r1 : segR a1 a2 b1 b2 = true) (r2 : spotR x y z = true) : holdsS l1 l2 h1 h2 x y z = holdsR a1 a2 b1 b2 x y z := by
  obtain ⟨rl, rh⟩ := H.right r1
  unfold holdsS holdsR
  rw [spotC_D (spotR_pt rl) r2, spotC_D r2 (spotR_pt rh), cmpP_ahead]
  rcases H with ⟨hc, rfl, rfl, rfl, rfl⟩ | ⟨hc, rfl, rfl, rfl, rfl⟩
  · rw [if_pos (by simpa using hc), sideS_swap]
    simp
  · rw [if_neg (by simpa using hc)]
theorem ahead_ends {a1 a2 b1 b2 l1 l2 h1 h2 : Int} (H : Ends2 a1 a2 b1 b2 l1 l2 h1 h2) : aheadP h1 h2 l1 l2 = false := by
  rw [cmpP_ahead]
  rcases H with ⟨hc, rfl, rfl, rfl, rfl⟩ | ⟨hc, rfl, rfl, rfl, rfl⟩
  · simp
    rcases cmpP_cases h1 h2 l1 l2 with ⟨e, h⟩ | ⟨e, h⟩ | ⟨e, h⟩ <;> rcases cmpP_cases l1 l2 h1 h2 with ⟨e', h'⟩ | ⟨e', h'⟩ | ⟨e', h'⟩ <;> omega
  · simpa using hc


/-- v points to a spot of package gromaref04: x / z, y / z. -/
def SpAt (w : World) (v : Value) (x y z : Int) : Prop := ∃ (g : Nat) (xs : Bool) (xa : Option Addr) (xn xc : Nat) (ys : Bool) (ya : Option Addr) (yn yc : Nat) (zs : Bool) (za : Option Addr) (zn zc : Nat), v = .pointer (some ⟨g, 0, none⟩) ∧ g < w.heap.size ∧ (w.cell? ⟨g, 0, none⟩ = some (.bool xs) ∧ w.cell? ⟨g, 1, none⟩ = some (.slice xa xn xc) ∧ w.cell? ⟨g, 2, none⟩ = some (.bool ys) ∧ w.cell? ⟨g, 3, none⟩ = some (.slice ya yn yc) ∧ w.cell? ⟨g, 4, none⟩ = some (.bool zs) ∧ w.cell? ⟨g, 5, none⟩ = some (.slice za zn zc)) ∧ IsSp w (.agg #[.bool xs, .slice xa xn xc, .bool ys, .slice ya yn yc, .bool zs, .slice za zn zc]) x y z

set_option maxRecDepth 20000 in set_option maxHeartbeats 4000000 in
theorem law_sides_no (a1 a2 b1 b2 x y z : Int) (fx : Fit x) (fy : Fit y) (fz : Fit z) (h : (segR a1 a2 b1 b2 && spotR x y z) = false) (w : World) :
    Calls Try.prog 6 #[.agg #[.int .i64 a1, .int .i64 a2, .int .i64 b1, .int .i64 b2], .agg #[.int .u64 (wd0 x), .int .u64 (wd1 x), .int .u64 (wd2 x), .int .u64 (wd3 x), .int .u64 (wd0 y), .int .u64 (wd1 y), .int .u64 (wd2 y), .int .u64 (wd3 y), .int .u64 (wd0 z), .int .u64 (wd1 z), .int .u64 (wd2 z), .int .u64 (wd3 z)]] w fun e w' => e = .returned (.bool true) ∧ IsGr w w' := by
  have CX := fun w => lspot_any x y z fx fy fz w
  have R1 := fun w => lright_any a1 a2 b1 b2 w
  have CS := fun w => Side_no a1 a2 b1 b2 x y z fx fy fz h w
  have CH := fun w => Holds_no a1 a2 b1 b2 x y z fx fy fz h w
  have CQ := fun w => SpRight_any x y z fx fy fz w
  have CA := fun w => awake4_any w
  generalize segR a1 a2 b1 b2 = A at *
  cases A
  · clear h
    go_enter Try.func6, Try.ntmps6
    go_upto_region 1 with fail
    go_cut [5] (fun t5 wr => SpAt wr t5 x y z ∧ (wr.cell? ⟨w.heap.size, 0, none⟩ = some (.int .i64 a1) ∧ wr.cell? ⟨w.heap.size, 1, none⟩ = some (.int .i64 a2) ∧ wr.cell? ⟨w.heap.size, 2, none⟩ = some (.int .i64 b1) ∧ wr.cell? ⟨w.heap.size, 3, none⟩ = some (.int .i64 b2)) ∧ (wr.cell? ⟨w.heap.size + 1, 0, none⟩ = some (.int .u64 (wd0 x)) ∧ wr.cell? ⟨w.heap.size + 1, 1, none⟩ = some (.int .u64 (wd1 x)) ∧ wr.cell? ⟨w.heap.size + 1, 2, none⟩ = some (.int .u64 (wd2 x)) ∧ wr.cell? ⟨w.heap.size + 1, 3, none⟩ = some (.int .u64 (wd3 x)) ∧ wr.cell? ⟨w.heap.size + 1, 4, none⟩ = some (.int .u64 (wd0 y)) ∧ wr.cell? ⟨w.heap.size + 1, 5, none⟩ = some (.int .u64 (wd1 y)) ∧ wr.cell? ⟨w.heap.size + 1, 6, none⟩ = some (.int .u64 (wd2 y)) ∧ wr.cell? ⟨w.heap.size + 1, 7, none⟩ = some (.int .u64 (wd3 y)) ∧ wr.cell? ⟨w.heap.size + 1, 8, none⟩ = some (.int .u64 (wd0 z)) ∧ wr.cell? ⟨w.heap.size + 1, 9, none⟩ = some (.int .u64 (wd1 z)) ∧ wr.cell? ⟨w.heap.size + 1, 10, none⟩ = some (.int .u64 (wd2 z)) ∧ wr.cell? ⟨w.heap.size + 1, 11, none⟩ = some (.int .u64 (wd3 z))) ∧ w.heap.size + 2 ≤ wr.heap.size ∧ IsGr w wr)
    case first =>
      go_wp2_with fail
      refine (CX _).mono ?_
      rintro e w1 ⟨v, rfl, hv, os1, dr1, rfl⟩
      obtain ⟨xs, xa, xn, xc, ys, ya, yn, yc, zs, za, zn, zc, rfl, hx, hy, hz⟩ := hv
      go_wp2
      go_meet
      case rel =>
        refine ⟨⟨_, xs, xa, xn, xc, ys, ya, yn, yc, zs, za, zn, zc, rfl, ?_, ?_, ⟨xs, xa, xn, xc, ys, ya, yn, yc, zs, za, zn, zc, rfl, hx.gr (by with_reducible repeat (first | exact IsGr.refl _ | refine IsGr.gr ?_ _ _ | refine IsGr.alloc ?_ _ | refine IsGr.drew ?_ | refine IsGr.drewN ?_ _)), hy.gr (by with_reducible repeat (first | exact IsGr.refl _ | refine IsGr.gr ?_ _ _ | refine IsGr.alloc ?_ _ | refine IsGr.drew ?_ | refine IsGr.drewN ?_ _)), hz.gr (by with_reducible repeat (first | exact IsGr.refl _ | refine IsGr.gr ?_ _ _ | refine IsGr.alloc ?_ _ | refine IsGr.drew ?_ | refine IsGr.drewN ?_ _))⟩⟩, ?_, ?_, ?_, (by with_reducible repeat (first | exact IsGr.refl _ | refine IsGr.gr ?_ _ _ | refine IsGr.alloc ?_ _ | refine IsGr.drew ?_ | refine IsGr.drewN ?_ _))⟩
        · first | omega | (simp; done) | (simp; omega) | (simp [Gr.size]; done) | (simp [Gr.size]; omega)
        · simp [go_sem]
        · simp [go_sem]
        · simp [go_sem]
        · first | omega | (simp; done) | (simp; omega) | (simp [Gr.size]; done) | (simp [Gr.size]; omega)
    case rest =>
      obtain ⟨⟨g5, xs, xa, xn, xc, ys, ya, yn, yc, zs, za, zn, zc, rfl, k5, q5, hsp⟩, qa, qx, ks, hgw⟩ := hcut
      obtain ⟨W1, hW9⟩ : ∃ W1, W1 = wc := ⟨_, rfl⟩
      subst hW9
      have HG : Hid (IsGr w W1) := hgw
      have CR := fun w1 (hg : IsGr W1 w1) => RSRight_any _ x y z w1 (hsp.gr hg) fx fy fz
      clear hgw CX
      generalize spotR x y z = B at *
      clear fx fy fz
      have ka : w.heap.size < W1.heap.size := by omega
      obtain ⟨x1, x2, x3, x4⟩ := qa
      obtain ⟨o0, o1, o2, o3, o4, o5⟩ := q5
      go_upto_region 2 with fail
      go_cut [17] (fun t17 wr => t17 = .bool true ∧ IsGr W1 wr)
      case first =>
        go_wp2_with fail
        refine (R1 _).mono ?_
        rintro e w1 ⟨rfl, os2, dr2, rfl⟩
        go_wp2
        go_meet
        case rel => exact ⟨by first | rfl | simp, (by with_reducible repeat (first | exact IsGr.refl _ | refine IsGr.gr ?_ _ _ | refine IsGr.alloc ?_ _ | refine IsGr.drew ?_ | refine IsGr.drewN ?_ _))⟩
      case rest =>
        obtain ⟨rfl, hgr⟩ := hcut
        obtain ⟨W2, hW9⟩ : ∃ W2, W2 = wc := ⟨_, rfl⟩
        subst hW9
        have qa : (W2.cell? ⟨w.heap.size, 0, none⟩ = some (.int .i64 a1) ∧ W2.cell? ⟨w.heap.size, 1, none⟩ = some (.int .i64 a2) ∧ W2.cell? ⟨w.heap.size, 2, none⟩ = some (.int .i64 b1) ∧ W2.cell? ⟨w.heap.size, 3, none⟩ = some (.int .i64 b2)) := ⟨hgr.cell_at ka x1, hgr.cell_at ka x2, hgr.cell_at ka x3, hgr.cell_at ka x4⟩
        have q5 : (W2.cell? ⟨g5, 0, none⟩ = some (.bool xs) ∧ W2.cell? ⟨g5, 1, none⟩ = some (.slice xa xn xc) ∧ W2.cell? ⟨g5, 2, none⟩ = some (.bool ys) ∧ W2.cell? ⟨g5, 3, none⟩ = some (.slice ya yn yc) ∧ W2.cell? ⟨g5, 4, none⟩ = some (.bool zs) ∧ W2.cell? ⟨g5, 5, none⟩ = some (.slice za zn zc)) := ⟨hgr.cell_at k5 o0, hgr.cell_at k5 o1, hgr.cell_at k5 o2, hgr.cell_at k5 o3, hgr.cell_at k5 o4, hgr.cell_at k5 o5⟩
        replace qx : (W2.cell? ⟨w.heap.size + 1, 0, none⟩ = some (.int .u64 (wd0 x)) ∧ W2.cell? ⟨w.heap.size + 1, 1, none⟩ = some (.int .u64 (wd1 x)) ∧ W2.cell? ⟨w.heap.size + 1, 2, none⟩ = some (.int .u64 (wd2 x)) ∧ W2.cell? ⟨w.heap.size + 1, 3, none⟩ = some (.int .u64 (wd3 x)) ∧ W2.cell? ⟨w.heap.size + 1, 4, none⟩ = some (.int .u64 (wd0 y)) ∧ W2.cell? ⟨w.heap.size + 1, 5, none⟩ = some (.int .u64 (wd1 y)) ∧ W2.cell? ⟨w.heap.size + 1, 6, none⟩ = some (.int .u64 (wd2 y)) ∧ W2.cell? ⟨w.heap.size + 1, 7, none⟩ = some (.int .u64 (wd3 y)) ∧ W2.cell? ⟨w.heap.size + 1, 8, none⟩ = some (.int .u64 (wd0 z)) ∧ W2.cell? ⟨w.heap.size + 1, 9, none⟩ = some (.int .u64 (wd1 z)) ∧ W2.cell? ⟨w.heap.size + 1, 10, none⟩ = some (.int .u64 (wd2 z)) ∧ W2.cell? ⟨w.heap.size + 1, 11, none⟩ = some (.int .u64 (wd3 z))) := ⟨hgr.cell_at (by omega) qx.1, hgr.cell_at (by omega) qx.2.1, hgr.cell_at (by omega) qx.2.2.1, hgr.cell_at (by omega) qx.2.2.2.1, hgr.cell_at (by omega) qx.2.2.2.2.1, hgr.cell_at (by omega) qx.2.2.2.2.2.1, hgr.cell_at (by omega) qx.2.2.2.2.2.2.1, hgr.cell_at (by omega) qx.2.2.2.2.2.2.2.1, hgr.cell_at (by omega) qx.2.2.2.2.2.2.2.2.1, hgr.cell_at (by omega) qx.2.2.2.2.2.2.2.2.2.1, hgr.cell_at (by omega) qx.2.2.2.2.2.2.2.2.2.2.1, hgr.cell_at (by omega) qx.2.2.2.2.2.2.2.2.2.2.2⟩
        have hsz := hgr.size
        replace HG : Hid (IsGr w W2) := HG.out.trans hgr
        replace CR := fun w1 (hg : IsGr W2 w1) => CR w1 (hgr.trans hg)
        replace hsp := hsp.gr hgr
        replace k5 : g5 < W2.heap.size := by omega
        replace ka : w.heap.size < W2.heap.size := by omega
        replace ks : w.heap.size + 2 ≤ W2.heap.size := by omega
        clear hgr hsz x1 x2 x3 x4 o0 o1 o2 o3 o4 o5 R1
        cases B
        · as_aux_lemma =>
            go_upto_region 3 with fail
            obtain ⟨C, hin, hcl, hcells, hgr⟩ : ∃ C : World → Prop, (∀ w', W2.heap.size ≤ w'.heap.size ∧ IsGr W2 w' ∧ (w'.cell? ⟨w.heap.size, 0, none⟩ = some (.int .i64 a1) ∧ w'.cell? ⟨w.heap.size, 1, none⟩ = some (.int .i64 a2) ∧ w'.cell? ⟨w.heap.size, 2, none⟩ = some (.int .i64 b1) ∧ w'.cell? ⟨w.heap.size, 3, none⟩ = some (.int .i64 b2)) ∧ (w'.cell? ⟨w.heap.size + 1, 0, none⟩ = some (.int .u64 (wd0 x)) ∧ w'.cell? ⟨w.heap.size + 1, 1, none⟩ = some (.int .u64 (wd1 x)) ∧ w'.cell? ⟨w.heap.size + 1, 2, none⟩ = some (.int .u64 (wd2 x)) ∧ w'.cell? ⟨w.heap.size + 1, 3, none⟩ = some (.int .u64 (wd3 x)) ∧ w'.cell? ⟨w.heap.size + 1, 4, none⟩ = some (.int .u64 (wd0 y)) ∧ w'.cell? ⟨w.heap.size + 1, 5, none⟩ = some (.int .u64 (wd1 y)) ∧ w'.cell? ⟨w.heap.size + 1, 6, none⟩ = some (.int .u64 (wd2 y)) ∧ w'.cell? ⟨w.heap.size + 1, 7, none⟩ = some (.int .u64 (wd3 y)) ∧ w'.cell? ⟨w.heap.size + 1, 8, none⟩ = some (.int .u64 (wd0 z)) ∧ w'.cell? ⟨w.heap.size + 1, 9, none⟩ = some (.int .u64 (wd1 z)) ∧ w'.cell? ⟨w.heap.size + 1, 10, none⟩ = some (.int .u64 (wd2 z)) ∧ w'.cell? ⟨w.heap.size + 1, 11, none⟩ = some (.int .u64 (wd3 z))) ∧ (w'.cell? ⟨g5, 0, none⟩ = some (.bool xs) ∧ w'.cell? ⟨g5, 1, none⟩ = some (.slice xa xn xc) ∧ w'.cell? ⟨g5, 2, none⟩ = some (.bool ys) ∧ w'.cell? ⟨g5, 3, none⟩ = some (.slice ya yn yc) ∧ w'.cell? ⟨g5, 4, none⟩ = some (.bool zs) ∧ w'.cell? ⟨g5, 5, none⟩ = some (.slice za zn zc)) → C w') ∧ (∀ u u', C u → IsGr u u' → C u') ∧ (∀ w', C w' → (w'.cell? ⟨w.heap.size, 0, none⟩ = some (.int .i64 a1) ∧ w'.cell? ⟨w.heap.size, 1, none⟩ = some (.int .i64 a2) ∧ w'.cell? ⟨w.heap.size, 2, none⟩ = some (.int .i64 b1) ∧ w'.cell? ⟨w.heap.size, 3, none⟩ = some (.int .i64 b2)) ∧ (w'.cell? ⟨w.heap.size + 1, 0, none⟩ = some (.int .u64 (wd0 x)) ∧ w'.cell? ⟨w.heap.size + 1, 1, none⟩ = some (.int .u64 (wd1 x)) ∧ w'.cell? ⟨w.heap.size + 1, 2, none⟩ = some (.int .u64 (wd2 x)) ∧ w'.cell? ⟨w.heap.size + 1, 3, none⟩ = some (.int .u64 (wd3 x)) ∧ w'.cell? ⟨w.heap.size + 1, 4, none⟩ = some (.int .u64 (wd0 y)) ∧ w'.cell? ⟨w.heap.size + 1, 5, none⟩ = some (.int .u64 (wd1 y)) ∧ w'.cell? ⟨w.heap.size + 1, 6, none⟩ = some (.int .u64 (wd2 y)) ∧ w'.cell? ⟨w.heap.size + 1, 7, none⟩ = some (.int .u64 (wd3 y)) ∧ w'.cell? ⟨w.heap.size + 1, 8, none⟩ = some (.int .u64 (wd0 z)) ∧ w'.cell? ⟨w.heap.size + 1, 9, none⟩ = some (.int .u64 (wd1 z)) ∧ w'.cell? ⟨w.heap.size + 1, 10, none⟩ = some (.int .u64 (wd2 z)) ∧ w'.cell? ⟨w.heap.size + 1, 11, none⟩ = some (.int .u64 (wd3 z))) ∧ (w'.cell? ⟨g5, 0, none⟩ = some (.bool xs) ∧ w'.cell? ⟨g5, 1, none⟩ = some (.slice xa xn xc) ∧ w'.cell? ⟨g5, 2, none⟩ = some (.bool ys) ∧ w'.cell? ⟨g5, 3, none⟩ = some (.slice ya yn yc) ∧ w'.cell? ⟨g5, 4, none⟩ = some (.bool zs) ∧ w'.cell? ⟨g5, 5, none⟩ = some (.slice za zn zc))) ∧ (∀ w', C w' → IsGr W2 w' ∧ W2.heap.size ≤ w'.heap.size) := by
              refine ⟨fun w' => W2.heap.size ≤ w'.heap.size ∧ IsGr W2 w' ∧ (w'.cell? ⟨w.heap.size, 0, none⟩ = some (.int .i64 a1) ∧ w'.cell? ⟨w.heap.size, 1, none⟩ = some (.int .i64 a2) ∧ w'.cell? ⟨w.heap.size, 2, none⟩ = some (.int .i64 b1) ∧ w'.cell? ⟨w.heap.size, 3, none⟩ = some (.int .i64 b2)) ∧ (w'.cell? ⟨w.heap.size + 1, 0, none⟩ = some (.int .u64 (wd0 x)) ∧ w'.cell? ⟨w.heap.size + 1, 1, none⟩ = some (.int .u64 (wd1 x)) ∧ w'.cell? ⟨w.heap.size + 1, 2, none⟩ = some (.int .u64 (wd2 x)) ∧ w'.cell? ⟨w.heap.size + 1, 3, none⟩ = some (.int .u64 (wd3 x)) ∧ w'.cell? ⟨w.heap.size + 1, 4, none⟩ = some (.int .u64 (wd0 y)) ∧ w'.cell? ⟨w.heap.size + 1, 5, none⟩ = some (.int .u64 (wd1 y)) ∧ w'.cell? ⟨w.heap.size + 1, 6, none⟩ = some (.int .u64 (wd2 y)) ∧ w'.cell? ⟨w.heap.size + 1, 7, none⟩ = some (.int .u64 (wd3 y)) ∧ w'.cell? ⟨w.heap.size + 1, 8, none⟩ = some (.int .u64 (wd0 z)) ∧ w'.cell? ⟨w.heap.size + 1, 9, none⟩ = some (.int .u64 (wd1 z)) ∧ w'.cell? ⟨w.heap.size + 1, 10, none⟩ = some (.int .u64 (wd2 z)) ∧ w'.cell? ⟨w.heap.size + 1, 11, none⟩ = some (.int .u64 (wd3 z))) ∧ (w'.cell? ⟨g5, 0, none⟩ = some (.bool xs) ∧ w'.cell? ⟨g5, 1, none⟩ = some (.slice xa xn xc) ∧ w'.cell? ⟨g5, 2, none⟩ = some (.bool ys) ∧ w'.cell? ⟨g5, 3, none⟩ = some (.slice ya yn yc) ∧ w'.cell? ⟨g5, 4, none⟩ = some (.bool zs) ∧ w'.cell? ⟨g5, 5, none⟩ = some (.slice za zn zc)), fun w' h => h, ?_, fun w' h => h.2.2, fun w' h => ⟨h.2.1, h.1⟩⟩
              rintro u u' ⟨h0, h1, h2⟩ hg
              refine ⟨Nat.le_trans h0 hg.size, h1.trans hg, ?_⟩
              exact ⟨⟨hg.cell_at (by omega) h2.1.1, hg.cell_at (by omega) h2.1.2.1, hg.cell_at (by omega) h2.1.2.2.1, hg.cell_at (by omega) h2.1.2.2.2⟩, ⟨hg.cell_at (by omega) h2.2.1.1, hg.cell_at (by omega) h2.2.1.2.1, hg.cell_at (by omega) h2.2.1.2.2.1, hg.cell_at (by omega) h2.2.1.2.2.2.1, hg.cell_at (by omega) h2.2.1.2.2.2.2.1, hg.cell_at (by omega) h2.2.1.2.2.2.2.2.1, hg.cell_at (by omega) h2.2.1.2.2.2.2.2.2.1, hg.cell_at (by omega) h2.2.1.2.2.2.2.2.2.2.1, hg.cell_at (by omega) h2.2.1.2.2.2.2.2.2.2.2.1, hg.cell_at (by omega) h2.2.1.2.2.2.2.2.2.2.2.2.1, hg.cell_at (by omega) h2.2.1.2.2.2.2.2.2.2.2.2.2.1, hg.cell_at (by omega) h2.2.1.2.2.2.2.2.2.2.2.2.2.2⟩, ⟨hg.cell_at (by omega) h2.2.2.1, hg.cell_at (by omega) h2.2.2.2.1, hg.cell_at (by omega) h2.2.2.2.2.1, hg.cell_at (by omega) h2.2.2.2.2.2.1, hg.cell_at (by omega) h2.2.2.2.2.2.2.1, hg.cell_at (by omega) h2.2.2.2.2.2.2.2⟩⟩
            refine wp_region_held_drew (S := C) (by kernel_rfl) (by (try dsimp only); exact hin _ ⟨by simp, (by with_reducible repeat (first | exact IsGr.refl _ | refine IsGr.gr ?_ _ _ | refine IsGr.alloc ?_ _ | refine IsGr.drew ?_ | refine IsGr.drewN ?_ _)), ⟨qa, qx, q5⟩⟩) (fun hHeld => ?_)
            refine wpAnyH_take (i := 0) (oi := { dst := some 18, op := Op.load 41 (Operand.tmp 2), type := 41, pos := "law.go:51", after := #[], guard := none }) (v := ?_) rfl (by kernel_rfl) (by kernel_rfl) (by kernel_rfl) (fun _ _ _ h => h) (Or.inl ⟨by rfl, ?_⟩) (by assumption) ?_
            rotate_left
            · (intro w hSw; (try dsimp only at hSw); (try have hcs := hcells w hSw); (try go_split_ands); go_simp <;> with_reducible rfl)
            (try simp only [Act.put, List.setIfInBounds_toArray, List.set_cons_zero, List.set_cons_succ])
            refine wpAnyH_take (i := 1) (oi := { dst := some 19, op := Op.load 46 (Operand.tmp 3), type := 46, pos := "law.go:51", after := #[], guard := none }) (v := ?_) rfl (by kernel_rfl) (by kernel_rfl) (by kernel_rfl) (fun _ _ _ h => h) (Or.inl ⟨by rfl, ?_⟩) (by assumption) ?_
            rotate_left
            · (intro w hSw; (try dsimp only at hSw); (try have hcs := hcells w hSw); (try go_split_ands); go_simp <;> with_reducible rfl)
            (try simp only [Act.put, List.setIfInBounds_toArray, List.set_cons_zero, List.set_cons_succ])
            refine wpAnyH_ready (rs := [2]) (by kernel_rfl) (by simp) ?_
            refine AllReadyH.cons (o := { dst := some 20, op := Op.call { callee := Callee.value (Operand.func 29), args := #[Operand.tmp 18, Operand.tmp 19], argTypes := #[41, 46] }, type := 3, pos := "law.go:51", after := #[{ on := 0, ground := Ground.data }, { on := 1, ground := Ground.data }], guard := none }) rfl (fun K hK => ?_) AllReadyH.nil
            go_simp
            refine (CS _).mono ?_
            rintro e w4 ⟨rfl, hg4⟩
            (try go_wp2_with fail)
            refine hK.out _ _ (by (try dsimp only); exact hcl _ _ hHeld (by first | with_reducible assumption | with_reducible exact IsGr.refl _ | with_reducible exact (IsGr.refl _).alloc _ | with_reducible exact ((IsGr.refl _).alloc _).alloc _ | assumption)) (fun hHeld2 => ?_)
            clear hK K hHeld
            have hHeld := hHeld2
            clear hHeld2
            (try simp only [Act.put, List.setIfInBounds_toArray, List.set_cons_zero, List.set_cons_succ])
            refine wpAnyH_take (i := 3) (oi := { dst := some 21, op := Op.binOp BinOp.eql 3 (Operand.tmp 20) (Operand.const (Value.int IntKind.i64 0)) 3, type := 4, pos := "law.go:51", after := #[{ on := 2, ground := Ground.data }], guard := none }) (v := ?_) rfl (by kernel_rfl) (by kernel_rfl) (by kernel_rfl) (fun _ _ _ h => h) (Or.inl ⟨by rfl, ?_⟩) (by assumption) ?_
            rotate_left
            · (intro w hSw; (try dsimp only at hSw); (try have hcs := hcells w hSw); (try go_split_ands); go_simp <;> with_reducible rfl)
            (try simp only [Act.put, List.setIfInBounds_toArray, List.set_cons_zero, List.set_cons_succ])
            refine wpAnyH_take (i := 4) (oi := { dst := some 22, op := Op.move (Operand.tmp 21), type := 4, pos := "law.go:51", after := #[{ on := 3, ground := Ground.data }, { on := 2, ground := Ground.chain }], guard := none }) (v := ?_) rfl (by kernel_rfl) (by kernel_rfl) (by kernel_rfl) (fun _ _ _ h => h) (Or.inl ⟨by rfl, ?_⟩) (by assumption) ?_
            rotate_left
            · (intro w hSw; (try dsimp only at hSw); (try have hcs := hcells w hSw); (try go_split_ands); go_simp <;> with_reducible rfl)
            (try simp only [Act.put, List.setIfInBounds_toArray, List.set_cons_zero, List.set_cons_succ])
            refine wpAnyH_take (i := 5) (oi := { dst := some 23, op := Op.load 41 (Operand.tmp 2), type := 41, pos := "law.go:51", after := #[{ on := 4, ground := Ground.guard }], guard := some (4, true) }) (v := ?_) rfl (by kernel_rfl) (by kernel_rfl) (by kernel_rfl) (fun _ _ _ h => h) (Or.inl ⟨by rfl, ?_⟩) (by assumption) ?_
            rotate_left
            · (intro w hSw; (try dsimp only at hSw); (try have hcs := hcells w hSw); (try go_split_ands); go_simp <;> with_reducible rfl)
            (try simp only [Act.put, List.setIfInBounds_toArray, List.set_cons_zero, List.set_cons_succ])
            refine wpAnyH_take (i := 6) (oi := { dst := some 24, op := Op.load 46 (Operand.tmp 3), type := 46, pos := "law.go:51", after := #[{ on := 4, ground := Ground.guard }], guard := some (4, true) }) (v := ?_) rfl (by kernel_rfl) (by kernel_rfl) (by kernel_rfl) (fun _ _ _ h => h) (Or.inl ⟨by rfl, ?_⟩) (by assumption) ?_
            rotate_left
            · (intro w hSw; (try dsimp only at hSw); (try have hcs := hcells w hSw); (try go_split_ands); go_simp <;> with_reducible rfl)
            (try simp only [Act.put, List.setIfInBounds_toArray, List.set_cons_zero, List.set_cons_succ])
            refine wpAnyH_ready (rs := [7]) (by kernel_rfl) (by simp) ?_
            refine AllReadyH.cons (o := { dst := some 25, op := Op.call { callee := Callee.value (Operand.func 30), args := #[Operand.tmp 23, Operand.tmp 24], argTypes := #[41, 46] }, type := 4, pos := "law.go:51", after := #[{ on := 5, ground := Ground.data }, { on := 6, ground := Ground.data }, { on := 4, ground := Ground.chain }, { on := 4, ground := Ground.guard }], guard := some (4, true) }) rfl (fun K hK => ?_) AllReadyH.nil
            go_simp
            refine (CH _).mono ?_
            rintro e w5 ⟨rfl, hg5⟩
            (try go_wp2_with fail)
            refine hK.out _ _ (by (try dsimp only); exact hcl _ _ hHeld (by first | with_reducible assumption | with_reducible exact IsGr.refl _ | with_reducible exact (IsGr.refl _).alloc _ | with_reducible exact ((IsGr.refl _).alloc _).alloc _ | assumption)) (fun hHeld2 => ?_)
            clear hK K hHeld
            have hHeld := hHeld2
            clear hHeld2
            (try simp only [Act.put, List.setIfInBounds_toArray, List.set_cons_zero, List.set_cons_succ])
            refine wpAnyH_take (i := 8) (oi := { dst := some 26, op := Op.unOp UnOp.not 4 (Operand.tmp 25), type := 4, pos := "law.go:51", after := #[{ on := 7, ground := Ground.data }, { on := 4, ground := Ground.guard }], guard := some (4, true) }) (v := ?_) rfl (by kernel_rfl) (by kernel_rfl) (by kernel_rfl) (fun _ _ _ h => h) (Or.inl ⟨by rfl, ?_⟩) (by assumption) ?_
            rotate_left
            · (intro w hSw; (try dsimp only at hSw); (try have hcs := hcells w hSw); (try go_split_ands); go_simp <;> with_reducible rfl)
            (try simp only [Act.put, List.setIfInBounds_toArray, List.set_cons_zero, List.set_cons_succ])
            refine wpAnyH_take (i := 9) (oi := { dst := some 27, op := Op.pick (Operand.tmp 22) (Operand.tmp 26) (Operand.const (Value.bool false)), type := 4, pos := "law.go:51", after := #[{ on := 4, ground := Ground.data }, { on := 8, ground := Ground.data }], guard := none }) (v := ?_) rfl (by kernel_rfl) (by kernel_rfl) (by kernel_rfl) (fun _ _ _ h => h) (Or.inl ⟨by rfl, ?_⟩) (by assumption) ?_
            rotate_left
            · (intro w hSw; (try dsimp only at hSw); (try have hcs := hcells w hSw); (try go_split_ands); go_simp <;> with_reducible rfl)
            (try simp only [Act.put, List.setIfInBounds_toArray, List.set_cons_zero, List.set_cons_succ])
            refine wpAnyH_take (i := 10) (oi := { dst := some 28, op := Op.move (Operand.tmp 27), type := 4, pos := "law.go:51", after := #[{ on := 9, ground := Ground.data }, { on := 7, ground := Ground.chain }], guard := none }) (v := ?_) rfl (by kernel_rfl) (by kernel_rfl) (by kernel_rfl) (fun _ _ _ h => h) (Or.inl ⟨by rfl, ?_⟩) (by assumption) ?_
            rotate_left
            · (intro w hSw; (try dsimp only at hSw); (try have hcs := hcells w hSw); (try go_split_ands); go_simp <;> with_reducible rfl)
            (try simp only [Act.put, List.setIfInBounds_toArray, List.set_cons_zero, List.set_cons_succ])
            refine wpAnyH_take (i := 11) (oi := { dst := some 29, op := Op.load 46 (Operand.tmp 3), type := 46, pos := "law.go:51", after := #[{ on := 10, ground := Ground.guard }], guard := some (10, true) }) (v := ?_) rfl (by kernel_rfl) (by kernel_rfl) (by kernel_rfl) (fun _ _ _ h => h) (Or.inl ⟨by rfl, ?_⟩) (by assumption) ?_
            rotate_left
            · (intro w hSw; (try dsimp only at hSw); (try have hcs := hcells w hSw); (try go_split_ands); go_simp <;> with_reducible rfl)
            (try simp only [Act.put, List.setIfInBounds_toArray, List.set_cons_zero, List.set_cons_succ])
            refine wpAnyH_take (i := 13) (oi := { dst := some 31, op := Op.load 55 (Operand.tmp 5), type := 55, pos := "law.go:51", after := #[{ on := 10, ground := Ground.guard }], guard := some (10, true) }) (v := ?_) rfl (by kernel_rfl) (by kernel_rfl) (by kernel_rfl) (fun _ _ _ h => h) (Or.inl ⟨by rfl, ?_⟩) (by assumption) ?_
            rotate_left
            · (intro w hSw; (try dsimp only at hSw); (try have hcs := hcells w hSw); (try go_split_ands); go_simp <;> with_reducible rfl)
            (try simp only [Act.put, List.setIfInBounds_toArray, List.set_cons_zero, List.set_cons_succ])
            refine wpAnyH_ready (rs := [12]) (by kernel_rfl) (by simp) ?_
            refine AllReadyH.cons (o := { dst := some 30, op := Op.call { callee := Callee.value (Operand.func 31), args := #[Operand.tmp 29], argTypes := #[46] }, type := 4, pos := "law.go:51", after := #[{ on := 11, ground := Ground.data }, { on := 10, ground := Ground.chain }, { on := 10, ground := Ground.guard }], guard := some (10, true) }) rfl (fun K hK => ?_) AllReadyH.nil
            go_simp
            refine (CQ _).mono ?_
            rintro e w6 ⟨rfl, hg6⟩
            (try go_wp2_with fail)
            refine hK.out _ _ (by (try dsimp only); exact hcl _ _ hHeld (by first | with_reducible assumption | with_reducible exact IsGr.refl _ | with_reducible exact (IsGr.refl _).alloc _ | with_reducible exact ((IsGr.refl _).alloc _).alloc _ | assumption)) (fun hHeld2 => ?_)
            clear hK K hHeld
            have hHeld := hHeld2
            clear hHeld2
            (try simp only [Act.put, List.setIfInBounds_toArray, List.set_cons_zero, List.set_cons_succ])
            refine wpAnyH_ready (rs := [14]) (by kernel_rfl) (by simp) ?_
            refine AllReadyH.cons (o := { dst := some 32, op := Op.call { callee := Callee.value (Operand.func 26), args := #[Operand.tmp 31], argTypes := #[55] }, type := 4, pos := "law.go:51", after := #[{ on := 13, ground := Ground.data }, { on := 12, ground := Ground.chain }, { on := 10, ground := Ground.guard }], guard := some (10, true) }) rfl (fun K hK => ?_) AllReadyH.nil
            go_simp
            refine (CR _ (hgr _ hHeld).1).mono ?_
            rintro e w7 ⟨rfl, hg7⟩
            (try go_wp2_with fail)
            refine hK.out _ _ (by (try dsimp only); exact hcl _ _ hHeld (by first | with_reducible assumption | with_reducible exact IsGr.refl _ | with_reducible exact (IsGr.refl _).alloc _ | with_reducible exact ((IsGr.refl _).alloc _).alloc _ | assumption)) (fun hHeld2 => ?_)
            clear hK K hHeld
            have hHeld := hHeld2
            clear hHeld2
            (try simp only [Act.put, List.setIfInBounds_toArray, List.set_cons_zero, List.set_cons_succ])
            refine wpAnyH_take (i := 15) (oi := { dst := some 33, op := Op.binOp BinOp.eql 4 (Operand.tmp 30) (Operand.tmp 32) 4, type := 4, pos := "law.go:51", after := #[{ on := 12, ground := Ground.data }, { on := 14, ground := Ground.data }, { on := 10, ground := Ground.guard }], guard := some (10, true) }) (v := ?_) rfl (by kernel_rfl) (by kernel_rfl) (by kernel_rfl) (fun _ _ _ h => h) (Or.inl ⟨by rfl, ?_⟩) (by assumption) ?_
            rotate_left
            · (intro w hSw; (try dsimp only at hSw); (try have hcs := hcells w hSw); (try go_split_ands); go_simp <;> with_reducible rfl)
            (try simp only [Act.put, List.setIfInBounds_toArray, List.set_cons_zero, List.set_cons_succ])
            refine wpAnyH_take (i := 16) (oi := { dst := some 34, op := Op.pick (Operand.tmp 28) (Operand.tmp 33) (Operand.const (Value.bool false)), type := 4, pos := "law.go:51", after := #[{ on := 10, ground := Ground.data }, { on := 15, ground := Ground.data }], guard := none }) (v := ?_) rfl (by kernel_rfl) (by kernel_rfl) (by kernel_rfl) (fun _ _ _ h => h) (Or.inl ⟨by rfl, ?_⟩) (by assumption) ?_
            rotate_left
            · (intro w hSw; (try dsimp only at hSw); (try have hcs := hcells w hSw); (try go_split_ands); go_simp <;> with_reducible rfl)
            (try simp only [Act.put, List.setIfInBounds_toArray, List.set_cons_zero, List.set_cons_succ])
            refine wpAnyH_take (i := 17) (oi := { dst := some 35, op := Op.move (Operand.tmp 34), type := 4, pos := "law.go:51", after := #[{ on := 16, ground := Ground.data }, { on := 14, ground := Ground.chain }], guard := none }) (v := ?_) rfl (by kernel_rfl) (by kernel_rfl) (by kernel_rfl) (fun _ _ _ h => h) (Or.inl ⟨by rfl, ?_⟩) (by assumption) ?_
            rotate_left
            · (intro w hSw; (try dsimp only at hSw); (try have hcs := hcells w hSw); (try go_split_ands); go_simp <;> with_reducible rfl)
            (try simp only [Act.put, List.setIfInBounds_toArray, List.set_cons_zero, List.set_cons_succ])
            refine wpAnyH_ready (rs := [18]) (by kernel_rfl) (by simp) ?_
            refine AllReadyH.cons (o := { dst := some 36, op := Op.call { callee := Callee.value (Operand.func 24), args := #[], argTypes := #[] }, type := 4, pos := "law.go:51", after := #[{ on := 17, ground := Ground.chain }, { on := 17, ground := Ground.guard }], guard := some (17, true) }) rfl (fun K hK => ?_) AllReadyH.nil
            go_simp
            refine (CA _).mono ?_
            rintro e w8 ⟨rfl, hg8⟩
            (try go_wp2_with fail)
            refine hK.out _ _ (by (try dsimp only); exact hcl _ _ hHeld (by first | with_reducible assumption | with_reducible exact IsGr.refl _ | with_reducible exact (IsGr.refl _).alloc _ | with_reducible exact ((IsGr.refl _).alloc _).alloc _ | assumption)) (fun hHeld2 => ?_)
            clear hK K hHeld
            have hHeld := hHeld2
            clear hHeld2
            (try simp only [Act.put, List.setIfInBounds_toArray, List.set_cons_zero, List.set_cons_succ])
            refine wpAnyH_take (i := 19) (oi := { dst := some 37, op := Op.pick (Operand.tmp 35) (Operand.tmp 36) (Operand.const (Value.bool false)), type := 4, pos := "law.go:51", after := #[{ on := 17, ground := Ground.data }, { on := 18, ground := Ground.data }], guard := none }) (v := ?_) rfl (by kernel_rfl) (by kernel_rfl) (by kernel_rfl) (fun _ _ _ h => h) (Or.inl ⟨by rfl, ?_⟩) (by assumption) ?_
            rotate_left
            · (intro w hSw; (try dsimp only at hSw); (try have hcs := hcells w hSw); (try go_split_ands); go_simp <;> with_reducible rfl)
            (try simp only [Act.put, List.setIfInBounds_toArray, List.set_cons_zero, List.set_cons_succ])
            refine wpAnyH_take (i := 20) (oi := { dst := some 4, op := Op.assign (Operand.tmp 37), type := 4, pos := "law.go:51", after := #[{ on := 19, ground := Ground.data }, { on := 18, ground := Ground.chain }, { on := 0, ground := Ground.phase }, { on := 1, ground := Ground.phase }, { on := 2, ground := Ground.phase }, { on := 3, ground := Ground.phase }, { on := 4, ground := Ground.phase }, { on := 5, ground := Ground.phase }, { on := 6, ground := Ground.phase }, { on := 7, ground := Ground.phase }, { on := 8, ground := Ground.phase }, { on := 9, ground := Ground.phase }, { on := 10, ground := Ground.phase }, { on := 11, ground := Ground.phase }, { on := 12, ground := Ground.phase }, { on := 13, ground := Ground.phase }, { on := 14, ground := Ground.phase }, { on := 15, ground := Ground.phase }, { on := 16, ground := Ground.phase }, { on := 17, ground := Ground.phase }, { on := 18, ground := Ground.phase }, { on := 19, ground := Ground.phase }], guard := none }) (v := ?_) rfl (by kernel_rfl) (by kernel_rfl) (by kernel_rfl) (fun _ _ _ h => h) (Or.inl ⟨by rfl, ?_⟩) (by assumption) ?_
            rotate_left
            · (intro w hSw; (try dsimp only at hSw); (try have hcs := hcells w hSw); (try go_split_ands); go_simp <;> with_reducible rfl)
            (try simp only [Act.put, List.setIfInBounds_toArray, List.set_cons_zero, List.set_cons_succ])
            refine wpAnyH_done (by kernel_rfl) ?_ _
            have hg := (hgr _ hHeld).1
            clear hcells hin hcl hgr hHeld
            go_wp2
            go_ret
            exact ⟨rfl, HG.out.trans hg⟩
        · as_aux_lemma =>
            go_upto_region 3 with fail
            obtain ⟨C, hin, hcl, hcells, hgr⟩ : ∃ C : World → Prop, (∀ w', W2.heap.size ≤ w'.heap.size ∧ IsGr W2 w' ∧ (w'.cell? ⟨w.heap.size, 0, none⟩ = some (.int .i64 a1) ∧ w'.cell? ⟨w.heap.size, 1, none⟩ = some (.int .i64 a2) ∧ w'.cell? ⟨w.heap.size, 2, none⟩ = some (.int .i64 b1) ∧ w'.cell? ⟨w.heap.size, 3, none⟩ = some (.int .i64 b2)) ∧ (w'.cell? ⟨w.heap.size + 1, 0, none⟩ = some (.int .u64 (wd0 x)) ∧ w'.cell? ⟨w.heap.size + 1, 1, none⟩ = some (.int .u64 (wd1 x)) ∧ w'.cell? ⟨w.heap.size + 1, 2, none⟩ = some (.int .u64 (wd2 x)) ∧ w'.cell? ⟨w.heap.size + 1, 3, none⟩ = some (.int .u64 (wd3 x)) ∧ w'.cell? ⟨w.heap.size + 1, 4, none⟩ = some (.int .u64 (wd0 y)) ∧ w'.cell? ⟨w.heap.size + 1, 5, none⟩ = some (.int .u64 (wd1 y)) ∧ w'.cell? ⟨w.heap.size + 1, 6, none⟩ = some (.int .u64 (wd2 y)) ∧ w'.cell? ⟨w.heap.size + 1, 7, none⟩ = some (.int .u64 (wd3 y)) ∧ w'.cell? ⟨w.heap.size + 1, 8, none⟩ = some (.int .u64 (wd0 z)) ∧ w'.cell? ⟨w.heap.size + 1, 9, none⟩ = some (.int .u64 (wd1 z)) ∧ w'.cell? ⟨w.heap.size + 1, 10, none⟩ = some (.int .u64 (wd2 z)) ∧ w'.cell? ⟨w.heap.size + 1, 11, none⟩ = some (.int .u64 (wd3 z))) ∧ (w'.cell? ⟨g5, 0, none⟩ = some (.bool xs) ∧ w'.cell? ⟨g5, 1, none⟩ = some (.slice xa xn xc) ∧ w'.cell? ⟨g5, 2, none⟩ = some (.bool ys) ∧ w'.cell? ⟨g5, 3, none⟩ = some (.slice ya yn yc) ∧ w'.cell? ⟨g5, 4, none⟩ = some (.bool zs) ∧ w'.cell? ⟨g5, 5, none⟩ = some (.slice za zn zc)) → C w') ∧ (∀ u u', C u → IsGr u u' → C u') ∧ (∀ w', C w' → (w'.cell? ⟨w.heap.size, 0, none⟩ = some (.int .i64 a1) ∧ w'.cell? ⟨w.heap.size, 1, none⟩ = some (.int .i64 a2) ∧ w'.cell? ⟨w.heap.size, 2, none⟩ = some (.int .i64 b1) ∧ w'.cell? ⟨w.heap.size, 3, none⟩ = some (.int .i64 b2)) ∧ (w'.cell? ⟨w.heap.size + 1, 0, none⟩ = some (.int .u64 (wd0 x)) ∧ w'.cell? ⟨w.heap.size + 1, 1, none⟩ = some (.int .u64 (wd1 x)) ∧ w'.cell? ⟨w.heap.size + 1, 2, none⟩ = some (.int .u64 (wd2 x)) ∧ w'.cell? ⟨w.heap.size + 1, 3, none⟩ = some (.int .u64 (wd3 x)) ∧ w'.cell? ⟨w.heap.size + 1, 4, none⟩ = some (.int .u64 (wd0 y)) ∧ w'.cell? ⟨w.heap.size + 1, 5, none⟩ = some (.int .u64 (wd1 y)) ∧ w'.cell? ⟨w.heap.size + 1, 6, none⟩ = some (.int .u64 (wd2 y)) ∧ w'.cell? ⟨w.heap.size + 1, 7, none⟩ = some (.int .u64 (wd3 y)) ∧ w'.cell? ⟨w.heap.size + 1, 8, none⟩ = some (.int .u64 (wd0 z)) ∧ w'.cell? ⟨w.heap.size + 1, 9, none⟩ = some (.int .u64 (wd1 z)) ∧ w'.cell? ⟨w.heap.size + 1, 10, none⟩ = some (.int .u64 (wd2 z)) ∧ w'.cell? ⟨w.heap.size + 1, 11, none⟩ = some (.int .u64 (wd3 z))) ∧ (w'.cell? ⟨g5, 0, none⟩ = some (.bool xs) ∧ w'.cell? ⟨g5, 1, none⟩ = some (.slice xa xn xc) ∧ w'.cell? ⟨g5, 2, none⟩ = some (.bool ys) ∧ w'.cell? ⟨g5, 3, none⟩ = some (.slice ya yn yc) ∧ w'.cell? ⟨g5, 4, none⟩ = some (.bool zs) ∧ w'.cell? ⟨g5, 5, none⟩ = some (.slice za zn zc))) ∧ (∀ w', C w' → IsGr W2 w' ∧ W2.heap.size ≤ w'.heap.size) := by
              refine ⟨fun w' => W2.heap.size ≤ w'.heap.size ∧ IsGr W2 w' ∧ (w'.cell? ⟨w.heap.size, 0, none⟩ = some (.int .i64 a1) ∧ w'.cell? ⟨w.heap.size, 1, none⟩ = some (.int .i64 a2) ∧ w'.cell? ⟨w.heap.size, 2, none⟩ = some (.int .i64 b1) ∧ w'.cell? ⟨w.heap.size, 3, none⟩ = some (.int .i64 b2)) ∧ (w'.cell? ⟨w.heap.size + 1, 0, none⟩ = some (.int .u64 (wd0 x)) ∧ w'.cell? ⟨w.heap.size + 1, 1, none⟩ = some (.int .u64 (wd1 x)) ∧ w'.cell? ⟨w.heap.size + 1, 2, none⟩ = some (.int .u64 (wd2 x)) ∧ w'.cell? ⟨w.heap.size + 1, 3, none⟩ = some (.int .u64 (wd3 x)) ∧ w'.cell? ⟨w.heap.size + 1, 4, none⟩ = some (.int .u64 (wd0 y)) ∧ w'.cell? ⟨w.heap.size + 1, 5, none⟩ = some (.int .u64 (wd1 y)) ∧ w'.cell? ⟨w.heap.size + 1, 6, none⟩ = some (.int .u64 (wd2 y)) ∧ w'.cell? ⟨w.heap.size + 1, 7, none⟩ = some (.int .u64 (wd3 y)) ∧ w'.cell? ⟨w.heap.size + 1, 8, none⟩ = some (.int .u64 (wd0 z)) ∧ w'.cell? ⟨w.heap.size + 1, 9, none⟩ = some (.int .u64 (wd1 z)) ∧ w'.cell? ⟨w.heap.size + 1, 10, none⟩ = some (.int .u64 (wd2 z)) ∧ w'.cell? ⟨w.heap.size + 1, 11, none⟩ = some (.int .u64 (wd3 z))) ∧ (w'.cell? ⟨g5, 0, none⟩ = some (.bool xs) ∧ w'.cell? ⟨g5, 1, none⟩ = some (.slice xa xn xc) ∧ w'.cell? ⟨g5, 2, none⟩ = some (.bool ys) ∧ w'.cell? ⟨g5, 3, none⟩ = some (.slice ya yn yc) ∧ w'.cell? ⟨g5, 4, none⟩ = some (.bool zs) ∧ w'.cell? ⟨g5, 5, none⟩ = some (.slice za zn zc)), fun w' h => h, ?_, fun w' h => h.2.2, fun w' h => ⟨h.2.1, h.1⟩⟩
              rintro u u' ⟨h0, h1, h2⟩ hg
              refine ⟨Nat.le_trans h0 hg.size, h1.trans hg, ?_⟩
              exact ⟨⟨hg.cell_at (by omega) h2.1.1, hg.cell_at (by omega) h2.1.2.1, hg.cell_at (by omega) h2.1.2.2.1, hg.cell_at (by omega) h2.1.2.2.2⟩, ⟨hg.cell_at (by omega) h2.2.1.1, hg.cell_at (by omega) h2.2.1.2.1, hg.cell_at (by omega) h2.2.1.2.2.1, hg.cell_at (by omega) h2.2.1.2.2.2.1, hg.cell_at (by omega) h2.2.1.2.2.2.2.1, hg.cell_at (by omega) h2.2.1.2.2.2.2.2.1, hg.cell_at (by omega) h2.2.1.2.2.2.2.2.2.1, hg.cell_at (by omega) h2.2.1.2.2.2.2.2.2.2.1, hg.cell_at (by omega) h2.2.1.2.2.2.2.2.2.2.2.1, hg.cell_at (by omega) h2.2.1.2.2.2.2.2.2.2.2.2.1, hg.cell_at (by omega) h2.2.1.2.2.2.2.2.2.2.2.2.2.1, hg.cell_at (by omega) h2.2.1.2.2.2.2.2.2.2.2.2.2.2⟩, ⟨hg.cell_at (by omega) h2.2.2.1, hg.cell_at (by omega) h2.2.2.2.1, hg.cell_at (by omega) h2.2.2.2.2.1, hg.cell_at (by omega) h2.2.2.2.2.2.1, hg.cell_at (by omega) h2.2.2.2.2.2.2.1, hg.cell_at (by omega) h2.2.2.2.2.2.2.2⟩⟩
            refine wp_region_held_drew (S := C) (by kernel_rfl) (by (try dsimp only); exact hin _ ⟨by simp, (by with_reducible repeat (first | exact IsGr.refl _ | refine IsGr.gr ?_ _ _ | refine IsGr.alloc ?_ _ | refine IsGr.drew ?_ | refine IsGr.drewN ?_ _)), ⟨qa, qx, q5⟩⟩) (fun hHeld => ?_)
            refine wpAnyH_take (i := 0) (oi := { dst := some 18, op := Op.load 41 (Operand.tmp 2), type := 41, pos := "law.go:51", after := #[], guard := none }) (v := ?_) rfl (by kernel_rfl) (by kernel_rfl) (by kernel_rfl) (fun _ _ _ h => h) (Or.inl ⟨by rfl, ?_⟩) (by assumption) ?_
            rotate_left
            · (intro w hSw; (try dsimp only at hSw); (try have hcs := hcells w hSw); (try go_split_ands); go_simp <;> with_reducible rfl)
            (try simp only [Act.put, List.setIfInBounds_toArray, List.set_cons_zero, List.set_cons_succ])
            refine wpAnyH_take (i := 1) (oi := { dst := some 19, op := Op.load 46 (Operand.tmp 3), type := 46, pos := "law.go:51", after := #[], guard := none }) (v := ?_) rfl (by kernel_rfl) (by kernel_rfl) (by kernel_rfl) (fun _ _ _ h => h) (Or.inl ⟨by rfl, ?_⟩) (by assumption) ?_
            rotate_left
            · (intro w hSw; (try dsimp only at hSw); (try have hcs := hcells w hSw); (try go_split_ands); go_simp <;> with_reducible rfl)
            (try simp only [Act.put, List.setIfInBounds_toArray, List.set_cons_zero, List.set_cons_succ])
            refine wpAnyH_ready (rs := [2]) (by kernel_rfl) (by simp) ?_
            refine AllReadyH.cons (o := { dst := some 20, op := Op.call { callee := Callee.value (Operand.func 29), args := #[Operand.tmp 18, Operand.tmp 19], argTypes := #[41, 46] }, type := 3, pos := "law.go:51", after := #[{ on := 0, ground := Ground.data }, { on := 1, ground := Ground.data }], guard := none }) rfl (fun K hK => ?_) AllReadyH.nil
            go_simp
            refine (CS _).mono ?_
            rintro e w4 ⟨rfl, hg4⟩
            (try go_wp2_with fail)
            refine hK.out _ _ (by (try dsimp only); exact hcl _ _ hHeld (by first | with_reducible assumption | with_reducible exact IsGr.refl _ | with_reducible exact (IsGr.refl _).alloc _ | with_reducible exact ((IsGr.refl _).alloc _).alloc _ | assumption)) (fun hHeld2 => ?_)
            clear hK K hHeld
            have hHeld := hHeld2
            clear hHeld2
            (try simp only [Act.put, List.setIfInBounds_toArray, List.set_cons_zero, List.set_cons_succ])
            refine wpAnyH_take (i := 3) (oi := { dst := some 21, op := Op.binOp BinOp.eql 3 (Operand.tmp 20) (Operand.const (Value.int IntKind.i64 0)) 3, type := 4, pos := "law.go:51", after := #[{ on := 2, ground := Ground.data }], guard := none }) (v := ?_) rfl (by kernel_rfl) (by kernel_rfl) (by kernel_rfl) (fun _ _ _ h => h) (Or.inl ⟨by rfl, ?_⟩) (by assumption) ?_
            rotate_left
            · (intro w hSw; (try dsimp only at hSw); (try have hcs := hcells w hSw); (try go_split_ands); go_simp <;> with_reducible rfl)
            (try simp only [Act.put, List.setIfInBounds_toArray, List.set_cons_zero, List.set_cons_succ])
            refine wpAnyH_take (i := 4) (oi := { dst := some 22, op := Op.move (Operand.tmp 21), type := 4, pos := "law.go:51", after := #[{ on := 3, ground := Ground.data }, { on := 2, ground := Ground.chain }], guard := none }) (v := ?_) rfl (by kernel_rfl) (by kernel_rfl) (by kernel_rfl) (fun _ _ _ h => h) (Or.inl ⟨by rfl, ?_⟩) (by assumption) ?_
            rotate_left
            · (intro w hSw; (try dsimp only at hSw); (try have hcs := hcells w hSw); (try go_split_ands); go_simp <;> with_reducible rfl)
            (try simp only [Act.put, List.setIfInBounds_toArray, List.set_cons_zero, List.set_cons_succ])
            refine wpAnyH_take (i := 5) (oi := { dst := some 23, op := Op.load 41 (Operand.tmp 2), type := 41, pos := "law.go:51", after := #[{ on := 4, ground := Ground.guard }], guard := some (4, true) }) (v := ?_) rfl (by kernel_rfl) (by kernel_rfl) (by kernel_rfl) (fun _ _ _ h => h) (Or.inl ⟨by rfl, ?_⟩) (by assumption) ?_
            rotate_left
            · (intro w hSw; (try dsimp only at hSw); (try have hcs := hcells w hSw); (try go_split_ands); go_simp <;> with_reducible rfl)
            (try simp only [Act.put, List.setIfInBounds_toArray, List.set_cons_zero, List.set_cons_succ])
            refine wpAnyH_take (i := 6) (oi := { dst := some 24, op := Op.load 46 (Operand.tmp 3), type := 46, pos := "law.go:51", after := #[{ on := 4, ground := Ground.guard }], guard := some (4, true) }) (v := ?_) rfl (by kernel_rfl) (by kernel_rfl) (by kernel_rfl) (fun _ _ _ h => h) (Or.inl ⟨by rfl, ?_⟩) (by assumption) ?_
            rotate_left
            · (intro w hSw; (try dsimp only at hSw); (try have hcs := hcells w hSw); (try go_split_ands); go_simp <;> with_reducible rfl)
            (try simp only [Act.put, List.setIfInBounds_toArray, List.set_cons_zero, List.set_cons_succ])
            refine wpAnyH_ready (rs := [7]) (by kernel_rfl) (by simp) ?_
            refine AllReadyH.cons (o := { dst := some 25, op := Op.call { callee := Callee.value (Operand.func 30), args := #[Operand.tmp 23, Operand.tmp 24], argTypes := #[41, 46] }, type := 4, pos := "law.go:51", after := #[{ on := 5, ground := Ground.data }, { on := 6, ground := Ground.data }, { on := 4, ground := Ground.chain }, { on := 4, ground := Ground.guard }], guard := some (4, true) }) rfl (fun K hK => ?_) AllReadyH.nil
            go_simp
            refine (CH _).mono ?_
            rintro e w5 ⟨rfl, hg5⟩
            (try go_wp2_with fail)
            refine hK.out _ _ (by (try dsimp only); exact hcl _ _ hHeld (by first | with_reducible assumption | with_reducible exact IsGr.refl _ | with_reducible exact (IsGr.refl _).alloc _ | with_reducible exact ((IsGr.refl _).alloc _).alloc _ | assumption)) (fun hHeld2 => ?_)
            clear hK K hHeld
            have hHeld := hHeld2
            clear hHeld2
            (try simp only [Act.put, List.setIfInBounds_toArray, List.set_cons_zero, List.set_cons_succ])
            refine wpAnyH_take (i := 8) (oi := { dst := some 26, op := Op.unOp UnOp.not 4 (Operand.tmp 25), type := 4, pos := "law.go:51", after := #[{ on := 7, ground := Ground.data }, { on := 4, ground := Ground.guard }], guard := some (4, true) }) (v := ?_) rfl (by kernel_rfl) (by kernel_rfl) (by kernel_rfl) (fun _ _ _ h => h) (Or.inl ⟨by rfl, ?_⟩) (by assumption) ?_
            rotate_left
            · (intro w hSw; (try dsimp only at hSw); (try have hcs := hcells w hSw); (try go_split_ands); go_simp <;> with_reducible rfl)
            (try simp only [Act.put, List.setIfInBounds_toArray, List.set_cons_zero, List.set_cons_succ])
            refine wpAnyH_take (i := 9) (oi := { dst := some 27, op := Op.pick (Operand.tmp 22) (Operand.tmp 26) (Operand.const (Value.bool false)), type := 4, pos := "law.go:51", after := #[{ on := 4, ground := Ground.data }, { on := 8, ground := Ground.data }], guard := none }) (v := ?_) rfl (by kernel_rfl) (by kernel_rfl) (by kernel_rfl) (fun _ _ _ h => h) (Or.inl ⟨by rfl, ?_⟩) (by assumption) ?_
            rotate_left
            · (intro w hSw; (try dsimp only at hSw); (try have hcs := hcells w hSw); (try go_split_ands); go_simp <;> with_reducible rfl)
            (try simp only [Act.put, List.setIfInBounds_toArray, List.set_cons_zero, List.set_cons_succ])
            refine wpAnyH_take (i := 10) (oi := { dst := some 28, op := Op.move (Operand.tmp 27), type := 4, pos := "law.go:51", after := #[{ on := 9, ground := Ground.data }, { on := 7, ground := Ground.chain }], guard := none }) (v := ?_) rfl (by kernel_rfl) (by kernel_rfl) (by kernel_rfl) (fun _ _ _ h => h) (Or.inl ⟨by rfl, ?_⟩) (by assumption) ?_
            rotate_left
            · (intro w hSw; (try dsimp only at hSw); (try have hcs := hcells w hSw); (try go_split_ands); go_simp <;> with_reducible rfl)
            (try simp only [Act.put, List.setIfInBounds_toArray, List.set_cons_zero, List.set_cons_succ])
            refine wpAnyH_take (i := 11) (oi := { dst := some 29, op := Op.load 46 (Operand.tmp 3), type := 46, pos := "law.go:51", after := #[{ on := 10, ground := Ground.guard }], guard := some (10, true) }) (v := ?_) rfl (by kernel_rfl) (by kernel_rfl) (by kernel_rfl) (fun _ _ _ h => h) (Or.inl ⟨by rfl, ?_⟩) (by assumption) ?_
            rotate_left
            · (intro w hSw; (try dsimp only at hSw); (try have hcs := hcells w hSw); (try go_split_ands); go_simp <;> with_reducible rfl)
            (try simp only [Act.put, List.setIfInBounds_toArray, List.set_cons_zero, List.set_cons_succ])
            refine wpAnyH_take (i := 13) (oi := { dst := some 31, op := Op.load 55 (Operand.tmp 5), type := 55, pos := "law.go:51", after := #[{ on := 10, ground := Ground.guard }], guard := some (10, true) }) (v := ?_) rfl (by kernel_rfl) (by kernel_rfl) (by kernel_rfl) (fun _ _ _ h => h) (Or.inl ⟨by rfl, ?_⟩) (by assumption) ?_
            rotate_left
            · (intro w hSw; (try dsimp only at hSw); (try have hcs := hcells w hSw); (try go_split_ands); go_simp <;> with_reducible rfl)
            (try simp only [Act.put, List.setIfInBounds_toArray, List.set_cons_zero, List.set_cons_succ])
            refine wpAnyH_ready (rs := [12]) (by kernel_rfl) (by simp) ?_
            refine AllReadyH.cons (o := { dst := some 30, op := Op.call { callee := Callee.value (Operand.func 31), args := #[Operand.tmp 29], argTypes := #[46] }, type := 4, pos := "law.go:51", after := #[{ on := 11, ground := Ground.data }, { on := 10, ground := Ground.chain }, { on := 10, ground := Ground.guard }], guard := some (10, true) }) rfl (fun K hK => ?_) AllReadyH.nil
            go_simp
            refine (CQ _).mono ?_
            rintro e w6 ⟨rfl, hg6⟩
            (try go_wp2_with fail)
            refine hK.out _ _ (by (try dsimp only); exact hcl _ _ hHeld (by first | with_reducible assumption | with_reducible exact IsGr.refl _ | with_reducible exact (IsGr.refl _).alloc _ | with_reducible exact ((IsGr.refl _).alloc _).alloc _ | assumption)) (fun hHeld2 => ?_)
            clear hK K hHeld
            have hHeld := hHeld2
            clear hHeld2
            (try simp only [Act.put, List.setIfInBounds_toArray, List.set_cons_zero, List.set_cons_succ])
            refine wpAnyH_ready (rs := [14]) (by kernel_rfl) (by simp) ?_
            refine AllReadyH.cons (o := { dst := some 32, op := Op.call { callee := Callee.value (Operand.func 26), args := #[Operand.tmp 31], argTypes := #[55] }, type := 4, pos := "law.go:51", after := #[{ on := 13, ground := Ground.data }, { on := 12, ground := Ground.chain }, { on := 10, ground := Ground.guard }], guard := some (10, true) }) rfl (fun K hK => ?_) AllReadyH.nil
            go_simp
            refine (CR _ (hgr _ hHeld).1).mono ?_
            rintro e w7 ⟨rfl, hg7⟩
            (try go_wp2_with fail)
            refine hK.out _ _ (by (try dsimp only); exact hcl _ _ hHeld (by first | with_reducible assumption | with_reducible exact IsGr.refl _ | with_reducible exact (IsGr.refl _).alloc _ | with_reducible exact ((IsGr.refl _).alloc _).alloc _ | assumption)) (fun hHeld2 => ?_)
            clear hK K hHeld
            have hHeld := hHeld2
            clear hHeld2
            (try simp only [Act.put, List.setIfInBounds_toArray, List.set_cons_zero, List.set_cons_succ])
            refine wpAnyH_take (i := 15) (oi := { dst := some 33, op := Op.binOp BinOp.eql 4 (Operand.tmp 30) (Operand.tmp 32) 4, type := 4, pos := "law.go:51", after := #[{ on := 12, ground := Ground.data }, { on := 14, ground := Ground.data }, { on := 10, ground := Ground.guard }], guard := some (10, true) }) (v := ?_) rfl (by kernel_rfl) (by kernel_rfl) (by kernel_rfl) (fun _ _ _ h => h) (Or.inl ⟨by rfl, ?_⟩) (by assumption) ?_
            rotate_left
            · (intro w hSw; (try dsimp only at hSw); (try have hcs := hcells w hSw); (try go_split_ands); go_simp <;> with_reducible rfl)
            (try simp only [Act.put, List.setIfInBounds_toArray, List.set_cons_zero, List.set_cons_succ])
            refine wpAnyH_take (i := 16) (oi := { dst := some 34, op := Op.pick (Operand.tmp 28) (Operand.tmp 33) (Operand.const (Value.bool false)), type := 4, pos := "law.go:51", after := #[{ on := 10, ground := Ground.data }, { on := 15, ground := Ground.data }], guard := none }) (v := ?_) rfl (by kernel_rfl) (by kernel_rfl) (by kernel_rfl) (fun _ _ _ h => h) (Or.inl ⟨by rfl, ?_⟩) (by assumption) ?_
            rotate_left
            · (intro w hSw; (try dsimp only at hSw); (try have hcs := hcells w hSw); (try go_split_ands); go_simp <;> with_reducible rfl)
            (try simp only [Act.put, List.setIfInBounds_toArray, List.set_cons_zero, List.set_cons_succ])
            refine wpAnyH_take (i := 17) (oi := { dst := some 35, op := Op.move (Operand.tmp 34), type := 4, pos := "law.go:51", after := #[{ on := 16, ground := Ground.data }, { on := 14, ground := Ground.chain }], guard := none }) (v := ?_) rfl (by kernel_rfl) (by kernel_rfl) (by kernel_rfl) (fun _ _ _ h => h) (Or.inl ⟨by rfl, ?_⟩) (by assumption) ?_
            rotate_left
            · (intro w hSw; (try dsimp only at hSw); (try have hcs := hcells w hSw); (try go_split_ands); go_simp <;> with_reducible rfl)
            (try simp only [Act.put, List.setIfInBounds_toArray, List.set_cons_zero, List.set_cons_succ])
            refine wpAnyH_ready (rs := [18]) (by kernel_rfl) (by simp) ?_
            refine AllReadyH.cons (o := { dst := some 36, op := Op.call { callee := Callee.value (Operand.func 24), args := #[], argTypes := #[] }, type := 4, pos := "law.go:51", after := #[{ on := 17, ground := Ground.chain }, { on := 17, ground := Ground.guard }], guard := some (17, true) }) rfl (fun K hK => ?_) AllReadyH.nil
            go_simp
            refine (CA _).mono ?_
            rintro e w8 ⟨rfl, hg8⟩
            (try go_wp2_with fail)
            refine hK.out _ _ (by (try dsimp only); exact hcl _ _ hHeld (by first | with_reducible assumption | with_reducible exact IsGr.refl _ | with_reducible exact (IsGr.refl _).alloc _ | with_reducible exact ((IsGr.refl _).alloc _).alloc _ | assumption)) (fun hHeld2 => ?_)
            clear hK K hHeld
            have hHeld := hHeld2
            clear hHeld2
            (try simp only [Act.put, List.setIfInBounds_toArray, List.set_cons_zero, List.set_cons_succ])
            refine wpAnyH_take (i := 19) (oi := { dst := some 37, op := Op.pick (Operand.tmp 35) (Operand.tmp 36) (Operand.const (Value.bool false)), type := 4, pos := "law.go:51", after := #[{ on := 17, ground := Ground.data }, { on := 18, ground := Ground.data }], guard := none }) (v := ?_) rfl (by kernel_rfl) (by kernel_rfl) (by kernel_rfl) (fun _ _ _ h => h) (Or.inl ⟨by rfl, ?_⟩) (by assumption) ?_
            rotate_left
            · (intro w hSw; (try dsimp only at hSw); (try have hcs := hcells w hSw); (try go_split_ands); go_simp <;> with_reducible rfl)
            (try simp only [Act.put, List.setIfInBounds_toArray, List.set_cons_zero, List.set_cons_succ])
            refine wpAnyH_take (i := 20) (oi := { dst := some 4, op := Op.assign (Operand.tmp 37), type := 4, pos := "law.go:51", after := #[{ on := 19, ground := Ground.data }, { on := 18, ground := Ground.chain }, { on := 0, ground := Ground.phase }, { on := 1, ground := Ground.phase }, { on := 2, ground := Ground.phase }, { on := 3, ground := Ground.phase }, { on := 4, ground := Ground.phase }, { on := 5, ground := Ground.phase }, { on := 6, ground := Ground.phase }, { on := 7, ground := Ground.phase }, { on := 8, ground := Ground.phase }, { on := 9, ground := Ground.phase }, { on := 10, ground := Ground.phase }, { on := 11, ground := Ground.phase }, { on := 12, ground := Ground.phase }, { on := 13, ground := Ground.phase }, { on := 14, ground := Ground.phase }, { on := 15, ground := Ground.phase }, { on := 16, ground := Ground.phase }, { on := 17, ground := Ground.phase }, { on := 18, ground := Ground.phase }, { on := 19, ground := Ground.phase }], guard := none }) (v := ?_) rfl (by kernel_rfl) (by kernel_rfl) (by kernel_rfl) (fun _ _ _ h => h) (Or.inl ⟨by rfl, ?_⟩) (by assumption) ?_
            rotate_left
            · (intro w hSw; (try dsimp only at hSw); (try have hcs := hcells w hSw); (try go_split_ands); go_simp <;> with_reducible rfl)
            (try simp only [Act.put, List.setIfInBounds_toArray, List.set_cons_zero, List.set_cons_succ])
            refine wpAnyH_done (by kernel_rfl) ?_ _
            have hg := (hgr _ hHeld).1
            clear hcells hin hcl hgr hHeld
            go_wp2
            go_ret
            exact ⟨rfl, HG.out.trans hg⟩
  · have hB : spotR x y z = false := by simpa using h
    clear h
    go_enter Try.func6, Try.ntmps6
    go_upto_region 1 with fail
    go_cut [5] (fun t5 wr => SpAt wr t5 x y z ∧ (wr.cell? ⟨w.heap.size, 0, none⟩ = some (.int .i64 a1) ∧ wr.cell? ⟨w.heap.size, 1, none⟩ = some (.int .i64 a2) ∧ wr.cell? ⟨w.heap.size, 2, none⟩ = some (.int .i64 b1) ∧ wr.cell? ⟨w.heap.size, 3, none⟩ = some (.int .i64 b2)) ∧ (wr.cell? ⟨w.heap.size + 1, 0, none⟩ = some (.int .u64 (wd0 x)) ∧ wr.cell? ⟨w.heap.size + 1, 1, none⟩ = some (.int .u64 (wd1 x)) ∧ wr.cell? ⟨w.heap.size + 1, 2, none⟩ = some (.int .u64 (wd2 x)) ∧ wr.cell? ⟨w.heap.size + 1, 3, none⟩ = some (.int .u64 (wd3 x)) ∧ wr.cell? ⟨w.heap.size + 1, 4, none⟩ = some (.int .u64 (wd0 y)) ∧ wr.cell? ⟨w.heap.size + 1, 5, none⟩ = some (.int .u64 (wd1 y)) ∧ wr.cell? ⟨w.heap.size + 1, 6, none⟩ = some (.int .u64 (wd2 y)) ∧ wr.cell? ⟨w.heap.size + 1, 7, none⟩ = some (.int .u64 (wd3 y)) ∧ wr.cell? ⟨w.heap.size + 1, 8, none⟩ = some (.int .u64 (wd0 z)) ∧ wr.cell? ⟨w.heap.size + 1, 9, none⟩ = some (.int .u64 (wd1 z)) ∧ wr.cell? ⟨w.heap.size + 1, 10, none⟩ = some (.int .u64 (wd2 z)) ∧ wr.cell? ⟨w.heap.size + 1, 11, none⟩ = some (.int .u64 (wd3 z))) ∧ w.heap.size + 2 ≤ wr.heap.size ∧ IsGr w wr)
    case first =>
      go_wp2_with fail
      refine (CX _).mono ?_
      rintro e w1 ⟨v, rfl, hv, os1, dr1, rfl⟩
      obtain ⟨xs, xa, xn, xc, ys, ya, yn, yc, zs, za, zn, zc, rfl, hx, hy, hz⟩ := hv
      go_wp2
      go_meet
      case rel =>
        refine ⟨⟨_, xs, xa, xn, xc, ys, ya, yn, yc, zs, za, zn, zc, rfl, ?_, ?_, ⟨xs, xa, xn, xc, ys, ya, yn, yc, zs, za, zn, zc, rfl, hx.gr (by with_reducible repeat (first | exact IsGr.refl _ | refine IsGr.gr ?_ _ _ | refine IsGr.alloc ?_ _ | refine IsGr.drew ?_ | refine IsGr.drewN ?_ _)), hy.gr (by with_reducible repeat (first | exact IsGr.refl _ | refine IsGr.gr ?_ _ _ | refine IsGr.alloc ?_ _ | refine IsGr.drew ?_ | refine IsGr.drewN ?_ _)), hz.gr (by with_reducible repeat (first | exact IsGr.refl _ | refine IsGr.gr ?_ _ _ | refine IsGr.alloc ?_ _ | refine IsGr.drew ?_ | refine IsGr.drewN ?_ _))⟩⟩, ?_, ?_, ?_, (by with_reducible repeat (first | exact IsGr.refl _ | refine IsGr.gr ?_ _ _ | refine IsGr.alloc ?_ _ | refine IsGr.drew ?_ | refine IsGr.drewN ?_ _))⟩
        · first | omega | (simp; done) | (simp; omega) | (simp [Gr.size]; done) | (simp [Gr.size]; omega)
        · simp [go_sem]
        · simp [go_sem]
        · simp [go_sem]
        · first | omega | (simp; done) | (simp; omega) | (simp [Gr.size]; done) | (simp [Gr.size]; omega)
    case rest =>
      obtain ⟨⟨g5, xs, xa, xn, xc, ys, ya, yn, yc, zs, za, zn, zc, rfl, k5, q5, hsp⟩, qa, qx, ks, hgw⟩ := hcut
      obtain ⟨W1, hW9⟩ : ∃ W1, W1 = wc := ⟨_, rfl⟩
      subst hW9
      have HG : Hid (IsGr w W1) := hgw
      have CR := fun w1 (hg : IsGr W1 w1) => RSRight_any _ x y z w1 (hsp.gr hg) fx fy fz
      clear hgw CX
      rw [hB] at CR CQ
      clear fx fy fz hB
      have ka : w.heap.size < W1.heap.size := by omega
      obtain ⟨x1, x2, x3, x4⟩ := qa
      obtain ⟨o0, o1, o2, o3, o4, o5⟩ := q5
      go_upto_region 2 with fail
      go_cut [17] (fun t17 wr => t17 = .bool true ∧ IsGr W1 wr)
      case first =>
        go_wp2_with fail
        refine (R1 _).mono ?_
        rintro e w1 ⟨rfl, os2, dr2, rfl⟩
        go_wp2_with fail
        refine (CR _ ?_).mono ?_
        · exact (by with_reducible repeat (first | exact IsGr.refl _ | refine IsGr.gr ?_ _ _ | refine IsGr.alloc ?_ _ | refine IsGr.drew ?_ | refine IsGr.drewN ?_ _))
        rintro e w1 ⟨rfl, os3, dr3, rfl⟩
        go_wp2
        go_meet
        case rel => exact ⟨by first | rfl | simp, (by with_reducible repeat (first | exact IsGr.refl _ | refine IsGr.gr ?_ _ _ | refine IsGr.alloc ?_ _ | refine IsGr.drew ?_ | refine IsGr.drewN ?_ _))⟩
      case rest =>
        obtain ⟨rfl, hgr⟩ := hcut
        obtain ⟨W2, hW9⟩ : ∃ W2, W2 = wc := ⟨_, rfl⟩
        subst hW9
        have qa : (W2.cell? ⟨w.heap.size, 0, none⟩ = some (.int .i64 a1) ∧ W2.cell? ⟨w.heap.size, 1, none⟩ = some (.int .i64 a2) ∧ W2.cell? ⟨w.heap.size, 2, none⟩ = some (.int .i64 b1) ∧ W2.cell? ⟨w.heap.size, 3, none⟩ = some (.int .i64 b2)) := ⟨hgr.cell_at ka x1, hgr.cell_at ka x2, hgr.cell_at ka x3, hgr.cell_at ka x4⟩
        have q5 : (W2.cell? ⟨g5, 0, none⟩ = some (.bool xs) ∧ W2.cell? ⟨g5, 1, none⟩ = some (.slice xa xn xc) ∧ W2.cell? ⟨g5, 2, none⟩ = some (.bool ys) ∧ W2.cell? ⟨g5, 3, none⟩ = some (.slice ya yn yc) ∧ W2.cell? ⟨g5, 4, none⟩ = some (.bool zs) ∧ W2.cell? ⟨g5, 5, none⟩ = some (.slice za zn zc)) := ⟨hgr.cell_at k5 o0, hgr.cell_at k5 o1, hgr.cell_at k5 o2, hgr.cell_at k5 o3, hgr.cell_at k5 o4, hgr.cell_at k5 o5⟩
        replace qx : (W2.cell? ⟨w.heap.size + 1, 0, none⟩ = some (.int .u64 (wd0 x)) ∧ W2.cell? ⟨w.heap.size + 1, 1, none⟩ = some (.int .u64 (wd1 x)) ∧ W2.cell? ⟨w.heap.size + 1, 2, none⟩ = some (.int .u64 (wd2 x)) ∧ W2.cell? ⟨w.heap.size + 1, 3, none⟩ = some (.int .u64 (wd3 x)) ∧ W2.cell? ⟨w.heap.size + 1, 4, none⟩ = some (.int .u64 (wd0 y)) ∧ W2.cell? ⟨w.heap.size + 1, 5, none⟩ = some (.int .u64 (wd1 y)) ∧ W2.cell? ⟨w.heap.size + 1, 6, none⟩ = some (.int .u64 (wd2 y)) ∧ W2.cell? ⟨w.heap.size + 1, 7, none⟩ = some (.int .u64 (wd3 y)) ∧ W2.cell? ⟨w.heap.size + 1, 8, none⟩ = some (.int .u64 (wd0 z)) ∧ W2.cell? ⟨w.heap.size + 1, 9, none⟩ = some (.int .u64 (wd1 z)) ∧ W2.cell? ⟨w.heap.size + 1, 10, none⟩ = some (.int .u64 (wd2 z)) ∧ W2.cell? ⟨w.heap.size + 1, 11, none⟩ = some (.int .u64 (wd3 z))) := ⟨hgr.cell_at (by omega) qx.1, hgr.cell_at (by omega) qx.2.1, hgr.cell_at (by omega) qx.2.2.1, hgr.cell_at (by omega) qx.2.2.2.1, hgr.cell_at (by omega) qx.2.2.2.2.1, hgr.cell_at (by omega) qx.2.2.2.2.2.1, hgr.cell_at (by omega) qx.2.2.2.2.2.2.1, hgr.cell_at (by omega) qx.2.2.2.2.2.2.2.1, hgr.cell_at (by omega) qx.2.2.2.2.2.2.2.2.1, hgr.cell_at (by omega) qx.2.2.2.2.2.2.2.2.2.1, hgr.cell_at (by omega) qx.2.2.2.2.2.2.2.2.2.2.1, hgr.cell_at (by omega) qx.2.2.2.2.2.2.2.2.2.2.2⟩
        have hsz := hgr.size
        replace HG : Hid (IsGr w W2) := HG.out.trans hgr
        replace CR := fun w1 (hg : IsGr W2 w1) => CR w1 (hgr.trans hg)
        replace hsp := hsp.gr hgr
        replace k5 : g5 < W2.heap.size := by omega
        replace ka : w.heap.size < W2.heap.size := by omega
        replace ks : w.heap.size + 2 ≤ W2.heap.size := by omega
        clear hgr hsz x1 x2 x3 x4 o0 o1 o2 o3 o4 o5 R1
        go_upto_region 3 with fail
        obtain ⟨C, hin, hcl, hcells, hgr⟩ : ∃ C : World → Prop, (∀ w', W2.heap.size ≤ w'.heap.size ∧ IsGr W2 w' ∧ (w'.cell? ⟨w.heap.size, 0, none⟩ = some (.int .i64 a1) ∧ w'.cell? ⟨w.heap.size, 1, none⟩ = some (.int .i64 a2) ∧ w'.cell? ⟨w.heap.size, 2, none⟩ = some (.int .i64 b1) ∧ w'.cell? ⟨w.heap.size, 3, none⟩ = some (.int .i64 b2)) ∧ (w'.cell? ⟨w.heap.size + 1, 0, none⟩ = some (.int .u64 (wd0 x)) ∧ w'.cell? ⟨w.heap.size + 1, 1, none⟩ = some (.int .u64 (wd1 x)) ∧ w'.cell? ⟨w.heap.size + 1, 2, none⟩ = some (.int .u64 (wd2 x)) ∧ w'.cell? ⟨w.heap.size + 1, 3, none⟩ = some (.int .u64 (wd3 x)) ∧ w'.cell? ⟨w.heap.size + 1, 4, none⟩ = some (.int .u64 (wd0 y)) ∧ w'.cell? ⟨w.heap.size + 1, 5, none⟩ = some (.int .u64 (wd1 y)) ∧ w'.cell? ⟨w.heap.size + 1, 6, none⟩ = some (.int .u64 (wd2 y)) ∧ w'.cell? ⟨w.heap.size + 1, 7, none⟩ = some (.int .u64 (wd3 y)) ∧ w'.cell? ⟨w.heap.size + 1, 8, none⟩ = some (.int .u64 (wd0 z)) ∧ w'.cell? ⟨w.heap.size + 1, 9, none⟩ = some (.int .u64 (wd1 z)) ∧ w'.cell? ⟨w.heap.size + 1, 10, none⟩ = some (.int .u64 (wd2 z)) ∧ w'.cell? ⟨w.heap.size + 1, 11, none⟩ = some (.int .u64 (wd3 z))) ∧ (w'.cell? ⟨g5, 0, none⟩ = some (.bool xs) ∧ w'.cell? ⟨g5, 1, none⟩ = some (.slice xa xn xc) ∧ w'.cell? ⟨g5, 2, none⟩ = some (.bool ys) ∧ w'.cell? ⟨g5, 3, none⟩ = some (.slice ya yn yc) ∧ w'.cell? ⟨g5, 4, none⟩ = some (.bool zs) ∧ w'.cell? ⟨g5, 5, none⟩ = some (.slice za zn zc)) → C w') ∧ (∀ u u', C u → IsGr u u' → C u') ∧ (∀ w', C w' → (w'.cell? ⟨w.heap.size, 0, none⟩ = some (.int .i64 a1) ∧ w'.cell? ⟨w.heap.size, 1, none⟩ = some (.int .i64 a2) ∧ w'.cell? ⟨w.heap.size, 2, none⟩ = some (.int .i64 b1) ∧ w'.cell? ⟨w.heap.size, 3, none⟩ = some (.int .i64 b2)) ∧ (w'.cell? ⟨w.heap.size + 1, 0, none⟩ = some (.int .u64 (wd0 x)) ∧ w'.cell? ⟨w.heap.size + 1, 1, none⟩ = some (.int .u64 (wd1 x)) ∧ w'.cell? ⟨w.heap.size + 1, 2, none⟩ = some (.int .u64 (wd2 x)) ∧ w'.cell? ⟨w.heap.size + 1, 3, none⟩ = some (.int .u64 (wd3 x)) ∧ w'.cell? ⟨w.heap.size + 1, 4, none⟩ = some (.int .u64 (wd0 y)) ∧ w'.cell? ⟨w.heap.size + 1, 5, none⟩ = some (.int .u64 (wd1 y)) ∧ w'.cell? ⟨w.heap.size + 1, 6, none⟩ = some (.int .u64 (wd2 y)) ∧ w'.cell? ⟨w.heap.size + 1, 7, none⟩ = some (.int .u64 (wd3 y)) ∧ w'.cell? ⟨w.heap.size + 1, 8, none⟩ = some (.int .u64 (wd0 z)) ∧ w'.cell? ⟨w.heap.size + 1, 9, none⟩ = some (.int .u64 (wd1 z)) ∧ w'.cell? ⟨w.heap.size + 1, 10, none⟩ = some (.int .u64 (wd2 z)) ∧ w'.cell? ⟨w.heap.size + 1, 11, none⟩ = some (.int .u64 (wd3 z))) ∧ (w'.cell? ⟨g5, 0, none⟩ = some (.bool xs) ∧ w'.cell? ⟨g5, 1, none⟩ = some (.slice xa xn xc) ∧ w'.cell? ⟨g5, 2, none⟩ = some (.bool ys) ∧ w'.cell? ⟨g5, 3, none⟩ = some (.slice ya yn yc) ∧ w'.cell? ⟨g5, 4, none⟩ = some (.bool zs) ∧ w'.cell? ⟨g5, 5, none⟩ = some (.slice za zn zc))) ∧ (∀ w', C w' → IsGr W2 w' ∧ W2.heap.size ≤ w'.heap.size) := by
          refine ⟨fun w' => W2.heap.size ≤ w'.heap.size ∧ IsGr W2 w' ∧ (w'.cell? ⟨w.heap.size, 0, none⟩ = some (.int .i64 a1) ∧ w'.cell? ⟨w.heap.size, 1, none⟩ = some (.int .i64 a2) ∧ w'.cell? ⟨w.heap.size, 2, none⟩ = some (.int .i64 b1) ∧ w'.cell? ⟨w.heap.size, 3, none⟩ = some (.int .i64 b2)) ∧ (w'.cell? ⟨w.heap.size + 1, 0, none⟩ = some (.int .u64 (wd0 x)) ∧ w'.cell? ⟨w.heap.size + 1, 1, none⟩ = some (.int .u64 (wd1 x)) ∧ w'.cell? ⟨w.heap.size + 1, 2, none⟩ = some (.int .u64 (wd2 x)) ∧ w'.cell? ⟨w.heap.size + 1, 3, none⟩ = some (.int .u64 (wd3 x)) ∧ w'.cell? ⟨w.heap.size + 1, 4, none⟩ = some (.int .u64 (wd0 y)) ∧ w'.cell? ⟨w.heap.size + 1, 5, none⟩ = some (.int .u64 (wd1 y)) ∧ w'.cell? ⟨w.heap.size + 1, 6, none⟩ = some (.int .u64 (wd2 y)) ∧ w'.cell? ⟨w.heap.size + 1, 7, none⟩ = some (.int .u64 (wd3 y)) ∧ w'.cell? ⟨w.heap.size + 1, 8, none⟩ = some (.int .u64 (wd0 z)) ∧ w'.cell? ⟨w.heap.size + 1, 9, none⟩ = some (.int .u64 (wd1 z)) ∧ w'.cell? ⟨w.heap.size + 1, 10, none⟩ = some (.int .u64 (wd2 z)) ∧ w'.cell? ⟨w.heap.size + 1, 11, none⟩ = some (.int .u64 (wd3 z))) ∧ (w'.cell? ⟨g5, 0, none⟩ = some (.bool xs) ∧ w'.cell? ⟨g5, 1, none⟩ = some (.slice xa xn xc) ∧ w'.cell? ⟨g5, 2, none⟩ = some (.bool ys) ∧ w'.cell? ⟨g5, 3, none⟩ = some (.slice ya yn yc) ∧ w'.cell? ⟨g5, 4, none⟩ = some (.bool zs) ∧ w'.cell? ⟨g5, 5, none⟩ = some (.slice za zn zc)), fun w' h => h, ?_, fun w' h => h.2.2, fun w' h => ⟨h.2.1, h.1⟩⟩
          rintro u u' ⟨h0, h1, h2⟩ hg
          refine ⟨Nat.le_trans h0 hg.size, h1.trans hg, ?_⟩
          exact ⟨⟨hg.cell_at (by omega) h2.1.1, hg.cell_at (by omega) h2.1.2.1, hg.cell_at (by omega) h2.1.2.2.1, hg.cell_at (by omega) h2.1.2.2.2⟩, ⟨hg.cell_at (by omega) h2.2.1.1, hg.cell_at (by omega) h2.2.1.2.1, hg.cell_at (by omega) h2.2.1.2.2.1, hg.cell_at (by omega) h2.2.1.2.2.2.1, hg.cell_at (by omega) h2.2.1.2.2.2.2.1, hg.cell_at (by omega) h2.2.1.2.2.2.2.2.1, hg.cell_at (by omega) h2.2.1.2.2.2.2.2.2.1, hg.cell_at (by omega) h2.2.1.2.2.2.2.2.2.2.1, hg.cell_at (by omega) h2.2.1.2.2.2.2.2.2.2.2.1, hg.cell_at (by omega) h2.2.1.2.2.2.2.2.2.2.2.2.1, hg.cell_at (by omega) h2.2.1.2.2.2.2.2.2.2.2.2.2.1, hg.cell_at (by omega) h2.2.1.2.2.2.2.2.2.2.2.2.2.2⟩, ⟨hg.cell_at (by omega) h2.2.2.1, hg.cell_at (by omega) h2.2.2.2.1, hg.cell_at (by omega) h2.2.2.2.2.1, hg.cell_at (by omega) h2.2.2.2.2.2.1, hg.cell_at (by omega) h2.2.2.2.2.2.2.1, hg.cell_at (by omega) h2.2.2.2.2.2.2.2⟩⟩
        refine wp_region_held_drew (S := C) (by kernel_rfl) (by (try dsimp only); exact hin _ ⟨by simp, (by with_reducible repeat (first | exact IsGr.refl _ | refine IsGr.gr ?_ _ _ | refine IsGr.alloc ?_ _ | refine IsGr.drew ?_ | refine IsGr.drewN ?_ _)), ⟨qa, qx, q5⟩⟩) (fun hHeld => ?_)
        refine wpAnyH_take (i := 0) (oi := { dst := some 18, op := Op.load 41 (Operand.tmp 2), type := 41, pos := "law.go:51", after := #[], guard := none }) (v := ?_) rfl (by kernel_rfl) (by kernel_rfl) (by kernel_rfl) (fun _ _ _ h => h) (Or.inl ⟨by rfl, ?_⟩) (by assumption) ?_
        rotate_left
        · (intro w hSw; (try dsimp only at hSw); (try have hcs := hcells w hSw); (try go_split_ands); go_simp <;> with_reducible rfl)
        (try simp only [Act.put, List.setIfInBounds_toArray, List.set_cons_zero, List.set_cons_succ])
        refine wpAnyH_take (i := 1) (oi := { dst := some 19, op := Op.load 46 (Operand.tmp 3), type := 46, pos := "law.go:51", after := #[], guard := none }) (v := ?_) rfl (by kernel_rfl) (by kernel_rfl) (by kernel_rfl) (fun _ _ _ h => h) (Or.inl ⟨by rfl, ?_⟩) (by assumption) ?_
        rotate_left
        · (intro w hSw; (try dsimp only at hSw); (try have hcs := hcells w hSw); (try go_split_ands); go_simp <;> with_reducible rfl)
        (try simp only [Act.put, List.setIfInBounds_toArray, List.set_cons_zero, List.set_cons_succ])
        refine wpAnyH_ready (rs := [2]) (by kernel_rfl) (by simp) ?_
        refine AllReadyH.cons (o := { dst := some 20, op := Op.call { callee := Callee.value (Operand.func 29), args := #[Operand.tmp 18, Operand.tmp 19], argTypes := #[41, 46] }, type := 3, pos := "law.go:51", after := #[{ on := 0, ground := Ground.data }, { on := 1, ground := Ground.data }], guard := none }) rfl (fun K hK => ?_) AllReadyH.nil
        go_simp
        refine (CS _).mono ?_
        rintro e w4 ⟨rfl, hg4⟩
        (try go_wp2_with fail)
        refine hK.out _ _ (by (try dsimp only); exact hcl _ _ hHeld (by first | with_reducible assumption | with_reducible exact IsGr.refl _ | with_reducible exact (IsGr.refl _).alloc _ | with_reducible exact ((IsGr.refl _).alloc _).alloc _ | assumption)) (fun hHeld2 => ?_)
        clear hK K hHeld
        have hHeld := hHeld2
        clear hHeld2
        (try simp only [Act.put, List.setIfInBounds_toArray, List.set_cons_zero, List.set_cons_succ])
        refine wpAnyH_take (i := 3) (oi := { dst := some 21, op := Op.binOp BinOp.eql 3 (Operand.tmp 20) (Operand.const (Value.int IntKind.i64 0)) 3, type := 4, pos := "law.go:51", after := #[{ on := 2, ground := Ground.data }], guard := none }) (v := ?_) rfl (by kernel_rfl) (by kernel_rfl) (by kernel_rfl) (fun _ _ _ h => h) (Or.inl ⟨by rfl, ?_⟩) (by assumption) ?_
        rotate_left
        · (intro w hSw; (try dsimp only at hSw); (try have hcs := hcells w hSw); (try go_split_ands); go_simp <;> with_reducible rfl)
        (try simp only [Act.put, List.setIfInBounds_toArray, List.set_cons_zero, List.set_cons_succ])
        refine wpAnyH_take (i := 4) (oi := { dst := some 22, op := Op.move (Operand.tmp 21), type := 4, pos := "law.go:51", after := #[{ on := 3, ground := Ground.data }, { on := 2, ground := Ground.chain }], guard := none }) (v := ?_) rfl (by kernel_rfl) (by kernel_rfl) (by kernel_rfl) (fun _ _ _ h => h) (Or.inl ⟨by rfl, ?_⟩) (by assumption) ?_
        rotate_left
        · (intro w hSw; (try dsimp only at hSw); (try have hcs := hcells w hSw); (try go_split_ands); go_simp <;> with_reducible rfl)
        (try simp only [Act.put, List.setIfInBounds_toArray, List.set_cons_zero, List.set_cons_succ])
        refine wpAnyH_take (i := 5) (oi := { dst := some 23, op := Op.load 41 (Operand.tmp 2), type := 41, pos := "law.go:51", after := #[{ on := 4, ground := Ground.guard }], guard := some (4, true) }) (v := ?_) rfl (by kernel_rfl) (by kernel_rfl) (by kernel_rfl) (fun _ _ _ h => h) (Or.inl ⟨by rfl, ?_⟩) (by assumption) ?_
        rotate_left
        · (intro w hSw; (try dsimp only at hSw); (try have hcs := hcells w hSw); (try go_split_ands); go_simp <;> with_reducible rfl)
        (try simp only [Act.put, List.setIfInBounds_toArray, List.set_cons_zero, List.set_cons_succ])
        refine wpAnyH_take (i := 6) (oi := { dst := some 24, op := Op.load 46 (Operand.tmp 3), type := 46, pos := "law.go:51", after := #[{ on := 4, ground := Ground.guard }], guard := some (4, true) }) (v := ?_) rfl (by kernel_rfl) (by kernel_rfl) (by kernel_rfl) (fun _ _ _ h => h) (Or.inl ⟨by rfl, ?_⟩) (by assumption) ?_
        rotate_left
        · (intro w hSw; (try dsimp only at hSw); (try have hcs := hcells w hSw); (try go_split_ands); go_simp <;> with_reducible rfl)
        (try simp only [Act.put, List.setIfInBounds_toArray, List.set_cons_zero, List.set_cons_succ])
        refine wpAnyH_ready (rs := [7]) (by kernel_rfl) (by simp) ?_
        refine AllReadyH.cons (o := { dst := some 25, op := Op.call { callee := Callee.value (Operand.func 30), args := #[Operand.tmp 23, Operand.tmp 24], argTypes := #[41, 46] }, type := 4, pos := "law.go:51", after := #[{ on := 5, ground := Ground.data }, { on := 6, ground := Ground.data }, { on := 4, ground := Ground.chain }, { on := 4, ground := Ground.guard }], guard := some (4, true) }) rfl (fun K hK => ?_) AllReadyH.nil
        go_simp
        refine (CH _).mono ?_
        rintro e w5 ⟨rfl, hg5⟩
        (try go_wp2_with fail)
        refine hK.out _ _ (by (try dsimp only); exact hcl _ _ hHeld (by first | with_reducible assumption | with_reducible exact IsGr.refl _ | with_reducible exact (IsGr.refl _).alloc _ | with_reducible exact ((IsGr.refl _).alloc _).alloc _ | assumption)) (fun hHeld2 => ?_)
        clear hK K hHeld
        have hHeld := hHeld2
        clear hHeld2
        (try simp only [Act.put, List.setIfInBounds_toArray, List.set_cons_zero, List.set_cons_succ])
        refine wpAnyH_take (i := 8) (oi := { dst := some 26, op := Op.unOp UnOp.not 4 (Operand.tmp 25), type := 4, pos := "law.go:51", after := #[{ on := 7, ground := Ground.data }, { on := 4, ground := Ground.guard }], guard := some (4, true) }) (v := ?_) rfl (by kernel_rfl) (by kernel_rfl) (by kernel_rfl) (fun _ _ _ h => h) (Or.inl ⟨by rfl, ?_⟩) (by assumption) ?_
        rotate_left
        · (intro w hSw; (try dsimp only at hSw); (try have hcs := hcells w hSw); (try go_split_ands); go_simp <;> with_reducible rfl)
        (try simp only [Act.put, List.setIfInBounds_toArray, List.set_cons_zero, List.set_cons_succ])
        refine wpAnyH_take (i := 9) (oi := { dst := some 27, op := Op.pick (Operand.tmp 22) (Operand.tmp 26) (Operand.const (Value.bool false)), type := 4, pos := "law.go:51", after := #[{ on := 4, ground := Ground.data }, { on := 8, ground := Ground.data }], guard := none }) (v := ?_) rfl (by kernel_rfl) (by kernel_rfl) (by kernel_rfl) (fun _ _ _ h => h) (Or.inl ⟨by rfl, ?_⟩) (by assumption) ?_
        rotate_left
        · (intro w hSw; (try dsimp only at hSw); (try have hcs := hcells w hSw); (try go_split_ands); go_simp <;> with_reducible rfl)
        (try simp only [Act.put, List.setIfInBounds_toArray, List.set_cons_zero, List.set_cons_succ])
        refine wpAnyH_take (i := 10) (oi := { dst := some 28, op := Op.move (Operand.tmp 27), type := 4, pos := "law.go:51", after := #[{ on := 9, ground := Ground.data }, { on := 7, ground := Ground.chain }], guard := none }) (v := ?_) rfl (by kernel_rfl) (by kernel_rfl) (by kernel_rfl) (fun _ _ _ h => h) (Or.inl ⟨by rfl, ?_⟩) (by assumption) ?_
        rotate_left
        · (intro w hSw; (try dsimp only at hSw); (try have hcs := hcells w hSw); (try go_split_ands); go_simp <;> with_reducible rfl)
        (try simp only [Act.put, List.setIfInBounds_toArray, List.set_cons_zero, List.set_cons_succ])
        refine wpAnyH_take (i := 11) (oi := { dst := some 29, op := Op.load 46 (Operand.tmp 3), type := 46, pos := "law.go:51", after := #[{ on := 10, ground := Ground.guard }], guard := some (10, true) }) (v := ?_) rfl (by kernel_rfl) (by kernel_rfl) (by kernel_rfl) (fun _ _ _ h => h) (Or.inl ⟨by rfl, ?_⟩) (by assumption) ?_
        rotate_left
        · (intro w hSw; (try dsimp only at hSw); (try have hcs := hcells w hSw); (try go_split_ands); go_simp <;> with_reducible rfl)
        (try simp only [Act.put, List.setIfInBounds_toArray, List.set_cons_zero, List.set_cons_succ])
        refine wpAnyH_take (i := 13) (oi := { dst := some 31, op := Op.load 55 (Operand.tmp 5), type := 55, pos := "law.go:51", after := #[{ on := 10, ground := Ground.guard }], guard := some (10, true) }) (v := ?_) rfl (by kernel_rfl) (by kernel_rfl) (by kernel_rfl) (fun _ _ _ h => h) (Or.inl ⟨by rfl, ?_⟩) (by assumption) ?_
        rotate_left
        · (intro w hSw; (try dsimp only at hSw); (try have hcs := hcells w hSw); (try go_split_ands); go_simp <;> with_reducible rfl)
        (try simp only [Act.put, List.setIfInBounds_toArray, List.set_cons_zero, List.set_cons_succ])
        refine wpAnyH_ready (rs := [12]) (by kernel_rfl) (by simp) ?_
        refine AllReadyH.cons (o := { dst := some 30, op := Op.call { callee := Callee.value (Operand.func 31), args := #[Operand.tmp 29], argTypes := #[46] }, type := 4, pos := "law.go:51", after := #[{ on := 11, ground := Ground.data }, { on := 10, ground := Ground.chain }, { on := 10, ground := Ground.guard }], guard := some (10, true) }) rfl (fun K hK => ?_) AllReadyH.nil
        go_simp
        refine (CQ _).mono ?_
        rintro e w6 ⟨rfl, hg6⟩
        (try go_wp2_with fail)
        refine hK.out _ _ (by (try dsimp only); exact hcl _ _ hHeld (by first | with_reducible assumption | with_reducible exact IsGr.refl _ | with_reducible exact (IsGr.refl _).alloc _ | with_reducible exact ((IsGr.refl _).alloc _).alloc _ | assumption)) (fun hHeld2 => ?_)
        clear hK K hHeld
        have hHeld := hHeld2
        clear hHeld2
        (try simp only [Act.put, List.setIfInBounds_toArray, List.set_cons_zero, List.set_cons_succ])
        refine wpAnyH_ready (rs := [14]) (by kernel_rfl) (by simp) ?_
        refine AllReadyH.cons (o := { dst := some 32, op := Op.call { callee := Callee.value (Operand.func 26), args := #[Operand.tmp 31], argTypes := #[55] }, type := 4, pos := "law.go:51", after := #[{ on := 13, ground := Ground.data }, { on := 12, ground := Ground.chain }, { on := 10, ground := Ground.guard }], guard := some (10, true) }) rfl (fun K hK => ?_) AllReadyH.nil
        go_simp
        refine (CR _ (hgr _ hHeld).1).mono ?_
        rintro e w7 ⟨rfl, hg7⟩
        (try go_wp2_with fail)
        refine hK.out _ _ (by (try dsimp only); exact hcl _ _ hHeld (by first | with_reducible assumption | with_reducible exact IsGr.refl _ | with_reducible exact (IsGr.refl _).alloc _ | with_reducible exact ((IsGr.refl _).alloc _).alloc _ | assumption)) (fun hHeld2 => ?_)
        clear hK K hHeld
        have hHeld := hHeld2
        clear hHeld2
        (try simp only [Act.put, List.setIfInBounds_toArray, List.set_cons_zero, List.set_cons_succ])
        refine wpAnyH_take (i := 15) (oi := { dst := some 33, op := Op.binOp BinOp.eql 4 (Operand.tmp 30) (Operand.tmp 32) 4, type := 4, pos := "law.go:51", after := #[{ on := 12, ground := Ground.data }, { on := 14, ground := Ground.data }, { on := 10, ground := Ground.guard }], guard := some (10, true) }) (v := ?_) rfl (by kernel_rfl) (by kernel_rfl) (by kernel_rfl) (fun _ _ _ h => h) (Or.inl ⟨by rfl, ?_⟩) (by assumption) ?_
        rotate_left
        · (intro w hSw; (try dsimp only at hSw); (try have hcs := hcells w hSw); (try go_split_ands); go_simp <;> with_reducible rfl)
        (try simp only [Act.put, List.setIfInBounds_toArray, List.set_cons_zero, List.set_cons_succ])
        refine wpAnyH_take (i := 16) (oi := { dst := some 34, op := Op.pick (Operand.tmp 28) (Operand.tmp 33) (Operand.const (Value.bool false)), type := 4, pos := "law.go:51", after := #[{ on := 10, ground := Ground.data }, { on := 15, ground := Ground.data }], guard := none }) (v := ?_) rfl (by kernel_rfl) (by kernel_rfl) (by kernel_rfl) (fun _ _ _ h => h) (Or.inl ⟨by rfl, ?_⟩) (by assumption) ?_
        rotate_left
        · (intro w hSw; (try dsimp only at hSw); (try have hcs := hcells w hSw); (try go_split_ands); go_simp <;> with_reducible rfl)
        (try simp only [Act.put, List.setIfInBounds_toArray, List.set_cons_zero, List.set_cons_succ])
        refine wpAnyH_take (i := 17) (oi := { dst := some 35, op := Op.move (Operand.tmp 34), type := 4, pos := "law.go:51", after := #[{ on := 16, ground := Ground.data }, { on := 14, ground := Ground.chain }], guard := none }) (v := ?_) rfl (by kernel_rfl) (by kernel_rfl) (by kernel_rfl) (fun _ _ _ h => h) (Or.inl ⟨by rfl, ?_⟩) (by assumption) ?_
        rotate_left
        · (intro w hSw; (try dsimp only at hSw); (try have hcs := hcells w hSw); (try go_split_ands); go_simp <;> with_reducible rfl)
        (try simp only [Act.put, List.setIfInBounds_toArray, List.set_cons_zero, List.set_cons_succ])
        refine wpAnyH_ready (rs := [18]) (by kernel_rfl) (by simp) ?_
        refine AllReadyH.cons (o := { dst := some 36, op := Op.call { callee := Callee.value (Operand.func 24), args := #[], argTypes := #[] }, type := 4, pos := "law.go:51", after := #[{ on := 17, ground := Ground.chain }, { on := 17, ground := Ground.guard }], guard := some (17, true) }) rfl (fun K hK => ?_) AllReadyH.nil
        go_simp
        refine (CA _).mono ?_
        rintro e w8 ⟨rfl, hg8⟩
        (try go_wp2_with fail)
        refine hK.out _ _ (by (try dsimp only); exact hcl _ _ hHeld (by first | with_reducible assumption | with_reducible exact IsGr.refl _ | with_reducible exact (IsGr.refl _).alloc _ | with_reducible exact ((IsGr.refl _).alloc _).alloc _ | assumption)) (fun hHeld2 => ?_)
        clear hK K hHeld
        have hHeld := hHeld2
        clear hHeld2
        (try simp only [Act.put, List.setIfInBounds_toArray, List.set_cons_zero, List.set_cons_succ])
        refine wpAnyH_take (i := 19) (oi := { dst := some 37, op := Op.pick (Operand.tmp 35) (Operand.tmp 36) (Operand.const (Value.bool false)), type := 4, pos := "law.go:51", after := #[{ on := 17, ground := Ground.data }, { on := 18, ground := Ground.data }], guard := none }) (v := ?_) rfl (by kernel_rfl) (by kernel_rfl) (by kernel_rfl) (fun _ _ _ h => h) (Or.inl ⟨by rfl, ?_⟩) (by assumption) ?_
        rotate_left
        · (intro w hSw; (try dsimp only at hSw); (try have hcs := hcells w hSw); (try go_split_ands); go_simp <;> with_reducible rfl)
        (try simp only [Act.put, List.setIfInBounds_toArray, List.set_cons_zero, List.set_cons_succ])
        refine wpAnyH_take (i := 20) (oi := { dst := some 4, op := Op.assign (Operand.tmp 37), type := 4, pos := "law.go:51", after := #[{ on := 19, ground := Ground.data }, { on := 18, ground := Ground.chain }, { on := 0, ground := Ground.phase }, { on := 1, ground := Ground.phase }, { on := 2, ground := Ground.phase }, { on := 3, ground := Ground.phase }, { on := 4, ground := Ground.phase }, { on := 5, ground := Ground.phase }, { on := 6, ground := Ground.phase }, { on := 7, ground := Ground.phase }, { on := 8, ground := Ground.phase }, { on := 9, ground := Ground.phase }, { on := 10, ground := Ground.phase }, { on := 11, ground := Ground.phase }, { on := 12, ground := Ground.phase }, { on := 13, ground := Ground.phase }, { on := 14, ground := Ground.phase }, { on := 15, ground := Ground.phase }, { on := 16, ground := Ground.phase }, { on := 17, ground := Ground.phase }, { on := 18, ground := Ground.phase }, { on := 19, ground := Ground.phase }], guard := none }) (v := ?_) rfl (by kernel_rfl) (by kernel_rfl) (by kernel_rfl) (fun _ _ _ h => h) (Or.inl ⟨by rfl, ?_⟩) (by assumption) ?_
        rotate_left
        · (intro w hSw; (try dsimp only at hSw); (try have hcs := hcells w hSw); (try go_split_ands); go_simp <;> with_reducible rfl)
        (try simp only [Act.put, List.setIfInBounds_toArray, List.set_cons_zero, List.set_cons_succ])
        refine wpAnyH_done (by kernel_rfl) ?_ _
        have hg := (hgr _ hHeld).1
        clear hcells hin hcl hgr hHeld
        go_wp2
        go_ret
        exact ⟨rfl, HG.out.trans hg⟩

set_option maxRecDepth 20000 in set_option maxHeartbeats 4000000 in
theorem law_sides_gt (a1 a2 b1 b2 x y z : Int) (fx : Fit x) (fy : Fit y) (fz : Fit z) (r1 : segR a1 a2 b1 b2 = true) (r2 : spotR x y z = true) (hc :  0 < cmpP a1 a2 b1 b2) (w : World) :
    Calls Try.prog 6 #[.agg #[.int .i64 a1, .int .i64 a2, .int .i64 b1, .int .i64 b2], .agg #[.int .u64 (wd0 x), .int .u64 (wd1 x), .int .u64 (wd2 x), .int .u64 (wd3 x), .int .u64 (wd0 y), .int .u64 (wd1 y), .int .u64 (wd2 y), .int .u64 (wd3 y), .int .u64 (wd0 z), .int .u64 (wd1 z), .int .u64 (wd2 z), .int .u64 (wd3 z)]] w fun e w' => e = .returned (.bool true) ∧ IsGr w w' := by
  have H : Ends2 a1 a2 b1 b2 b1 b2 a1 a2 := Or.inl ⟨hc, rfl, rfl, rfl, rfl⟩
  have CX := fun w => lspot_any x y z fx fy fz w
  have R1 := fun w => lright_any a1 a2 b1 b2 w
  have E1 := fun w => Ends_any a1 a2 b1 b2 b1 b2 a1 a2 H w
  have CS := fun w => Side_yes a1 a2 b1 b2 b1 b2 a1 a2 x y z H r1 r2 w
  have CH := fun w => Holds_yes a1 a2 b1 b2 b1 b2 a1 a2 x y z H r1 r2 w
  rw [holds_eq H r1 r2] at CH
  have CQ := fun w => SpRight_any x y z fx fy fz w
  have CA := fun w => awake4_any w
  have Fa := fun w => xref_any a1 a2 w
  have Fb := fun w => xref_any b1 b2 w
  have CAH := fun w => Ahead_any a1 a2 b1 b2 w
  rw [ahead_ends H] at CAH
  have rl := (H.right r1).1
  have rh := (H.right r1).2
  obtain ⟨ra, rb⟩ : rightP a1 a2 = true ∧ rightP b1 b2 = true := by simpa [segR] using r1
  rw [r1] at R1
  rw [r2] at CQ
  clear H r1
  go_enter Try.func6, Try.ntmps6
  go_upto_region 1 with fail
  go_cut [5] (fun t5 wr => SpAt wr t5 x y z ∧ (wr.cell? ⟨w.heap.size, 0, none⟩ = some (.int .i64 a1) ∧ wr.cell? ⟨w.heap.size, 1, none⟩ = some (.int .i64 a2) ∧ wr.cell? ⟨w.heap.size, 2, none⟩ = some (.int .i64 b1) ∧ wr.cell? ⟨w.heap.size, 3, none⟩ = some (.int .i64 b2)) ∧ (wr.cell? ⟨w.heap.size + 1, 0, none⟩ = some (.int .u64 (wd0 x)) ∧ wr.cell? ⟨w.heap.size + 1, 1, none⟩ = some (.int .u64 (wd1 x)) ∧ wr.cell? ⟨w.heap.size + 1, 2, none⟩ = some (.int .u64 (wd2 x)) ∧ wr.cell? ⟨w.heap.size + 1, 3, none⟩ = some (.int .u64 (wd3 x)) ∧ wr.cell? ⟨w.heap.size + 1, 4, none⟩ = some (.int .u64 (wd0 y)) ∧ wr.cell? ⟨w.heap.size + 1, 5, none⟩ = some (.int .u64 (wd1 y)) ∧ wr.cell? ⟨w.heap.size + 1, 6, none⟩ = some (.int .u64 (wd2 y)) ∧ wr.cell? ⟨w.heap.size + 1, 7, none⟩ = some (.int .u64 (wd3 y)) ∧ wr.cell? ⟨w.heap.size + 1, 8, none⟩ = some (.int .u64 (wd0 z)) ∧ wr.cell? ⟨w.heap.size + 1, 9, none⟩ = some (.int .u64 (wd1 z)) ∧ wr.cell? ⟨w.heap.size + 1, 10, none⟩ = some (.int .u64 (wd2 z)) ∧ wr.cell? ⟨w.heap.size + 1, 11, none⟩ = some (.int .u64 (wd3 z))) ∧ w.heap.size + 2 ≤ wr.heap.size ∧ IsGr w wr)
  case first =>
    go_wp2_with fail
    refine (CX _).mono ?_
    rintro e w1 ⟨v, rfl, hv, os1, dr1, rfl⟩
    obtain ⟨xs, xa, xn, xc, ys, ya, yn, yc, zs, za, zn, zc, rfl, hx, hy, hz⟩ := hv
    go_wp2
    go_meet
    case rel =>
      refine ⟨⟨_, xs, xa, xn, xc, ys, ya, yn, yc, zs, za, zn, zc, rfl, ?_, ?_, ⟨xs, xa, xn, xc, ys, ya, yn, yc, zs, za, zn, zc, rfl, hx.gr (by with_reducible repeat (first | exact IsGr.refl _ | refine IsGr.gr ?_ _ _ | refine IsGr.alloc ?_ _ | refine IsGr.drew ?_ | refine IsGr.drewN ?_ _)), hy.gr (by with_reducible repeat (first | exact IsGr.refl _ | refine IsGr.gr ?_ _ _ | refine IsGr.alloc ?_ _ | refine IsGr.drew ?_ | refine IsGr.drewN ?_ _)), hz.gr (by with_reducible repeat (first | exact IsGr.refl _ | refine IsGr.gr ?_ _ _ | refine IsGr.alloc ?_ _ | refine IsGr.drew ?_ | refine IsGr.drewN ?_ _))⟩⟩, ?_, ?_, ?_, (by with_reducible repeat (first | exact IsGr.refl _ | refine IsGr.gr ?_ _ _ | refine IsGr.alloc ?_ _ | refine IsGr.drew ?_ | refine IsGr.drewN ?_ _))⟩
      · first | omega | (simp; done) | (simp; omega) | (simp [Gr.size]; done) | (simp [Gr.size]; omega)
      · simp [go_sem]
      · simp [go_sem]
      · simp [go_sem]
      · first | omega | (simp; done) | (simp; omega) | (simp [Gr.size]; done) | (simp [Gr.size]; omega)
  case rest =>
    obtain ⟨⟨g5, xs, xa, xn, xc, ys, ya, yn, yc, zs, za, zn, zc, rfl, k5, q5, hsp⟩, qa, qx, ks, hgw⟩ := hcut
    obtain ⟨W1, hW9⟩ : ∃ W1, W1 = wc := ⟨_, rfl⟩
    subst hW9
    have HG : Hid (IsGr w W1) := hgw
    have CR := fun w1 (hg : IsGr W1 w1) => RSRight_any _ x y z w1 (hsp.gr hg) fx fy fz
    clear hgw CX
    rw [r2] at CR
    clear r2
    have ka : w.heap.size < W1.heap.size := by omega
    obtain ⟨x1, x2, x3, x4⟩ := qa
    obtain ⟨o0, o1, o2, o3, o4, o5⟩ := q5
    go_upto_region 2 with fail
    go_cut [17] (fun t17 wr => t17 = .bool false ∧ IsGr W1 wr)
    case first =>
      go_wp2_with fail
      refine (R1 _).mono ?_
      rintro e w1 ⟨rfl, os2, dr2, rfl⟩
      go_wp2_with fail
      refine (CR _ ?_).mono ?_
      · exact (by with_reducible repeat (first | exact IsGr.refl _ | refine IsGr.gr ?_ _ _ | refine IsGr.alloc ?_ _ | refine IsGr.drew ?_ | refine IsGr.drewN ?_ _))
      rintro e w1 ⟨rfl, os3, dr3, rfl⟩
      go_wp2
      go_meet
      case rel => exact ⟨by first | rfl | simp, (by with_reducible repeat (first | exact IsGr.refl _ | refine IsGr.gr ?_ _ _ | refine IsGr.alloc ?_ _ | refine IsGr.drew ?_ | refine IsGr.drewN ?_ _))⟩
    case rest =>
      obtain ⟨rfl, hgr⟩ := hcut
      obtain ⟨W2, hW9⟩ : ∃ W2, W2 = wc := ⟨_, rfl⟩
      subst hW9
      have qa : (W2.cell? ⟨w.heap.size, 0, none⟩ = some (.int .i64 a1) ∧ W2.cell? ⟨w.heap.size, 1, none⟩ = some (.int .i64 a2) ∧ W2.cell? ⟨w.heap.size, 2, none⟩ = some (.int .i64 b1) ∧ W2.cell? ⟨w.heap.size, 3, none⟩ = some (.int .i64 b2)) := ⟨hgr.cell_at ka x1, hgr.cell_at ka x2, hgr.cell_at ka x3, hgr.cell_at ka x4⟩
      have q5 : (W2.cell? ⟨g5, 0, none⟩ = some (.bool xs) ∧ W2.cell? ⟨g5, 1, none⟩ = some (.slice xa xn xc) ∧ W2.cell? ⟨g5, 2, none⟩ = some (.bool ys) ∧ W2.cell? ⟨g5, 3, none⟩ = some (.slice ya yn yc) ∧ W2.cell? ⟨g5, 4, none⟩ = some (.bool zs) ∧ W2.cell? ⟨g5, 5, none⟩ = some (.slice za zn zc)) := ⟨hgr.cell_at k5 o0, hgr.cell_at k5 o1, hgr.cell_at k5 o2, hgr.cell_at k5 o3, hgr.cell_at k5 o4, hgr.cell_at k5 o5⟩
      replace qx : (W2.cell? ⟨w.heap.size + 1, 0, none⟩ = some (.int .u64 (wd0 x)) ∧ W2.cell? ⟨w.heap.size + 1, 1, none⟩ = some (.int .u64 (wd1 x)) ∧ W2.cell? ⟨w.heap.size + 1, 2, none⟩ = some (.int .u64 (wd2 x)) ∧ W2.cell? ⟨w.heap.size + 1, 3, none⟩ = some (.int .u64 (wd3 x)) ∧ W2.cell? ⟨w.heap.size + 1, 4, none⟩ = some (.int .u64 (wd0 y)) ∧ W2.cell? ⟨w.heap.size + 1, 5, none⟩ = some (.int .u64 (wd1 y)) ∧ W2.cell? ⟨w.heap.size + 1, 6, none⟩ = some (.int .u64 (wd2 y)) ∧ W2.cell? ⟨w.heap.size + 1, 7, none⟩ = some (.int .u64 (wd3 y)) ∧ W2.cell? ⟨w.heap.size + 1, 8, none⟩ = some (.int .u64 (wd0 z)) ∧ W2.cell? ⟨w.heap.size + 1, 9, none⟩ = some (.int .u64 (wd1 z)) ∧ W2.cell? ⟨w.heap.size + 1, 10, none⟩ = some (.int .u64 (wd2 z)) ∧ W2.cell? ⟨w.heap.size + 1, 11, none⟩ = some (.int .u64 (wd3 z))) := ⟨hgr.cell_at (by omega) qx.1, hgr.cell_at (by omega) qx.2.1, hgr.cell_at (by omega) qx.2.2.1, hgr.cell_at (by omega) qx.2.2.2.1, hgr.cell_at (by omega) qx.2.2.2.2.1, hgr.cell_at (by omega) qx.2.2.2.2.2.1, hgr.cell_at (by omega) qx.2.2.2.2.2.2.1, hgr.cell_at (by omega) qx.2.2.2.2.2.2.2.1, hgr.cell_at (by omega) qx.2.2.2.2.2.2.2.2.1, hgr.cell_at (by omega) qx.2.2.2.2.2.2.2.2.2.1, hgr.cell_at (by omega) qx.2.2.2.2.2.2.2.2.2.2.1, hgr.cell_at (by omega) qx.2.2.2.2.2.2.2.2.2.2.2⟩
      have hsz := hgr.size
      replace HG : Hid (IsGr w W2) := HG.out.trans hgr
      replace CR := fun w1 (hg : IsGr W2 w1) => CR w1 (hgr.trans hg)
      replace hsp := hsp.gr hgr
      replace k5 : g5 < W2.heap.size := by omega
      replace ka : w.heap.size < W2.heap.size := by omega
      replace ks : w.heap.size + 2 ≤ W2.heap.size := by omega
      clear hgr hsz x1 x2 x3 x4 o0 o1 o2 o3 o4 o5 R1
      have CT := fun w1 (hg : IsGr W2 w1) => RSSide_any b1 b2 a1 a2 _ x y z w1 rl rh (hsp.gr hg) fx fy fz
      have CHR := fun w1 (hg : IsGr W2 w1) => RSHolds_any a1 a2 b1 b2 _ x y z w1 ra rb (hsp.gr hg) fx fy fz
      clear CR hsp fx fy fz rl rh ra rb
      generalize cmpI (sideS b1 b2 a1 a2 x y z) 0 = K at *
      generalize holdsR a1 a2 b1 b2 x y z = B at *
      obtain ⟨x1, x2, x3, x4⟩ := qa
      go_upto_region 4 with fail
      go_cut [6, 7] (fun t6 t7 wr => ∃ g6 g7 : Nat, t6 = .pointer (some ⟨g6, 0, none⟩) ∧ t7 = .pointer (some ⟨g7, 0, none⟩) ∧ g6 < wr.heap.size ∧ g7 < wr.heap.size ∧ (wr.cell? ⟨g6, 0, none⟩ = some (.int .i64 b1) ∧ wr.cell? ⟨g6, 1, none⟩ = some (.int .i64 b2)) ∧ (wr.cell? ⟨g7, 0, none⟩ = some (.int .i64 a1) ∧ wr.cell? ⟨g7, 1, none⟩ = some (.int .i64 a2)) ∧ IsGr W2 wr)
      case first =>
        go_wp2_with fail
        refine (E1 _).mono ?_
        rintro e w1 ⟨rfl, os4, dr4, rfl⟩
        go_wp2
        go_meet
        case rel =>
          refine ⟨_, _, rfl, rfl, ?_, ?_, ?_, ?_, (by with_reducible repeat (first | exact IsGr.refl _ | refine IsGr.gr ?_ _ _ | refine IsGr.alloc ?_ _ | refine IsGr.drew ?_ | refine IsGr.drewN ?_ _))⟩
          · first | omega | (simp; done) | (simp; omega) | (simp [Gr.size]; done) | (simp [Gr.size]; omega)
          · first | omega | (simp; done) | (simp; omega) | (simp [Gr.size]; done) | (simp [Gr.size]; omega)
          · simp [go_sem]
          · simp [go_sem]
      case rest =>
        obtain ⟨g6, g7, rfl, rfl, k6, k7, q6, q7, hgr⟩ := hcut
        obtain ⟨W3, hW9⟩ : ∃ W3, W3 = wc := ⟨_, rfl⟩
        subst hW9
        have qa : (W3.cell? ⟨w.heap.size, 0, none⟩ = some (.int .i64 a1) ∧ W3.cell? ⟨w.heap.size, 1, none⟩ = some (.int .i64 a2) ∧ W3.cell? ⟨w.heap.size, 2, none⟩ = some (.int .i64 b1) ∧ W3.cell? ⟨w.heap.size, 3, none⟩ = some (.int .i64 b2)) := ⟨hgr.cell_at ka x1, hgr.cell_at ka x2, hgr.cell_at ka x3, hgr.cell_at ka x4⟩
        replace q5 : (W3.cell? ⟨g5, 0, none⟩ = some (.bool xs) ∧ W3.cell? ⟨g5, 1, none⟩ = some (.slice xa xn xc) ∧ W3.cell? ⟨g5, 2, none⟩ = some (.bool ys) ∧ W3.cell? ⟨g5, 3, none⟩ = some (.slice ya yn yc) ∧ W3.cell? ⟨g5, 4, none⟩ = some (.bool zs) ∧ W3.cell? ⟨g5, 5, none⟩ = some (.slice za zn zc)) := ⟨hgr.cell_at k5 q5.1, hgr.cell_at k5 q5.2.1, hgr.cell_at k5 q5.2.2.1, hgr.cell_at k5 q5.2.2.2.1, hgr.cell_at k5 q5.2.2.2.2.1, hgr.cell_at k5 q5.2.2.2.2.2⟩
        replace qx : (W3.cell? ⟨w.heap.size + 1, 0, none⟩ = some (.int .u64 (wd0 x)) ∧ W3.cell? ⟨w.heap.size + 1, 1, none⟩ = some (.int .u64 (wd1 x)) ∧ W3.cell? ⟨w.heap.size + 1, 2, none⟩ = some (.int .u64 (wd2 x)) ∧ W3.cell? ⟨w.heap.size + 1, 3, none⟩ = some (.int .u64 (wd3 x)) ∧ W3.cell? ⟨w.heap.size + 1, 4, none⟩ = some (.int .u64 (wd0 y)) ∧ W3.cell? ⟨w.heap.size + 1, 5, none⟩ = some (.int .u64 (wd1 y)) ∧ W3.cell? ⟨w.heap.size + 1, 6, none⟩ = some (.int .u64 (wd2 y)) ∧ W3.cell? ⟨w.heap.size + 1, 7, none⟩ = some (.int .u64 (wd3 y)) ∧ W3.cell? ⟨w.heap.size + 1, 8, none⟩ = some (.int .u64 (wd0 z)) ∧ W3.cell? ⟨w.heap.size + 1, 9, none⟩ = some (.int .u64 (wd1 z)) ∧ W3.cell? ⟨w.heap.size + 1, 10, none⟩ = some (.int .u64 (wd2 z)) ∧ W3.cell? ⟨w.heap.size + 1, 11, none⟩ = some (.int .u64 (wd3 z))) := ⟨hgr.cell_at (by omega) qx.1, hgr.cell_at (by omega) qx.2.1, hgr.cell_at (by omega) qx.2.2.1, hgr.cell_at (by omega) qx.2.2.2.1, hgr.cell_at (by omega) qx.2.2.2.2.1, hgr.cell_at (by omega) qx.2.2.2.2.2.1, hgr.cell_at (by omega) qx.2.2.2.2.2.2.1, hgr.cell_at (by omega) qx.2.2.2.2.2.2.2.1, hgr.cell_at (by omega) qx.2.2.2.2.2.2.2.2.1, hgr.cell_at (by omega) qx.2.2.2.2.2.2.2.2.2.1, hgr.cell_at (by omega) qx.2.2.2.2.2.2.2.2.2.2.1, hgr.cell_at (by omega) qx.2.2.2.2.2.2.2.2.2.2.2⟩
        have hsz := hgr.size
        replace HG : Hid (IsGr w W3) := HG.out.trans hgr
        replace CT := fun w1 (hg : IsGr W3 w1) => CT w1 (hgr.trans hg)
        replace CHR := fun w1 (hg : IsGr W3 w1) => CHR w1 (hgr.trans hg)
        replace k5 : g5 < W3.heap.size := by omega
        replace ka : w.heap.size < W3.heap.size := by omega
        replace ks : w.heap.size + 2 ≤ W3.heap.size := by omega
        clear hgr hsz x1 x2 x3 x4 E1
        go_upto_region 5 with fail
        go_cut [83] (fun t83 wr => t83 = .bool false ∧ IsGr W3 wr)
        case first => as_aux_lemma =>
          clear CQ CS CT CH CHR CA
          by_cases e1 : b1 = a1
          · have e2 : ¬ b2 = a2 := fun h => by
              rcases cmpP_cases a1 a2 b1 b2 with ⟨x1, x2⟩ | ⟨x1, x2⟩ | ⟨x1, x2⟩ <;> omega
            have f1 : (b1 == a1) = true := by simp [e1]
            have f2 : (b2 == a2) = false := by simp [e2]
            clear e1 e2 hc
            obtain ⟨C, hin, hcl, hcells, hgr⟩ : ∃ C : World → Prop, (∀ w', W3.heap.size ≤ w'.heap.size ∧ IsGr W3 w' ∧ (w'.cell? ⟨w.heap.size, 0, none⟩ = some (.int .i64 a1) ∧ w'.cell? ⟨w.heap.size, 1, none⟩ = some (.int .i64 a2) ∧ w'.cell? ⟨w.heap.size, 2, none⟩ = some (.int .i64 b1) ∧ w'.cell? ⟨w.heap.size, 3, none⟩ = some (.int .i64 b2)) ∧ (w'.cell? ⟨g6, 0, none⟩ = some (.int .i64 b1) ∧ w'.cell? ⟨g6, 1, none⟩ = some (.int .i64 b2)) ∧ (w'.cell? ⟨g7, 0, none⟩ = some (.int .i64 a1) ∧ w'.cell? ⟨g7, 1, none⟩ = some (.int .i64 a2)) → C w') ∧ (∀ u u', C u → IsGr u u' → C u') ∧ (∀ w', C w' → (w'.cell? ⟨w.heap.size, 0, none⟩ = some (.int .i64 a1) ∧ w'.cell? ⟨w.heap.size, 1, none⟩ = some (.int .i64 a2) ∧ w'.cell? ⟨w.heap.size, 2, none⟩ = some (.int .i64 b1) ∧ w'.cell? ⟨w.heap.size, 3, none⟩ = some (.int .i64 b2)) ∧ (w'.cell? ⟨g6, 0, none⟩ = some (.int .i64 b1) ∧ w'.cell? ⟨g6, 1, none⟩ = some (.int .i64 b2)) ∧ (w'.cell? ⟨g7, 0, none⟩ = some (.int .i64 a1) ∧ w'.cell? ⟨g7, 1, none⟩ = some (.int .i64 a2))) ∧ (∀ w', C w' → IsGr W3 w' ∧ W3.heap.size ≤ w'.heap.size) := by
              refine ⟨fun w' => W3.heap.size ≤ w'.heap.size ∧ IsGr W3 w' ∧ (w'.cell? ⟨w.heap.size, 0, none⟩ = some (.int .i64 a1) ∧ w'.cell? ⟨w.heap.size, 1, none⟩ = some (.int .i64 a2) ∧ w'.cell? ⟨w.heap.size, 2, none⟩ = some (.int .i64 b1) ∧ w'.cell? ⟨w.heap.size, 3, none⟩ = some (.int .i64 b2)) ∧ (w'.cell? ⟨g6, 0, none⟩ = some (.int .i64 b1) ∧ w'.cell? ⟨g6, 1, none⟩ = some (.int .i64 b2)) ∧ (w'.cell? ⟨g7, 0, none⟩ = some (.int .i64 a1) ∧ w'.cell? ⟨g7, 1, none⟩ = some (.int .i64 a2)), fun w' h => h, ?_, fun w' h => h.2.2, fun w' h => ⟨h.2.1, h.1⟩⟩
              rintro u u' ⟨h0, h1, h2⟩ hg
              refine ⟨Nat.le_trans h0 hg.size, h1.trans hg, ?_⟩
              exact ⟨⟨hg.cell_at (by omega) h2.1.1, hg.cell_at (by omega) h2.1.2.1, hg.cell_at (by omega) h2.1.2.2.1, hg.cell_at (by omega) h2.1.2.2.2⟩, ⟨hg.cell_at (by omega) h2.2.1.1, hg.cell_at (by omega) h2.2.1.2⟩, ⟨hg.cell_at (by omega) h2.2.2.1, hg.cell_at (by omega) h2.2.2.2⟩⟩
            refine wp_region_quietV C (by kernel_rfl) (by kernel_rfl) (hin _ ⟨by simp, (by with_reducible repeat (first | exact IsGr.refl _ | refine IsGr.gr ?_ _ _ | refine IsGr.alloc ?_ _ | refine IsGr.drew ?_ | refine IsGr.drewN ?_ _)), ⟨qa, q6, q7⟩⟩) (fun K HK => ?_)
            refine QK.take HK ?_ (by rfl) ?_ ?_
            rotate_left
            · (intro w hw; (try have hcs := hcells w hw); (try go_split_ands); go_simp <;> with_reducible rfl)
            (try simp only [Act.put, List.setIfInBounds_toArray, List.set_cons_zero, List.set_cons_succ])
            refine QK.call HK 22 #[.agg #[.int .i64 a1, .int .i64 a2]] (.agg #[.int .i64 a1, .int .i64 a2]) hcl (by rfl) (fun w => by go_simp) Fa ?_
            (try simp only [Act.put, List.setIfInBounds_toArray, List.set_cons_zero, List.set_cons_succ])
            refine QK.take HK ?_ (by rfl) ?_ ?_
            rotate_left
            · (intro w hw; (try have hcs := hcells w hw); (try go_split_ands); go_simp <;> with_reducible rfl)
            (try simp only [Act.put, List.setIfInBounds_toArray, List.set_cons_zero, List.set_cons_succ])
            refine QK.call HK 22 #[.agg #[.int .i64 b1, .int .i64 b2]] (.agg #[.int .i64 b1, .int .i64 b2]) hcl (by rfl) (fun w => by go_simp) Fb ?_
            (try simp only [Act.put, List.setIfInBounds_toArray, List.set_cons_zero, List.set_cons_succ])
            refine QK.call HK 18 #[.agg #[.int .i64 a1, .int .i64 a2], .agg #[.int .i64 b1, .int .i64 b2]] (.bool false) hcl (by rfl) (fun w => by go_simp) CAH ?_
            (try simp only [Act.put, List.setIfInBounds_toArray, List.set_cons_zero, List.set_cons_succ])
            refine QK.take HK ?_ (by rfl) ?_ ?_
            rotate_left
            · (intro w hw; (try have hcs := hcells w hw); (try go_split_ands); go_simp <;> with_reducible rfl)
            (try simp only [Act.put, List.setIfInBounds_toArray, List.set_cons_zero, List.set_cons_succ])
            refine QK.take HK ?_ (by rfl) ?_ ?_
            rotate_left
            · (intro w hw; (try have hcs := hcells w hw); (try go_split_ands); go_simp <;> with_reducible rfl)
            (try simp only [Act.put, List.setIfInBounds_toArray, List.set_cons_zero, List.set_cons_succ])
            refine QK.take HK ?_ (by rfl) ?_ ?_
            rotate_left
            · (intro w hw; (try have hcs := hcells w hw); (try go_split_ands); go_simp <;> with_reducible rfl)
            (try simp only [Act.put, List.setIfInBounds_toArray, List.set_cons_zero, List.set_cons_succ])
            refine QK.take HK ?_ (by rfl) ?_ ?_
            rotate_left
            · (intro w hw; (try have hcs := hcells w hw); (try go_split_ands); go_simp <;> with_reducible rfl)
            (try simp only [Act.put, List.setIfInBounds_toArray, List.set_cons_zero, List.set_cons_succ])
            refine QK.take HK ?_ (by rfl) ?_ ?_
            rotate_left
            · (intro w hw; (try have hcs := hcells w hw); (try go_split_ands); go_simp <;> with_reducible rfl)
            (try simp only [Act.put, List.setIfInBounds_toArray, List.set_cons_zero, List.set_cons_succ])
            refine QK.take HK ?_ (by rfl) ?_ ?_
            rotate_left
            · (intro w hw; (try have hcs := hcells w hw); (try go_split_ands); go_simp <;> with_reducible rfl)
            (try simp only [Act.put, List.setIfInBounds_toArray, List.set_cons_zero, List.set_cons_succ])
            refine QK.take HK ?_ (by rfl) ?_ ?_
            rotate_left
            · (intro w hw; (try have hcs := hcells w hw); (try go_split_ands); go_simp <;> with_reducible rfl)
            (try simp only [Act.put, List.setIfInBounds_toArray, List.set_cons_zero, List.set_cons_succ])
            refine QK.take HK ?_ (by rfl) ?_ ?_
            rotate_left
            · (intro w hw; (try have hcs := hcells w hw); (try go_split_ands); go_simp <;> with_reducible rfl)
            (try simp only [Act.put, List.setIfInBounds_toArray, List.set_cons_zero, List.set_cons_succ])
            refine QK.take HK ?_ (by rfl) ?_ ?_
            rotate_left
            · (intro w hw; (try have hcs := hcells w hw); (try go_split_ands); go_simp <;> with_reducible rfl)
            (try simp only [Act.put, List.setIfInBounds_toArray, List.set_cons_zero, List.set_cons_succ])
            refine QK.take HK ?_ (by rfl) ?_ ?_
            rotate_left
            · (intro w hw; (try have hcs := hcells w hw); (try go_split_ands); go_simp <;> with_reducible rfl)
            (try simp only [Act.put, List.setIfInBounds_toArray, List.set_cons_zero, List.set_cons_succ])
            refine QK.take HK ?_ (by rfl) ?_ ?_
            rotate_left
            · (intro w hw; (try have hcs := hcells w hw); (try go_split_ands); go_simp <;> with_reducible rfl)
            (try simp only [Act.put, List.setIfInBounds_toArray, List.set_cons_zero, List.set_cons_succ])
            refine QK.take HK ?_ (by rfl) ?_ ?_
            rotate_left
            · (intro w hw; (try have hcs := hcells w hw); (try go_split_ands); go_simp <;> with_reducible rfl)
            (try simp only [Act.put, List.setIfInBounds_toArray, List.set_cons_zero, List.set_cons_succ])
            refine QK.take HK ?_ (by rfl) ?_ ?_
            rotate_left
            · (intro w hw; (try have hcs := hcells w hw); (try go_split_ands); go_simp <;> with_reducible rfl)
            (try simp only [Act.put, List.setIfInBounds_toArray, List.set_cons_zero, List.set_cons_succ])
            refine QK.take HK ?_ (by rfl) ?_ ?_
            rotate_left
            · (intro w hw; (try have hcs := hcells w hw); (try go_split_ands); go_simp <;> with_reducible rfl)
            (try simp only [Act.put, List.setIfInBounds_toArray, List.set_cons_zero, List.set_cons_succ])
            refine QK.take HK ?_ (by rfl) ?_ ?_
            rotate_left
            · (intro w hw; (try have hcs := hcells w hw); (try go_split_ands); go_simp <;> with_reducible rfl)
            (try simp only [Act.put, List.setIfInBounds_toArray, List.set_cons_zero, List.set_cons_succ])
            refine QK.take HK ?_ (by rfl) ?_ ?_
            rotate_left
            · (intro w hw; (try have hcs := hcells w hw); (try go_split_ands); go_simp <;> with_reducible rfl)
            (try simp only [Act.put, List.setIfInBounds_toArray, List.set_cons_zero, List.set_cons_succ])
            refine QK.take HK ?_ (by rfl) ?_ ?_
            rotate_left
            · (intro w hw; (try have hcs := hcells w hw); (try go_split_ands); go_simp <;> with_reducible rfl)
            (try simp only [Act.put, List.setIfInBounds_toArray, List.set_cons_zero, List.set_cons_succ])
            refine QK.take HK ?_ (by rfl) ?_ ?_
            rotate_left
            · (intro w hw; (try have hcs := hcells w hw); (try go_split_ands); go_simp <;> with_reducible rfl)
            (try simp only [Act.put, List.setIfInBounds_toArray, List.set_cons_zero, List.set_cons_succ])
            refine QK.skip HK (by rfl) ?_
            (try simp only [Act.put, List.setIfInBounds_toArray, List.set_cons_zero, List.set_cons_succ])
            refine QK.skip HK (by rfl) ?_
            (try simp only [Act.put, List.setIfInBounds_toArray, List.set_cons_zero, List.set_cons_succ])
            refine QK.skip HK (by rfl) ?_
            (try simp only [Act.put, List.setIfInBounds_toArray, List.set_cons_zero, List.set_cons_succ])
            refine QK.skip HK (by rfl) ?_
            (try simp only [Act.put, List.setIfInBounds_toArray, List.set_cons_zero, List.set_cons_succ])
            refine QK.take HK ?_ (by rfl) ?_ ?_
            rotate_left
            · (intro w hw; (try have hcs := hcells w hw); (try go_split_ands); go_simp <;> with_reducible rfl)
            (try simp only [Act.put, List.setIfInBounds_toArray, List.set_cons_zero, List.set_cons_succ])
            refine QK.take HK ?_ (by rfl) ?_ ?_
            rotate_left
            · (intro w hw; (try have hcs := hcells w hw); (try go_split_ands); go_simp <;> with_reducible rfl)
            (try simp only [Act.put, List.setIfInBounds_toArray, List.set_cons_zero, List.set_cons_succ])
            refine QK.take HK ?_ (by rfl) ?_ ?_
            rotate_left
            · (intro w hw; (try have hcs := hcells w hw); (try go_split_ands); go_simp <;> with_reducible rfl)
            (try simp only [Act.put, List.setIfInBounds_toArray, List.set_cons_zero, List.set_cons_succ])
            refine QK.take HK ?_ (by rfl) ?_ ?_
            rotate_left
            · (intro w hw; (try have hcs := hcells w hw); (try go_split_ands); go_simp <;> with_reducible rfl)
            (try simp only [Act.put, List.setIfInBounds_toArray, List.set_cons_zero, List.set_cons_succ])
            refine QK.take HK ?_ (by rfl) ?_ ?_
            rotate_left
            · (intro w hw; (try have hcs := hcells w hw); (try go_split_ands); go_simp <;> with_reducible rfl)
            (try simp only [Act.put, List.setIfInBounds_toArray, List.set_cons_zero, List.set_cons_succ])
            refine QK.take HK ?_ (by rfl) ?_ ?_
            rotate_left
            · (intro w hw; (try have hcs := hcells w hw); (try go_split_ands); go_simp <;> with_reducible rfl)
            (try simp only [Act.put, List.setIfInBounds_toArray, List.set_cons_zero, List.set_cons_succ])
            refine QK.take HK ?_ (by rfl) ?_ ?_
            rotate_left
            · (intro w hw; (try have hcs := hcells w hw); (try go_split_ands); go_simp <;> with_reducible rfl)
            (try simp only [Act.put, List.setIfInBounds_toArray, List.set_cons_zero, List.set_cons_succ])
            refine QK.skip HK (by rfl) ?_
            (try simp only [Act.put, List.setIfInBounds_toArray, List.set_cons_zero, List.set_cons_succ])
            refine QK.skip HK (by rfl) ?_
            (try simp only [Act.put, List.setIfInBounds_toArray, List.set_cons_zero, List.set_cons_succ])
            refine QK.skip HK (by rfl) ?_
            (try simp only [Act.put, List.setIfInBounds_toArray, List.set_cons_zero, List.set_cons_succ])
            refine QK.skip HK (by rfl) ?_
            (try simp only [Act.put, List.setIfInBounds_toArray, List.set_cons_zero, List.set_cons_succ])
            refine QK.skip HK (by rfl) ?_
            (try simp only [Act.put, List.setIfInBounds_toArray, List.set_cons_zero, List.set_cons_succ])
            refine QK.take HK ?_ (by rfl) ?_ ?_
            rotate_left
            · (intro w hw; (try have hcs := hcells w hw); (try go_split_ands); go_simp <;> with_reducible rfl)
            (try simp only [Act.put, List.setIfInBounds_toArray, List.set_cons_zero, List.set_cons_succ])
            refine QK.take HK ?_ (by rfl) ?_ ?_
            rotate_left
            · (intro w hw; (try have hcs := hcells w hw); (try go_split_ands); go_simp <;> with_reducible rfl)
            (try simp only [Act.put, List.setIfInBounds_toArray, List.set_cons_zero, List.set_cons_succ])
            refine QK.nil HK ?_
            clear HK K
            intro wq hq
            have hg := (hgr wq hq).1
            clear hcells hin hcl hgr hq
            go_wp2
            go_meet
            case rel => exact ⟨rfl, hg⟩
          · have f1 : (b1 == a1) = false := by simp [e1]
            clear e1 hc
            obtain ⟨C, hin, hcl, hcells, hgr⟩ : ∃ C : World → Prop, (∀ w', W3.heap.size ≤ w'.heap.size ∧ IsGr W3 w' ∧ (w'.cell? ⟨w.heap.size, 0, none⟩ = some (.int .i64 a1) ∧ w'.cell? ⟨w.heap.size, 1, none⟩ = some (.int .i64 a2) ∧ w'.cell? ⟨w.heap.size, 2, none⟩ = some (.int .i64 b1) ∧ w'.cell? ⟨w.heap.size, 3, none⟩ = some (.int .i64 b2)) ∧ (w'.cell? ⟨g6, 0, none⟩ = some (.int .i64 b1) ∧ w'.cell? ⟨g6, 1, none⟩ = some (.int .i64 b2)) ∧ (w'.cell? ⟨g7, 0, none⟩ = some (.int .i64 a1) ∧ w'.cell? ⟨g7, 1, none⟩ = some (.int .i64 a2)) → C w') ∧ (∀ u u', C u → IsGr u u' → C u') ∧ (∀ w', C w' → (w'.cell? ⟨w.heap.size, 0, none⟩ = some (.int .i64 a1) ∧ w'.cell? ⟨w.heap.size, 1, none⟩ = some (.int .i64 a2) ∧ w'.cell? ⟨w.heap.size, 2, none⟩ = some (.int .i64 b1) ∧ w'.cell? ⟨w.heap.size, 3, none⟩ = some (.int .i64 b2)) ∧ (w'.cell? ⟨g6, 0, none⟩ = some (.int .i64 b1) ∧ w'.cell? ⟨g6, 1, none⟩ = some (.int .i64 b2)) ∧ (w'.cell? ⟨g7, 0, none⟩ = some (.int .i64 a1) ∧ w'.cell? ⟨g7, 1, none⟩ = some (.int .i64 a2))) ∧ (∀ w', C w' → IsGr W3 w' ∧ W3.heap.size ≤ w'.heap.size) := by
              refine ⟨fun w' => W3.heap.size ≤ w'.heap.size ∧ IsGr W3 w' ∧ (w'.cell? ⟨w.heap.size, 0, none⟩ = some (.int .i64 a1) ∧ w'.cell? ⟨w.heap.size, 1, none⟩ = some (.int .i64 a2) ∧ w'.cell? ⟨w.heap.size, 2, none⟩ = some (.int .i64 b1) ∧ w'.cell? ⟨w.heap.size, 3, none⟩ = some (.int .i64 b2)) ∧ (w'.cell? ⟨g6, 0, none⟩ = some (.int .i64 b1) ∧ w'.cell? ⟨g6, 1, none⟩ = some (.int .i64 b2)) ∧ (w'.cell? ⟨g7, 0, none⟩ = some (.int .i64 a1) ∧ w'.cell? ⟨g7, 1, none⟩ = some (.int .i64 a2)), fun w' h => h, ?_, fun w' h => h.2.2, fun w' h => ⟨h.2.1, h.1⟩⟩
              rintro u u' ⟨h0, h1, h2⟩ hg
              refine ⟨Nat.le_trans h0 hg.size, h1.trans hg, ?_⟩
              exact ⟨⟨hg.cell_at (by omega) h2.1.1, hg.cell_at (by omega) h2.1.2.1, hg.cell_at (by omega) h2.1.2.2.1, hg.cell_at (by omega) h2.1.2.2.2⟩, ⟨hg.cell_at (by omega) h2.2.1.1, hg.cell_at (by omega) h2.2.1.2⟩, ⟨hg.cell_at (by omega) h2.2.2.1, hg.cell_at (by omega) h2.2.2.2⟩⟩
            refine wp_region_quietV C (by kernel_rfl) (by kernel_rfl) (hin _ ⟨by simp, (by with_reducible repeat (first | exact IsGr.refl _ | refine IsGr.gr ?_ _ _ | refine IsGr.alloc ?_ _ | refine IsGr.drew ?_ | refine IsGr.drewN ?_ _)), ⟨qa, q6, q7⟩⟩) (fun K HK => ?_)
            refine QK.take HK ?_ (by rfl) ?_ ?_
            rotate_left
            · (intro w hw; (try have hcs := hcells w hw); (try go_split_ands); go_simp <;> with_reducible rfl)
            (try simp only [Act.put, List.setIfInBounds_toArray, List.set_cons_zero, List.set_cons_succ])
            refine QK.call HK 22 #[.agg #[.int .i64 a1, .int .i64 a2]] (.agg #[.int .i64 a1, .int .i64 a2]) hcl (by rfl) (fun w => by go_simp) Fa ?_
            (try simp only [Act.put, List.setIfInBounds_toArray, List.set_cons_zero, List.set_cons_succ])
            refine QK.take HK ?_ (by rfl) ?_ ?_
            rotate_left
            · (intro w hw; (try have hcs := hcells w hw); (try go_split_ands); go_simp <;> with_reducible rfl)
            (try simp only [Act.put, List.setIfInBounds_toArray, List.set_cons_zero, List.set_cons_succ])
            refine QK.call HK 22 #[.agg #[.int .i64 b1, .int .i64 b2]] (.agg #[.int .i64 b1, .int .i64 b2]) hcl (by rfl) (fun w => by go_simp) Fb ?_
            (try simp only [Act.put, List.setIfInBounds_toArray, List.set_cons_zero, List.set_cons_succ])
            refine QK.call HK 18 #[.agg #[.int .i64 a1, .int .i64 a2], .agg #[.int .i64 b1, .int .i64 b2]] (.bool false) hcl (by rfl) (fun w => by go_simp) CAH ?_
            (try simp only [Act.put, List.setIfInBounds_toArray, List.set_cons_zero, List.set_cons_succ])
            refine QK.take HK ?_ (by rfl) ?_ ?_
            rotate_left
            · (intro w hw; (try have hcs := hcells w hw); (try go_split_ands); go_simp <;> with_reducible rfl)
            (try simp only [Act.put, List.setIfInBounds_toArray, List.set_cons_zero, List.set_cons_succ])
            refine QK.take HK ?_ (by rfl) ?_ ?_
            rotate_left
            · (intro w hw; (try have hcs := hcells w hw); (try go_split_ands); go_simp <;> with_reducible rfl)
            (try simp only [Act.put, List.setIfInBounds_toArray, List.set_cons_zero, List.set_cons_succ])
            refine QK.take HK ?_ (by rfl) ?_ ?_
            rotate_left
            · (intro w hw; (try have hcs := hcells w hw); (try go_split_ands); go_simp <;> with_reducible rfl)
            (try simp only [Act.put, List.setIfInBounds_toArray, List.set_cons_zero, List.set_cons_succ])
            refine QK.take HK ?_ (by rfl) ?_ ?_
            rotate_left
            · (intro w hw; (try have hcs := hcells w hw); (try go_split_ands); go_simp <;> with_reducible rfl)
            (try simp only [Act.put, List.setIfInBounds_toArray, List.set_cons_zero, List.set_cons_succ])
            refine QK.take HK ?_ (by rfl) ?_ ?_
            rotate_left
            · (intro w hw; (try have hcs := hcells w hw); (try go_split_ands); go_simp <;> with_reducible rfl)
            (try simp only [Act.put, List.setIfInBounds_toArray, List.set_cons_zero, List.set_cons_succ])
            refine QK.take HK ?_ (by rfl) ?_ ?_
            rotate_left
            · (intro w hw; (try have hcs := hcells w hw); (try go_split_ands); go_simp <;> with_reducible rfl)
            (try simp only [Act.put, List.setIfInBounds_toArray, List.set_cons_zero, List.set_cons_succ])
            refine QK.take HK ?_ (by rfl) ?_ ?_
            rotate_left
            · (intro w hw; (try have hcs := hcells w hw); (try go_split_ands); go_simp <;> with_reducible rfl)
            (try simp only [Act.put, List.setIfInBounds_toArray, List.set_cons_zero, List.set_cons_succ])
            refine QK.take HK ?_ (by rfl) ?_ ?_
            rotate_left
            · (intro w hw; (try have hcs := hcells w hw); (try go_split_ands); go_simp <;> with_reducible rfl)
            (try simp only [Act.put, List.setIfInBounds_toArray, List.set_cons_zero, List.set_cons_succ])
            refine QK.take HK ?_ (by rfl) ?_ ?_
            rotate_left
            · (intro w hw; (try have hcs := hcells w hw); (try go_split_ands); go_simp <;> with_reducible rfl)
            (try simp only [Act.put, List.setIfInBounds_toArray, List.set_cons_zero, List.set_cons_succ])
            refine QK.take HK ?_ (by rfl) ?_ ?_
            rotate_left
            · (intro w hw; (try have hcs := hcells w hw); (try go_split_ands); go_simp <;> with_reducible rfl)
            (try simp only [Act.put, List.setIfInBounds_toArray, List.set_cons_zero, List.set_cons_succ])
            refine QK.take HK ?_ (by rfl) ?_ ?_
            rotate_left
            · (intro w hw; (try have hcs := hcells w hw); (try go_split_ands); go_simp <;> with_reducible rfl)
            (try simp only [Act.put, List.setIfInBounds_toArray, List.set_cons_zero, List.set_cons_succ])
            refine QK.take HK ?_ (by rfl) ?_ ?_
            rotate_left
            · (intro w hw; (try have hcs := hcells w hw); (try go_split_ands); go_simp <;> with_reducible rfl)
            (try simp only [Act.put, List.setIfInBounds_toArray, List.set_cons_zero, List.set_cons_succ])
            refine QK.take HK ?_ (by rfl) ?_ ?_
            rotate_left
            · (intro w hw; (try have hcs := hcells w hw); (try go_split_ands); go_simp <;> with_reducible rfl)
            (try simp only [Act.put, List.setIfInBounds_toArray, List.set_cons_zero, List.set_cons_succ])
            refine QK.take HK ?_ (by rfl) ?_ ?_
            rotate_left
            · (intro w hw; (try have hcs := hcells w hw); (try go_split_ands); go_simp <;> with_reducible rfl)
            (try simp only [Act.put, List.setIfInBounds_toArray, List.set_cons_zero, List.set_cons_succ])
            refine QK.take HK ?_ (by rfl) ?_ ?_
            rotate_left
            · (intro w hw; (try have hcs := hcells w hw); (try go_split_ands); go_simp <;> with_reducible rfl)
            (try simp only [Act.put, List.setIfInBounds_toArray, List.set_cons_zero, List.set_cons_succ])
            refine QK.take HK ?_ (by rfl) ?_ ?_
            rotate_left
            · (intro w hw; (try have hcs := hcells w hw); (try go_split_ands); go_simp <;> with_reducible rfl)
            (try simp only [Act.put, List.setIfInBounds_toArray, List.set_cons_zero, List.set_cons_succ])
            refine QK.take HK ?_ (by rfl) ?_ ?_
            rotate_left
            · (intro w hw; (try have hcs := hcells w hw); (try go_split_ands); go_simp <;> with_reducible rfl)
            (try simp only [Act.put, List.setIfInBounds_toArray, List.set_cons_zero, List.set_cons_succ])
            refine QK.take HK ?_ (by rfl) ?_ ?_
            rotate_left
            · (intro w hw; (try have hcs := hcells w hw); (try go_split_ands); go_simp <;> with_reducible rfl)
            (try simp only [Act.put, List.setIfInBounds_toArray, List.set_cons_zero, List.set_cons_succ])
            refine QK.skip HK (by rfl) ?_
            (try simp only [Act.put, List.setIfInBounds_toArray, List.set_cons_zero, List.set_cons_succ])
            refine QK.skip HK (by rfl) ?_
            (try simp only [Act.put, List.setIfInBounds_toArray, List.set_cons_zero, List.set_cons_succ])
            refine QK.skip HK (by rfl) ?_
            (try simp only [Act.put, List.setIfInBounds_toArray, List.set_cons_zero, List.set_cons_succ])
            refine QK.skip HK (by rfl) ?_
            (try simp only [Act.put, List.setIfInBounds_toArray, List.set_cons_zero, List.set_cons_succ])
            refine QK.take HK ?_ (by rfl) ?_ ?_
            rotate_left
            · (intro w hw; (try have hcs := hcells w hw); (try go_split_ands); go_simp <;> with_reducible rfl)
            (try simp only [Act.put, List.setIfInBounds_toArray, List.set_cons_zero, List.set_cons_succ])
            refine QK.take HK ?_ (by rfl) ?_ ?_
            rotate_left
            · (intro w hw; (try have hcs := hcells w hw); (try go_split_ands); go_simp <;> with_reducible rfl)
            (try simp only [Act.put, List.setIfInBounds_toArray, List.set_cons_zero, List.set_cons_succ])
            refine QK.take HK ?_ (by rfl) ?_ ?_
            rotate_left
            · (intro w hw; (try have hcs := hcells w hw); (try go_split_ands); go_simp <;> with_reducible rfl)
            (try simp only [Act.put, List.setIfInBounds_toArray, List.set_cons_zero, List.set_cons_succ])
            refine QK.take HK ?_ (by rfl) ?_ ?_
            rotate_left
            · (intro w hw; (try have hcs := hcells w hw); (try go_split_ands); go_simp <;> with_reducible rfl)
            (try simp only [Act.put, List.setIfInBounds_toArray, List.set_cons_zero, List.set_cons_succ])
            refine QK.take HK ?_ (by rfl) ?_ ?_
            rotate_left
            · (intro w hw; (try have hcs := hcells w hw); (try go_split_ands); go_simp <;> with_reducible rfl)
            (try simp only [Act.put, List.setIfInBounds_toArray, List.set_cons_zero, List.set_cons_succ])
            refine QK.take HK ?_ (by rfl) ?_ ?_
            rotate_left
            · (intro w hw; (try have hcs := hcells w hw); (try go_split_ands); go_simp <;> with_reducible rfl)
            (try simp only [Act.put, List.setIfInBounds_toArray, List.set_cons_zero, List.set_cons_succ])
            refine QK.take HK ?_ (by rfl) ?_ ?_
            rotate_left
            · (intro w hw; (try have hcs := hcells w hw); (try go_split_ands); go_simp <;> with_reducible rfl)
            (try simp only [Act.put, List.setIfInBounds_toArray, List.set_cons_zero, List.set_cons_succ])
            refine QK.skip HK (by rfl) ?_
            (try simp only [Act.put, List.setIfInBounds_toArray, List.set_cons_zero, List.set_cons_succ])
            refine QK.skip HK (by rfl) ?_
            (try simp only [Act.put, List.setIfInBounds_toArray, List.set_cons_zero, List.set_cons_succ])
            refine QK.skip HK (by rfl) ?_
            (try simp only [Act.put, List.setIfInBounds_toArray, List.set_cons_zero, List.set_cons_succ])
            refine QK.skip HK (by rfl) ?_
            (try simp only [Act.put, List.setIfInBounds_toArray, List.set_cons_zero, List.set_cons_succ])
            refine QK.skip HK (by rfl) ?_
            (try simp only [Act.put, List.setIfInBounds_toArray, List.set_cons_zero, List.set_cons_succ])
            refine QK.take HK ?_ (by rfl) ?_ ?_
            rotate_left
            · (intro w hw; (try have hcs := hcells w hw); (try go_split_ands); go_simp <;> with_reducible rfl)
            (try simp only [Act.put, List.setIfInBounds_toArray, List.set_cons_zero, List.set_cons_succ])
            refine QK.take HK ?_ (by rfl) ?_ ?_
            rotate_left
            · (intro w hw; (try have hcs := hcells w hw); (try go_split_ands); go_simp <;> with_reducible rfl)
            (try simp only [Act.put, List.setIfInBounds_toArray, List.set_cons_zero, List.set_cons_succ])
            refine QK.nil HK ?_
            clear HK K
            intro wq hq
            have hg := (hgr wq hq).1
            clear hcells hin hcl hgr hq
            go_wp2
            go_meet
            case rel => exact ⟨rfl, hg⟩
        case rest =>
          obtain ⟨rfl, hgr⟩ := hcut
          obtain ⟨W4, hW9⟩ : ∃ W4, W4 = wc := ⟨_, rfl⟩
          subst hW9
          replace qa : (W4.cell? ⟨w.heap.size, 0, none⟩ = some (.int .i64 a1) ∧ W4.cell? ⟨w.heap.size, 1, none⟩ = some (.int .i64 a2) ∧ W4.cell? ⟨w.heap.size, 2, none⟩ = some (.int .i64 b1) ∧ W4.cell? ⟨w.heap.size, 3, none⟩ = some (.int .i64 b2)) := ⟨hgr.cell_at ka qa.1, hgr.cell_at ka qa.2.1, hgr.cell_at ka qa.2.2.1, hgr.cell_at ka qa.2.2.2⟩
          replace q5 : (W4.cell? ⟨g5, 0, none⟩ = some (.bool xs) ∧ W4.cell? ⟨g5, 1, none⟩ = some (.slice xa xn xc) ∧ W4.cell? ⟨g5, 2, none⟩ = some (.bool ys) ∧ W4.cell? ⟨g5, 3, none⟩ = some (.slice ya yn yc) ∧ W4.cell? ⟨g5, 4, none⟩ = some (.bool zs) ∧ W4.cell? ⟨g5, 5, none⟩ = some (.slice za zn zc)) := ⟨hgr.cell_at k5 q5.1, hgr.cell_at k5 q5.2.1, hgr.cell_at k5 q5.2.2.1, hgr.cell_at k5 q5.2.2.2.1, hgr.cell_at k5 q5.2.2.2.2.1, hgr.cell_at k5 q5.2.2.2.2.2⟩
          replace q6 : (W4.cell? ⟨g6, 0, none⟩ = some (.int .i64 b1) ∧ W4.cell? ⟨g6, 1, none⟩ = some (.int .i64 b2)) := ⟨hgr.cell_at k6 q6.1, hgr.cell_at k6 q6.2⟩
          replace q7 : (W4.cell? ⟨g7, 0, none⟩ = some (.int .i64 a1) ∧ W4.cell? ⟨g7, 1, none⟩ = some (.int .i64 a2)) := ⟨hgr.cell_at k7 q7.1, hgr.cell_at k7 q7.2⟩
          replace qx : (W4.cell? ⟨w.heap.size + 1, 0, none⟩ = some (.int .u64 (wd0 x)) ∧ W4.cell? ⟨w.heap.size + 1, 1, none⟩ = some (.int .u64 (wd1 x)) ∧ W4.cell? ⟨w.heap.size + 1, 2, none⟩ = some (.int .u64 (wd2 x)) ∧ W4.cell? ⟨w.heap.size + 1, 3, none⟩ = some (.int .u64 (wd3 x)) ∧ W4.cell? ⟨w.heap.size + 1, 4, none⟩ = some (.int .u64 (wd0 y)) ∧ W4.cell? ⟨w.heap.size + 1, 5, none⟩ = some (.int .u64 (wd1 y)) ∧ W4.cell? ⟨w.heap.size + 1, 6, none⟩ = some (.int .u64 (wd2 y)) ∧ W4.cell? ⟨w.heap.size + 1, 7, none⟩ = some (.int .u64 (wd3 y)) ∧ W4.cell? ⟨w.heap.size + 1, 8, none⟩ = some (.int .u64 (wd0 z)) ∧ W4.cell? ⟨w.heap.size + 1, 9, none⟩ = some (.int .u64 (wd1 z)) ∧ W4.cell? ⟨w.heap.size + 1, 10, none⟩ = some (.int .u64 (wd2 z)) ∧ W4.cell? ⟨w.heap.size + 1, 11, none⟩ = some (.int .u64 (wd3 z))) := ⟨hgr.cell_at (by omega) qx.1, hgr.cell_at (by omega) qx.2.1, hgr.cell_at (by omega) qx.2.2.1, hgr.cell_at (by omega) qx.2.2.2.1, hgr.cell_at (by omega) qx.2.2.2.2.1, hgr.cell_at (by omega) qx.2.2.2.2.2.1, hgr.cell_at (by omega) qx.2.2.2.2.2.2.1, hgr.cell_at (by omega) qx.2.2.2.2.2.2.2.1, hgr.cell_at (by omega) qx.2.2.2.2.2.2.2.2.1, hgr.cell_at (by omega) qx.2.2.2.2.2.2.2.2.2.1, hgr.cell_at (by omega) qx.2.2.2.2.2.2.2.2.2.2.1, hgr.cell_at (by omega) qx.2.2.2.2.2.2.2.2.2.2.2⟩
          have hsz := hgr.size
          replace HG : Hid (IsGr w W4) := HG.out.trans hgr
          replace CT := fun w1 (hg : IsGr W4 w1) => CT w1 (hgr.trans hg)
          replace CHR := fun w1 (hg : IsGr W4 w1) => CHR w1 (hgr.trans hg)
          replace k5 : g5 < W4.heap.size := by omega
          replace k6 : g6 < W4.heap.size := by omega
          replace k7 : g7 < W4.heap.size := by omega
          replace ka : w.heap.size < W4.heap.size := by omega
          replace ks : w.heap.size + 2 ≤ W4.heap.size := by omega
          clear hgr hsz CAH hc
          go_upto_region 7 with fail
          obtain ⟨C, hin, hcl, hcells, hgr⟩ : ∃ C : World → Prop, (∀ w', W4.heap.size ≤ w'.heap.size ∧ IsGr W4 w' ∧ (w'.cell? ⟨w.heap.size, 0, none⟩ = some (.int .i64 a1) ∧ w'.cell? ⟨w.heap.size, 1, none⟩ = some (.int .i64 a2) ∧ w'.cell? ⟨w.heap.size, 2, none⟩ = some (.int .i64 b1) ∧ w'.cell? ⟨w.heap.size, 3, none⟩ = some (.int .i64 b2)) ∧ (w'.cell? ⟨w.heap.size + 1, 0, none⟩ = some (.int .u64 (wd0 x)) ∧ w'.cell? ⟨w.heap.size + 1, 1, none⟩ = some (.int .u64 (wd1 x)) ∧ w'.cell? ⟨w.heap.size + 1, 2, none⟩ = some (.int .u64 (wd2 x)) ∧ w'.cell? ⟨w.heap.size + 1, 3, none⟩ = some (.int .u64 (wd3 x)) ∧ w'.cell? ⟨w.heap.size + 1, 4, none⟩ = some (.int .u64 (wd0 y)) ∧ w'.cell? ⟨w.heap.size + 1, 5, none⟩ = some (.int .u64 (wd1 y)) ∧ w'.cell? ⟨w.heap.size + 1, 6, none⟩ = some (.int .u64 (wd2 y)) ∧ w'.cell? ⟨w.heap.size + 1, 7, none⟩ = some (.int .u64 (wd3 y)) ∧ w'.cell? ⟨w.heap.size + 1, 8, none⟩ = some (.int .u64 (wd0 z)) ∧ w'.cell? ⟨w.heap.size + 1, 9, none⟩ = some (.int .u64 (wd1 z)) ∧ w'.cell? ⟨w.heap.size + 1, 10, none⟩ = some (.int .u64 (wd2 z)) ∧ w'.cell? ⟨w.heap.size + 1, 11, none⟩ = some (.int .u64 (wd3 z))) ∧ (w'.cell? ⟨g5, 0, none⟩ = some (.bool xs) ∧ w'.cell? ⟨g5, 1, none⟩ = some (.slice xa xn xc) ∧ w'.cell? ⟨g5, 2, none⟩ = some (.bool ys) ∧ w'.cell? ⟨g5, 3, none⟩ = some (.slice ya yn yc) ∧ w'.cell? ⟨g5, 4, none⟩ = some (.bool zs) ∧ w'.cell? ⟨g5, 5, none⟩ = some (.slice za zn zc)) ∧ (w'.cell? ⟨g6, 0, none⟩ = some (.int .i64 b1) ∧ w'.cell? ⟨g6, 1, none⟩ = some (.int .i64 b2)) ∧ (w'.cell? ⟨g7, 0, none⟩ = some (.int .i64 a1) ∧ w'.cell? ⟨g7, 1, none⟩ = some (.int .i64 a2)) → C w') ∧ (∀ u u', C u → IsGr u u' → C u') ∧ (∀ w', C w' → (w'.cell? ⟨w.heap.size, 0, none⟩ = some (.int .i64 a1) ∧ w'.cell? ⟨w.heap.size, 1, none⟩ = some (.int .i64 a2) ∧ w'.cell? ⟨w.heap.size, 2, none⟩ = some (.int .i64 b1) ∧ w'.cell? ⟨w.heap.size, 3, none⟩ = some (.int .i64 b2)) ∧ (w'.cell? ⟨w.heap.size + 1, 0, none⟩ = some (.int .u64 (wd0 x)) ∧ w'.cell? ⟨w.heap.size + 1, 1, none⟩ = some (.int .u64 (wd1 x)) ∧ w'.cell? ⟨w.heap.size + 1, 2, none⟩ = some (.int .u64 (wd2 x)) ∧ w'.cell? ⟨w.heap.size + 1, 3, none⟩ = some (.int .u64 (wd3 x)) ∧ w'.cell? ⟨w.heap.size + 1, 4, none⟩ = some (.int .u64 (wd0 y)) ∧ w'.cell? ⟨w.heap.size + 1, 5, none⟩ = some (.int .u64 (wd1 y)) ∧ w'.cell? ⟨w.heap.size + 1, 6, none⟩ = some (.int .u64 (wd2 y)) ∧ w'.cell? ⟨w.heap.size + 1, 7, none⟩ = some (.int .u64 (wd3 y)) ∧ w'.cell? ⟨w.heap.size + 1, 8, none⟩ = some (.int .u64 (wd0 z)) ∧ w'.cell? ⟨w.heap.size + 1, 9, none⟩ = some (.int .u64 (wd1 z)) ∧ w'.cell? ⟨w.heap.size + 1, 10, none⟩ = some (.int .u64 (wd2 z)) ∧ w'.cell? ⟨w.heap.size + 1, 11, none⟩ = some (.int .u64 (wd3 z))) ∧ (w'.cell? ⟨g5, 0, none⟩ = some (.bool xs) ∧ w'.cell? ⟨g5, 1, none⟩ = some (.slice xa xn xc) ∧ w'.cell? ⟨g5, 2, none⟩ = some (.bool ys) ∧ w'.cell? ⟨g5, 3, none⟩ = some (.slice ya yn yc) ∧ w'.cell? ⟨g5, 4, none⟩ = some (.bool zs) ∧ w'.cell? ⟨g5, 5, none⟩ = some (.slice za zn zc)) ∧ (w'.cell? ⟨g6, 0, none⟩ = some (.int .i64 b1) ∧ w'.cell? ⟨g6, 1, none⟩ = some (.int .i64 b2)) ∧ (w'.cell? ⟨g7, 0, none⟩ = some (.int .i64 a1) ∧ w'.cell? ⟨g7, 1, none⟩ = some (.int .i64 a2))) ∧ (∀ w', C w' → IsGr W4 w' ∧ W4.heap.size ≤ w'.heap.size) := by
            refine ⟨fun w' => W4.heap.size ≤ w'.heap.size ∧ IsGr W4 w' ∧ (w'.cell? ⟨w.heap.size, 0, none⟩ = some (.int .i64 a1) ∧ w'.cell? ⟨w.heap.size, 1, none⟩ = some (.int .i64 a2) ∧ w'.cell? ⟨w.heap.size, 2, none⟩ = some (.int .i64 b1) ∧ w'.cell? ⟨w.heap.size, 3, none⟩ = some (.int .i64 b2)) ∧ (w'.cell? ⟨w.heap.size + 1, 0, none⟩ = some (.int .u64 (wd0 x)) ∧ w'.cell? ⟨w.heap.size + 1, 1, none⟩ = some (.int .u64 (wd1 x)) ∧ w'.cell? ⟨w.heap.size + 1, 2, none⟩ = some (.int .u64 (wd2 x)) ∧ w'.cell? ⟨w.heap.size + 1, 3, none⟩ = some (.int .u64 (wd3 x)) ∧ w'.cell? ⟨w.heap.size + 1, 4, none⟩ = some (.int .u64 (wd0 y)) ∧ w'.cell? ⟨w.heap.size + 1, 5, none⟩ = some (.int .u64 (wd1 y)) ∧ w'.cell? ⟨w.heap.size + 1, 6, none⟩ = some (.int .u64 (wd2 y)) ∧ w'.cell? ⟨w.heap.size + 1, 7, none⟩ = some (.int .u64 (wd3 y)) ∧ w'.cell? ⟨w.heap.size + 1, 8, none⟩ = some (.int .u64 (wd0 z)) ∧ w'.cell? ⟨w.heap.size + 1, 9, none⟩ = some (.int .u64 (wd1 z)) ∧ w'.cell? ⟨w.heap.size + 1, 10, none⟩ = some (.int .u64 (wd2 z)) ∧ w'.cell? ⟨w.heap.size + 1, 11, none⟩ = some (.int .u64 (wd3 z))) ∧ (w'.cell? ⟨g5, 0, none⟩ = some (.bool xs) ∧ w'.cell? ⟨g5, 1, none⟩ = some (.slice xa xn xc) ∧ w'.cell? ⟨g5, 2, none⟩ = some (.bool ys) ∧ w'.cell? ⟨g5, 3, none⟩ = some (.slice ya yn yc) ∧ w'.cell? ⟨g5, 4, none⟩ = some (.bool zs) ∧ w'.cell? ⟨g5, 5, none⟩ = some (.slice za zn zc)) ∧ (w'.cell? ⟨g6, 0, none⟩ = some (.int .i64 b1) ∧ w'.cell? ⟨g6, 1, none⟩ = some (.int .i64 b2)) ∧ (w'.cell? ⟨g7, 0, none⟩ = some (.int .i64 a1) ∧ w'.cell? ⟨g7, 1, none⟩ = some (.int .i64 a2)), fun w' h => h, ?_, fun w' h => h.2.2, fun w' h => ⟨h.2.1, h.1⟩⟩
            rintro u u' ⟨h0, h1, h2⟩ hg
            refine ⟨Nat.le_trans h0 hg.size, h1.trans hg, ?_⟩
            exact ⟨⟨hg.cell_at (by omega) h2.1.1, hg.cell_at (by omega) h2.1.2.1, hg.cell_at (by omega) h2.1.2.2.1, hg.cell_at (by omega) h2.1.2.2.2⟩, ⟨hg.cell_at (by omega) h2.2.1.1, hg.cell_at (by omega) h2.2.1.2.1, hg.cell_at (by omega) h2.2.1.2.2.1, hg.cell_at (by omega) h2.2.1.2.2.2.1, hg.cell_at (by omega) h2.2.1.2.2.2.2.1, hg.cell_at (by omega) h2.2.1.2.2.2.2.2.1, hg.cell_at (by omega) h2.2.1.2.2.2.2.2.2.1, hg.cell_at (by omega) h2.2.1.2.2.2.2.2.2.2.1, hg.cell_at (by omega) h2.2.1.2.2.2.2.2.2.2.2.1, hg.cell_at (by omega) h2.2.1.2.2.2.2.2.2.2.2.2.1, hg.cell_at (by omega) h2.2.1.2.2.2.2.2.2.2.2.2.2.1, hg.cell_at (by omega) h2.2.1.2.2.2.2.2.2.2.2.2.2.2⟩, ⟨hg.cell_at (by omega) h2.2.2.1.1, hg.cell_at (by omega) h2.2.2.1.2.1, hg.cell_at (by omega) h2.2.2.1.2.2.1, hg.cell_at (by omega) h2.2.2.1.2.2.2.1, hg.cell_at (by omega) h2.2.2.1.2.2.2.2.1, hg.cell_at (by omega) h2.2.2.1.2.2.2.2.2⟩, ⟨hg.cell_at (by omega) h2.2.2.2.1.1, hg.cell_at (by omega) h2.2.2.2.1.2⟩, ⟨hg.cell_at (by omega) h2.2.2.2.2.1, hg.cell_at (by omega) h2.2.2.2.2.2⟩⟩
          refine wp_region_held_drew (S := C) (by kernel_rfl) (by (try dsimp only); exact hin _ ⟨by simp, (by with_reducible repeat (first | exact IsGr.refl _ | refine IsGr.gr ?_ _ _ | refine IsGr.alloc ?_ _ | refine IsGr.drew ?_ | refine IsGr.drewN ?_ _)), ⟨qa, qx, q5, q6, q7⟩⟩) (fun hHeld => ?_)
          refine wpAnyH_take (i := 0) (oi := { dst := some 84, op := Op.load 46 (Operand.tmp 3), type := 46, pos := "law.go:57", after := #[], guard := none }) (v := ?_) rfl (by kernel_rfl) (by kernel_rfl) (by kernel_rfl) (fun _ _ _ h => h) (Or.inl ⟨by rfl, ?_⟩) (by assumption) ?_
          rotate_left
          · (intro w hSw; (try dsimp only at hSw); (try have hcs := hcells w hSw); (try go_split_ands); go_simp <;> with_reducible rfl)
          (try simp only [Act.put, List.setIfInBounds_toArray, List.set_cons_zero, List.set_cons_succ])
          refine wpAnyH_ready (rs := [1]) (by kernel_rfl) (by simp) ?_
          refine AllReadyH.cons (o := { dst := some 85, op := Op.call { callee := Callee.value (Operand.func 31), args := #[Operand.tmp 84], argTypes := #[46] }, type := 4, pos := "law.go:57", after := #[{ on := 0, ground := Ground.data }], guard := none }) rfl (fun K hK => ?_) AllReadyH.nil
          go_simp
          refine (CQ _).mono ?_
          rintro e w5 ⟨rfl, hg5⟩
          (try go_wp2_with fail)
          refine hK.out _ _ (by (try dsimp only); exact hcl _ _ hHeld (by first | with_reducible assumption | with_reducible exact IsGr.refl _ | with_reducible exact (IsGr.refl _).alloc _ | with_reducible exact ((IsGr.refl _).alloc _).alloc _ | assumption)) (fun hHeld2 => ?_)
          clear hK K hHeld
          have hHeld := hHeld2
          clear hHeld2
          (try simp only [Act.put, List.setIfInBounds_toArray, List.set_cons_zero, List.set_cons_succ])
          refine wpAnyH_take (i := 2) (oi := { dst := some 86, op := Op.move (Operand.tmp 85), type := 4, pos := "law.go:57", after := #[{ on := 1, ground := Ground.data }, { on := 1, ground := Ground.chain }], guard := none }) (v := ?_) rfl (by kernel_rfl) (by kernel_rfl) (by kernel_rfl) (fun _ _ _ h => h) (Or.inl ⟨by rfl, ?_⟩) (by assumption) ?_
          rotate_left
          · (intro w hSw; (try dsimp only at hSw); (try have hcs := hcells w hSw); (try go_split_ands); go_simp <;> with_reducible rfl)
          (try simp only [Act.put, List.setIfInBounds_toArray, List.set_cons_zero, List.set_cons_succ])
          refine wpAnyH_take (i := 3) (oi := { dst := some 87, op := Op.load 41 (Operand.tmp 2), type := 41, pos := "law.go:57", after := #[{ on := 2, ground := Ground.guard }], guard := some (2, true) }) (v := ?_) rfl (by kernel_rfl) (by kernel_rfl) (by kernel_rfl) (fun _ _ _ h => h) (Or.inl ⟨by rfl, ?_⟩) (by assumption) ?_
          rotate_left
          · (intro w hSw; (try dsimp only at hSw); (try have hcs := hcells w hSw); (try go_split_ands); go_simp <;> with_reducible rfl)
          (try simp only [Act.put, List.setIfInBounds_toArray, List.set_cons_zero, List.set_cons_succ])
          refine wpAnyH_take (i := 4) (oi := { dst := some 88, op := Op.load 46 (Operand.tmp 3), type := 46, pos := "law.go:57", after := #[{ on := 2, ground := Ground.guard }], guard := some (2, true) }) (v := ?_) rfl (by kernel_rfl) (by kernel_rfl) (by kernel_rfl) (fun _ _ _ h => h) (Or.inl ⟨by rfl, ?_⟩) (by assumption) ?_
          rotate_left
          · (intro w hSw; (try dsimp only at hSw); (try have hcs := hcells w hSw); (try go_split_ands); go_simp <;> with_reducible rfl)
          (try simp only [Act.put, List.setIfInBounds_toArray, List.set_cons_zero, List.set_cons_succ])
          refine wpAnyH_take (i := 6) (oi := { dst := some 90, op := Op.load 24 (Operand.tmp 6), type := 24, pos := "law.go:57", after := #[{ on := 2, ground := Ground.guard }], guard := some (2, true) }) (v := ?_) rfl (by kernel_rfl) (by kernel_rfl) (by kernel_rfl) (fun _ _ _ h => h) (Or.inl ⟨by rfl, ?_⟩) (by assumption) ?_
          rotate_left
          · (intro w hSw; (try dsimp only at hSw); (try have hcs := hcells w hSw); (try go_split_ands); go_simp <;> with_reducible rfl)
          (try simp only [Act.put, List.setIfInBounds_toArray, List.set_cons_zero, List.set_cons_succ])
          refine wpAnyH_take (i := 8) (oi := { dst := some 92, op := Op.load 24 (Operand.tmp 7), type := 24, pos := "law.go:57", after := #[{ on := 2, ground := Ground.guard }], guard := some (2, true) }) (v := ?_) rfl (by kernel_rfl) (by kernel_rfl) (by kernel_rfl) (fun _ _ _ h => h) (Or.inl ⟨by rfl, ?_⟩) (by assumption) ?_
          rotate_left
          · (intro w hSw; (try dsimp only at hSw); (try have hcs := hcells w hSw); (try go_split_ands); go_simp <;> with_reducible rfl)
          (try simp only [Act.put, List.setIfInBounds_toArray, List.set_cons_zero, List.set_cons_succ])
          refine wpAnyH_take (i := 10) (oi := { dst := some 94, op := Op.load 55 (Operand.tmp 5), type := 55, pos := "law.go:57", after := #[{ on := 2, ground := Ground.guard }], guard := some (2, true) }) (v := ?_) rfl (by kernel_rfl) (by kernel_rfl) (by kernel_rfl) (fun _ _ _ h => h) (Or.inl ⟨by rfl, ?_⟩) (by assumption) ?_
          rotate_left
          · (intro w hSw; (try dsimp only at hSw); (try have hcs := hcells w hSw); (try go_split_ands); go_simp <;> with_reducible rfl)
          (try simp only [Act.put, List.setIfInBounds_toArray, List.set_cons_zero, List.set_cons_succ])
          refine wpAnyH_ready (rs := [5]) (by kernel_rfl) (by simp) ?_
          refine AllReadyH.cons (o := { dst := some 89, op := Op.call { callee := Callee.value (Operand.func 29), args := #[Operand.tmp 87, Operand.tmp 88], argTypes := #[41, 46] }, type := 3, pos := "law.go:57", after := #[{ on := 3, ground := Ground.data }, { on := 4, ground := Ground.data }, { on := 2, ground := Ground.chain }, { on := 2, ground := Ground.guard }], guard := some (2, true) }) rfl (fun K hK => ?_) AllReadyH.nil
          go_simp
          refine (CS _).mono ?_
          rintro e w6 ⟨rfl, hg6⟩
          (try go_wp2_with fail)
          refine hK.out _ _ (by (try dsimp only); exact hcl _ _ hHeld (by first | with_reducible assumption | with_reducible exact IsGr.refl _ | with_reducible exact (IsGr.refl _).alloc _ | with_reducible exact ((IsGr.refl _).alloc _).alloc _ | assumption)) (fun hHeld2 => ?_)
          clear hK K hHeld
          have hHeld := hHeld2
          clear hHeld2
          (try simp only [Act.put, List.setIfInBounds_toArray, List.set_cons_zero, List.set_cons_succ])
          refine wpAnyH_ready (rs := [7]) (by kernel_rfl) (by simp) ?_
          refine AllReadyH.cons (o := { dst := some 91, op := Op.call { callee := Callee.value (Operand.func 22), args := #[Operand.tmp 90], argTypes := #[24] }, type := 27, pos := "law.go:57", after := #[{ on := 6, ground := Ground.data }, { on := 5, ground := Ground.chain }, { on := 2, ground := Ground.guard }], guard := some (2, true) }) rfl (fun K hK => ?_) AllReadyH.nil
          go_simp
          refine (Fb _).mono ?_
          rintro e w7 ⟨rfl, hg7⟩
          (try go_wp2_with fail)
          refine hK.out _ _ (by (try dsimp only); exact hcl _ _ hHeld (by first | with_reducible assumption | with_reducible exact IsGr.refl _ | with_reducible exact (IsGr.refl _).alloc _ | with_reducible exact ((IsGr.refl _).alloc _).alloc _ | assumption)) (fun hHeld2 => ?_)
          clear hK K hHeld
          have hHeld := hHeld2
          clear hHeld2
          (try simp only [Act.put, List.setIfInBounds_toArray, List.set_cons_zero, List.set_cons_succ])
          refine wpAnyH_ready (rs := [9]) (by kernel_rfl) (by simp) ?_
          refine AllReadyH.cons (o := { dst := some 93, op := Op.call { callee := Callee.value (Operand.func 22), args := #[Operand.tmp 92], argTypes := #[24] }, type := 27, pos := "law.go:57", after := #[{ on := 8, ground := Ground.data }, { on := 7, ground := Ground.chain }, { on := 2, ground := Ground.guard }], guard := some (2, true) }) rfl (fun K hK => ?_) AllReadyH.nil
          go_simp
          refine (Fa _).mono ?_
          rintro e w8 ⟨rfl, hg8⟩
          (try go_wp2_with fail)
          refine hK.out _ _ (by (try dsimp only); exact hcl _ _ hHeld (by first | with_reducible assumption | with_reducible exact IsGr.refl _ | with_reducible exact (IsGr.refl _).alloc _ | with_reducible exact ((IsGr.refl _).alloc _).alloc _ | assumption)) (fun hHeld2 => ?_)
          clear hK K hHeld
          have hHeld := hHeld2
          clear hHeld2
          (try simp only [Act.put, List.setIfInBounds_toArray, List.set_cons_zero, List.set_cons_succ])
          refine wpAnyH_ready (rs := [11]) (by kernel_rfl) (by simp) ?_
          refine AllReadyH.cons (o := { dst := some 95, op := Op.call { callee := Callee.value (Operand.func 33), args := #[Operand.tmp 91, Operand.tmp 93, Operand.tmp 94], argTypes := #[27, 27, 55] }, type := 3, pos := "law.go:57", after := #[{ on := 7, ground := Ground.data }, { on := 9, ground := Ground.data }, { on := 10, ground := Ground.data }, { on := 9, ground := Ground.chain }, { on := 2, ground := Ground.guard }], guard := some (2, true) }) rfl (fun K hK => ?_) AllReadyH.nil
          go_simp
          refine (CT _ (hgr _ hHeld).1).mono ?_
          rintro e w9 ⟨rfl, hg9⟩
          (try go_wp2_with fail)
          refine hK.out _ _ (by (try dsimp only); exact hcl _ _ hHeld (by first | with_reducible assumption | with_reducible exact IsGr.refl _ | with_reducible exact (IsGr.refl _).alloc _ | with_reducible exact ((IsGr.refl _).alloc _).alloc _ | assumption)) (fun hHeld2 => ?_)
          clear hK K hHeld
          have hHeld := hHeld2
          clear hHeld2
          (try simp only [Act.put, List.setIfInBounds_toArray, List.set_cons_zero, List.set_cons_succ])
          refine wpAnyH_take (i := 12) (oi := { dst := some 96, op := Op.binOp BinOp.eql 3 (Operand.tmp 89) (Operand.tmp 95) 3, type := 4, pos := "law.go:57", after := #[{ on := 5, ground := Ground.data }, { on := 11, ground := Ground.data }, { on := 2, ground := Ground.guard }], guard := some (2, true) }) (v := ?_) rfl (by kernel_rfl) (by kernel_rfl) (by kernel_rfl) (fun _ _ _ h => h) (Or.inl ⟨by rfl, ?_⟩) (by assumption) ?_
          rotate_left
          · (intro w hSw; (try dsimp only at hSw); (try have hcs := hcells w hSw); (try go_split_ands); go_simp <;> with_reducible rfl)
          (try simp only [Act.put, List.setIfInBounds_toArray, List.set_cons_zero, List.set_cons_succ])
          refine wpAnyH_take (i := 13) (oi := { dst := some 97, op := Op.pick (Operand.tmp 86) (Operand.tmp 96) (Operand.const (Value.bool false)), type := 4, pos := "law.go:57", after := #[{ on := 2, ground := Ground.data }, { on := 12, ground := Ground.data }], guard := none }) (v := ?_) rfl (by kernel_rfl) (by kernel_rfl) (by kernel_rfl) (fun _ _ _ h => h) (Or.inl ⟨by rfl, ?_⟩) (by assumption) ?_
          rotate_left
          · (intro w hSw; (try dsimp only at hSw); (try have hcs := hcells w hSw); (try go_split_ands); go_simp <;> with_reducible rfl)
          (try simp only [Act.put, List.setIfInBounds_toArray, List.set_cons_zero, List.set_cons_succ])
          refine wpAnyH_take (i := 14) (oi := { dst := some 98, op := Op.move (Operand.tmp 97), type := 4, pos := "law.go:57", after := #[{ on := 13, ground := Ground.data }, { on := 11, ground := Ground.chain }], guard := none }) (v := ?_) rfl (by kernel_rfl) (by kernel_rfl) (by kernel_rfl) (fun _ _ _ h => h) (Or.inl ⟨by rfl, ?_⟩) (by assumption) ?_
          rotate_left
          · (intro w hSw; (try dsimp only at hSw); (try have hcs := hcells w hSw); (try go_split_ands); go_simp <;> with_reducible rfl)
          (try simp only [Act.put, List.setIfInBounds_toArray, List.set_cons_zero, List.set_cons_succ])
          refine wpAnyH_take (i := 15) (oi := { dst := some 99, op := Op.load 41 (Operand.tmp 2), type := 41, pos := "law.go:57", after := #[{ on := 14, ground := Ground.guard }], guard := some (14, true) }) (v := ?_) rfl (by kernel_rfl) (by kernel_rfl) (by kernel_rfl) (fun _ _ _ h => h) (Or.inl ⟨by rfl, ?_⟩) (by assumption) ?_
          rotate_left
          · (intro w hSw; (try dsimp only at hSw); (try have hcs := hcells w hSw); (try go_split_ands); go_simp <;> with_reducible rfl)
          (try simp only [Act.put, List.setIfInBounds_toArray, List.set_cons_zero, List.set_cons_succ])
          refine wpAnyH_take (i := 16) (oi := { dst := some 100, op := Op.load 46 (Operand.tmp 3), type := 46, pos := "law.go:57", after := #[{ on := 14, ground := Ground.guard }], guard := some (14, true) }) (v := ?_) rfl (by kernel_rfl) (by kernel_rfl) (by kernel_rfl) (fun _ _ _ h => h) (Or.inl ⟨by rfl, ?_⟩) (by assumption) ?_
          rotate_left
          · (intro w hSw; (try dsimp only at hSw); (try have hcs := hcells w hSw); (try go_split_ands); go_simp <;> with_reducible rfl)
          (try simp only [Act.put, List.setIfInBounds_toArray, List.set_cons_zero, List.set_cons_succ])
          refine wpAnyH_take (i := 18) (oi := { dst := some 102, op := Op.fieldAddr 41 (Operand.tmp 2) 0, type := 0, pos := "law.go:57", after := #[{ on := 14, ground := Ground.guard }], guard := some (14, true) }) (v := ?_) rfl (by kernel_rfl) (by kernel_rfl) (by kernel_rfl) (fun _ _ _ h => h) (Or.inl ⟨by rfl, ?_⟩) (by assumption) ?_
          rotate_left
          · (intro w hSw; (try dsimp only at hSw); (try have hcs := hcells w hSw); (try go_split_ands); go_simp <;> with_reducible rfl)
          (try simp only [Act.put, List.setIfInBounds_toArray, List.set_cons_zero, List.set_cons_succ])
          refine wpAnyH_take (i := 19) (oi := { dst := some 103, op := Op.load 24 (Operand.tmp 102), type := 24, pos := "law.go:57", after := #[{ on := 18, ground := Ground.data }, { on := 14, ground := Ground.guard }], guard := some (14, true) }) (v := ?_) rfl (by kernel_rfl) (by kernel_rfl) (by kernel_rfl) (fun _ _ _ h => h) (Or.inl ⟨by rfl, ?_⟩) (by assumption) ?_
          rotate_left
          · (intro w hSw; (try dsimp only at hSw); (try have hcs := hcells w hSw); (try go_split_ands); go_simp <;> with_reducible rfl)
          (try simp only [Act.put, List.setIfInBounds_toArray, List.set_cons_zero, List.set_cons_succ])
          refine wpAnyH_take (i := 21) (oi := { dst := some 105, op := Op.fieldAddr 41 (Operand.tmp 2) 1, type := 0, pos := "law.go:57", after := #[{ on := 14, ground := Ground.guard }], guard := some (14, true) }) (v := ?_) rfl (by kernel_rfl) (by kernel_rfl) (by kernel_rfl) (fun _ _ _ h => h) (Or.inl ⟨by rfl, ?_⟩) (by assumption) ?_
          rotate_left
          · (intro w hSw; (try dsimp only at hSw); (try have hcs := hcells w hSw); (try go_split_ands); go_simp <;> with_reducible rfl)
          (try simp only [Act.put, List.setIfInBounds_toArray, List.set_cons_zero, List.set_cons_succ])
          refine wpAnyH_take (i := 22) (oi := { dst := some 106, op := Op.load 24 (Operand.tmp 105), type := 24, pos := "law.go:57", after := #[{ on := 21, ground := Ground.data }, { on := 14, ground := Ground.guard }], guard := some (14, true) }) (v := ?_) rfl (by kernel_rfl) (by kernel_rfl) (by kernel_rfl) (fun _ _ _ h => h) (Or.inl ⟨by rfl, ?_⟩) (by assumption) ?_
          rotate_left
          · (intro w hSw; (try dsimp only at hSw); (try have hcs := hcells w hSw); (try go_split_ands); go_simp <;> with_reducible rfl)
          (try simp only [Act.put, List.setIfInBounds_toArray, List.set_cons_zero, List.set_cons_succ])
          refine wpAnyH_take (i := 24) (oi := { dst := some 108, op := Op.load 55 (Operand.tmp 5), type := 55, pos := "law.go:57", after := #[{ on := 14, ground := Ground.guard }], guard := some (14, true) }) (v := ?_) rfl (by kernel_rfl) (by kernel_rfl) (by kernel_rfl) (fun _ _ _ h => h) (Or.inl ⟨by rfl, ?_⟩) (by assumption) ?_
          rotate_left
          · (intro w hSw; (try dsimp only at hSw); (try have hcs := hcells w hSw); (try go_split_ands); go_simp <;> with_reducible rfl)
          (try simp only [Act.put, List.setIfInBounds_toArray, List.set_cons_zero, List.set_cons_succ])
          refine wpAnyH_ready (rs := [17]) (by kernel_rfl) (by simp) ?_
          refine AllReadyH.cons (o := { dst := some 101, op := Op.call { callee := Callee.value (Operand.func 30), args := #[Operand.tmp 99, Operand.tmp 100], argTypes := #[41, 46] }, type := 4, pos := "law.go:57", after := #[{ on := 15, ground := Ground.data }, { on := 16, ground := Ground.data }, { on := 14, ground := Ground.chain }, { on := 14, ground := Ground.guard }], guard := some (14, true) }) rfl (fun K hK => ?_) AllReadyH.nil
          go_simp
          refine (CH _).mono ?_
          rintro e w10 ⟨rfl, hg10⟩
          (try go_wp2_with fail)
          refine hK.out _ _ (by (try dsimp only); exact hcl _ _ hHeld (by first | with_reducible assumption | with_reducible exact IsGr.refl _ | with_reducible exact (IsGr.refl _).alloc _ | with_reducible exact ((IsGr.refl _).alloc _).alloc _ | assumption)) (fun hHeld2 => ?_)
          clear hK K hHeld
          have hHeld := hHeld2
          clear hHeld2
          (try simp only [Act.put, List.setIfInBounds_toArray, List.set_cons_zero, List.set_cons_succ])
          refine wpAnyH_ready (rs := [20]) (by kernel_rfl) (by simp) ?_
          refine AllReadyH.cons (o := { dst := some 104, op := Op.call { callee := Callee.value (Operand.func 22), args := #[Operand.tmp 103], argTypes := #[24] }, type := 27, pos := "law.go:57", after := #[{ on := 19, ground := Ground.data }, { on := 17, ground := Ground.chain }, { on := 14, ground := Ground.guard }], guard := some (14, true) }) rfl (fun K hK => ?_) AllReadyH.nil
          go_simp
          refine (Fa _).mono ?_
          rintro e w11 ⟨rfl, hg11⟩
          (try go_wp2_with fail)
          refine hK.out _ _ (by (try dsimp only); exact hcl _ _ hHeld (by first | with_reducible assumption | with_reducible exact IsGr.refl _ | with_reducible exact (IsGr.refl _).alloc _ | with_reducible exact ((IsGr.refl _).alloc _).alloc _ | assumption)) (fun hHeld2 => ?_)
          clear hK K hHeld
          have hHeld := hHeld2
          clear hHeld2
          (try simp only [Act.put, List.setIfInBounds_toArray, List.set_cons_zero, List.set_cons_succ])
          refine wpAnyH_ready (rs := [23]) (by kernel_rfl) (by simp) ?_
          refine AllReadyH.cons (o := { dst := some 107, op := Op.call { callee := Callee.value (Operand.func 22), args := #[Operand.tmp 106], argTypes := #[24] }, type := 27, pos := "law.go:57", after := #[{ on := 22, ground := Ground.data }, { on := 20, ground := Ground.chain }, { on := 14, ground := Ground.guard }], guard := some (14, true) }) rfl (fun K hK => ?_) AllReadyH.nil
          go_simp
          refine (Fb _).mono ?_
          rintro e w12 ⟨rfl, hg12⟩
          (try go_wp2_with fail)
          refine hK.out _ _ (by (try dsimp only); exact hcl _ _ hHeld (by first | with_reducible assumption | with_reducible exact IsGr.refl _ | with_reducible exact (IsGr.refl _).alloc _ | with_reducible exact ((IsGr.refl _).alloc _).alloc _ | assumption)) (fun hHeld2 => ?_)
          clear hK K hHeld
          have hHeld := hHeld2
          clear hHeld2
          (try simp only [Act.put, List.setIfInBounds_toArray, List.set_cons_zero, List.set_cons_succ])
          refine wpAnyH_ready (rs := [25]) (by kernel_rfl) (by simp) ?_
          refine AllReadyH.cons (o := { dst := some 109, op := Op.call { callee := Callee.value (Operand.func 28), args := #[Operand.tmp 104, Operand.tmp 107, Operand.tmp 108], argTypes := #[27, 27, 55] }, type := 4, pos := "law.go:57", after := #[{ on := 20, ground := Ground.data }, { on := 23, ground := Ground.data }, { on := 24, ground := Ground.data }, { on := 23, ground := Ground.chain }, { on := 14, ground := Ground.guard }], guard := some (14, true) }) rfl (fun K hK => ?_) AllReadyH.nil
          go_simp
          refine (CHR _ (hgr _ hHeld).1).mono ?_
          rintro e w13 ⟨rfl, hg13⟩
          (try go_wp2_with fail)
          refine hK.out _ _ (by (try dsimp only); exact hcl _ _ hHeld (by first | with_reducible assumption | with_reducible exact IsGr.refl _ | with_reducible exact (IsGr.refl _).alloc _ | with_reducible exact ((IsGr.refl _).alloc _).alloc _ | assumption)) (fun hHeld2 => ?_)
          clear hK K hHeld
          have hHeld := hHeld2
          clear hHeld2
          (try simp only [Act.put, List.setIfInBounds_toArray, List.set_cons_zero, List.set_cons_succ])
          refine wpAnyH_take (i := 26) (oi := { dst := some 110, op := Op.binOp BinOp.eql 4 (Operand.tmp 101) (Operand.tmp 109) 4, type := 4, pos := "law.go:57", after := #[{ on := 17, ground := Ground.data }, { on := 25, ground := Ground.data }, { on := 14, ground := Ground.guard }], guard := some (14, true) }) (v := ?_) rfl (by kernel_rfl) (by kernel_rfl) (by kernel_rfl) (fun _ _ _ h => h) (Or.inl ⟨by rfl, ?_⟩) (by assumption) ?_
          rotate_left
          · (intro w hSw; (try dsimp only at hSw); (try have hcs := hcells w hSw); (try go_split_ands); go_simp <;> with_reducible rfl)
          (try simp only [Act.put, List.setIfInBounds_toArray, List.set_cons_zero, List.set_cons_succ])
          refine wpAnyH_take (i := 27) (oi := { dst := some 111, op := Op.pick (Operand.tmp 98) (Operand.tmp 110) (Operand.const (Value.bool false)), type := 4, pos := "law.go:57", after := #[{ on := 14, ground := Ground.data }, { on := 26, ground := Ground.data }], guard := none }) (v := ?_) rfl (by kernel_rfl) (by kernel_rfl) (by kernel_rfl) (fun _ _ _ h => h) (Or.inl ⟨by rfl, ?_⟩) (by assumption) ?_
          rotate_left
          · (intro w hSw; (try dsimp only at hSw); (try have hcs := hcells w hSw); (try go_split_ands); go_simp <;> with_reducible rfl)
          (try simp only [Act.put, List.setIfInBounds_toArray, List.set_cons_zero, List.set_cons_succ])
          refine wpAnyH_take (i := 28) (oi := { dst := some 112, op := Op.move (Operand.tmp 111), type := 4, pos := "law.go:57", after := #[{ on := 27, ground := Ground.data }, { on := 25, ground := Ground.chain }], guard := none }) (v := ?_) rfl (by kernel_rfl) (by kernel_rfl) (by kernel_rfl) (fun _ _ _ h => h) (Or.inl ⟨by rfl, ?_⟩) (by assumption) ?_
          rotate_left
          · (intro w hSw; (try dsimp only at hSw); (try have hcs := hcells w hSw); (try go_split_ands); go_simp <;> with_reducible rfl)
          (try simp only [Act.put, List.setIfInBounds_toArray, List.set_cons_zero, List.set_cons_succ])
          refine wpAnyH_ready (rs := [29]) (by kernel_rfl) (by simp) ?_
          refine AllReadyH.cons (o := { dst := some 113, op := Op.call { callee := Callee.value (Operand.func 24), args := #[], argTypes := #[] }, type := 4, pos := "law.go:57", after := #[{ on := 28, ground := Ground.chain }, { on := 28, ground := Ground.guard }], guard := some (28, true) }) rfl (fun K hK => ?_) AllReadyH.nil
          go_simp
          refine (CA _).mono ?_
          rintro e w14 ⟨rfl, hg14⟩
          (try go_wp2_with fail)
          refine hK.out _ _ (by (try dsimp only); exact hcl _ _ hHeld (by first | with_reducible assumption | with_reducible exact IsGr.refl _ | with_reducible exact (IsGr.refl _).alloc _ | with_reducible exact ((IsGr.refl _).alloc _).alloc _ | assumption)) (fun hHeld2 => ?_)
          clear hK K hHeld
          have hHeld := hHeld2
          clear hHeld2
          (try simp only [Act.put, List.setIfInBounds_toArray, List.set_cons_zero, List.set_cons_succ])
          refine wpAnyH_take (i := 30) (oi := { dst := some 114, op := Op.pick (Operand.tmp 112) (Operand.tmp 113) (Operand.const (Value.bool false)), type := 4, pos := "law.go:57", after := #[{ on := 28, ground := Ground.data }, { on := 29, ground := Ground.data }], guard := none }) (v := ?_) rfl (by kernel_rfl) (by kernel_rfl) (by kernel_rfl) (fun _ _ _ h => h) (Or.inl ⟨by rfl, ?_⟩) (by assumption) ?_
          rotate_left
          · (intro w hSw; (try dsimp only at hSw); (try have hcs := hcells w hSw); (try go_split_ands); go_simp <;> with_reducible rfl)
          (try simp only [Act.put, List.setIfInBounds_toArray, List.set_cons_zero, List.set_cons_succ])
          refine wpAnyH_take (i := 31) (oi := { dst := some 4, op := Op.assign (Operand.tmp 114), type := 4, pos := "law.go:57", after := #[{ on := 30, ground := Ground.data }, { on := 29, ground := Ground.chain }, { on := 0, ground := Ground.phase }, { on := 1, ground := Ground.phase }, { on := 2, ground := Ground.phase }, { on := 3, ground := Ground.phase }, { on := 4, ground := Ground.phase }, { on := 5, ground := Ground.phase }, { on := 6, ground := Ground.phase }, { on := 7, ground := Ground.phase }, { on := 8, ground := Ground.phase }, { on := 9, ground := Ground.phase }, { on := 10, ground := Ground.phase }, { on := 11, ground := Ground.phase }, { on := 12, ground := Ground.phase }, { on := 13, ground := Ground.phase }, { on := 14, ground := Ground.phase }, { on := 15, ground := Ground.phase }, { on := 16, ground := Ground.phase }, { on := 17, ground := Ground.phase }, { on := 18, ground := Ground.phase }, { on := 19, ground := Ground.phase }, { on := 20, ground := Ground.phase }, { on := 21, ground := Ground.phase }, { on := 22, ground := Ground.phase }, { on := 23, ground := Ground.phase }, { on := 24, ground := Ground.phase }, { on := 25, ground := Ground.phase }, { on := 26, ground := Ground.phase }, { on := 27, ground := Ground.phase }, { on := 28, ground := Ground.phase }, { on := 29, ground := Ground.phase }, { on := 30, ground := Ground.phase }], guard := none }) (v := ?_) rfl (by kernel_rfl) (by kernel_rfl) (by kernel_rfl) (fun _ _ _ h => h) (Or.inl ⟨by rfl, ?_⟩) (by assumption) ?_
          rotate_left
          · (intro w hSw; (try dsimp only at hSw); (try have hcs := hcells w hSw); (try go_split_ands); go_simp <;> with_reducible rfl)
          (try simp only [Act.put, List.setIfInBounds_toArray, List.set_cons_zero, List.set_cons_succ])
          refine wpAnyH_done (by kernel_rfl) ?_ _
          have hg := (hgr _ hHeld).1
          clear hcells hin hcl hgr hHeld
          go_wp2
          go_ret
          exact ⟨rfl, HG.out.trans hg⟩

set_option maxRecDepth 20000 in set_option maxHeartbeats 4000000 in
theorem law_sides_le (a1 a2 b1 b2 x y z : Int) (fx : Fit x) (fy : Fit y) (fz : Fit z) (r1 : segR a1 a2 b1 b2 = true) (r2 : spotR x y z = true) (hc : ¬ 0 < cmpP a1 a2 b1 b2) (w : World) :
    Calls Try.prog 6 #[.agg #[.int .i64 a1, .int .i64 a2, .int .i64 b1, .int .i64 b2], .agg #[.int .u64 (wd0 x), .int .u64 (wd1 x), .int .u64 (wd2 x), .int .u64 (wd3 x), .int .u64 (wd0 y), .int .u64 (wd1 y), .int .u64 (wd2 y), .int .u64 (wd3 y), .int .u64 (wd0 z), .int .u64 (wd1 z), .int .u64 (wd2 z), .int .u64 (wd3 z)]] w fun e w' => e = .returned (.bool true) ∧ IsGr w w' := by
  have H : Ends2 a1 a2 b1 b2 a1 a2 b1 b2 := Or.inr ⟨hc, rfl, rfl, rfl, rfl⟩
  have CX := fun w => lspot_any x y z fx fy fz w
  have R1 := fun w => lright_any a1 a2 b1 b2 w
  have E1 := fun w => Ends_any a1 a2 b1 b2 a1 a2 b1 b2 H w
  have CS := fun w => Side_yes a1 a2 b1 b2 a1 a2 b1 b2 x y z H r1 r2 w
  have CH := fun w => Holds_yes a1 a2 b1 b2 a1 a2 b1 b2 x y z H r1 r2 w
  rw [holds_eq H r1 r2] at CH
  have CQ := fun w => SpRight_any x y z fx fy fz w
  have CA := fun w => awake4_any w
  have Fa := fun w => xref_any a1 a2 w
  have Fb := fun w => xref_any b1 b2 w
  have CAH := fun w => Ahead_any b1 b2 a1 a2 w
  rw [ahead_ends H] at CAH
  have rl := (H.right r1).1
  have rh := (H.right r1).2
  obtain ⟨ra, rb⟩ : rightP a1 a2 = true ∧ rightP b1 b2 = true := by simpa [segR] using r1
  rw [r1] at R1
  rw [r2] at CQ
  clear H r1
  go_enter Try.func6, Try.ntmps6
  go_upto_region 1 with fail
  go_cut [5] (fun t5 wr => SpAt wr t5 x y z ∧ (wr.cell? ⟨w.heap.size, 0, none⟩ = some (.int .i64 a1) ∧ wr.cell? ⟨w.heap.size, 1, none⟩ = some (.int .i64 a2) ∧ wr.cell? ⟨w.heap.size, 2, none⟩ = some (.int .i64 b1) ∧ wr.cell? ⟨w.heap.size, 3, none⟩ = some (.int .i64 b2)) ∧ (wr.cell? ⟨w.heap.size + 1, 0, none⟩ = some (.int .u64 (wd0 x)) ∧ wr.cell? ⟨w.heap.size + 1, 1, none⟩ = some (.int .u64 (wd1 x)) ∧ wr.cell? ⟨w.heap.size + 1, 2, none⟩ = some (.int .u64 (wd2 x)) ∧ wr.cell? ⟨w.heap.size + 1, 3, none⟩ = some (.int .u64 (wd3 x)) ∧ wr.cell? ⟨w.heap.size + 1, 4, none⟩ = some (.int .u64 (wd0 y)) ∧ wr.cell? ⟨w.heap.size + 1, 5, none⟩ = some (.int .u64 (wd1 y)) ∧ wr.cell? ⟨w.heap.size + 1, 6, none⟩ = some (.int .u64 (wd2 y)) ∧ wr.cell? ⟨w.heap.size + 1, 7, none⟩ = some (.int .u64 (wd3 y)) ∧ wr.cell? ⟨w.heap.size + 1, 8, none⟩ = some (.int .u64 (wd0 z)) ∧ wr.cell? ⟨w.heap.size + 1, 9, none⟩ = some (.int .u64 (wd1 z)) ∧ wr.cell? ⟨w.heap.size + 1, 10, none⟩ = some (.int .u64 (wd2 z)) ∧ wr.cell? ⟨w.heap.size + 1, 11, none⟩ = some (.int .u64 (wd3 z))) ∧ w.heap.size + 2 ≤ wr.heap.size ∧ IsGr w wr)
  case first =>
    go_wp2_with fail
    refine (CX _).mono ?_
    rintro e w1 ⟨v, rfl, hv, os1, dr1, rfl⟩
    obtain ⟨xs, xa, xn, xc, ys, ya, yn, yc, zs, za, zn, zc, rfl, hx, hy, hz⟩ := hv
    go_wp2
    go_meet
    case rel =>
      refine ⟨⟨_, xs, xa, xn, xc, ys, ya, yn, yc, zs, za, zn, zc, rfl, ?_, ?_, ⟨xs, xa, xn, xc, ys, ya, yn, yc, zs, za, zn, zc, rfl, hx.gr (by with_reducible repeat (first | exact IsGr.refl _ | refine IsGr.gr ?_ _ _ | refine IsGr.alloc ?_ _ | refine IsGr.drew ?_ | refine IsGr.drewN ?_ _)), hy.gr (by with_reducible repeat (first | exact IsGr.refl _ | refine IsGr.gr ?_ _ _ | refine IsGr.alloc ?_ _ | refine IsGr.drew ?_ | refine IsGr.drewN ?_ _)), hz.gr (by with_reducible repeat (first | exact IsGr.refl _ | refine IsGr.gr ?_ _ _ | refine IsGr.alloc ?_ _ | refine IsGr.drew ?_ | refine IsGr.drewN ?_ _))⟩⟩, ?_, ?_, ?_, (by with_reducible repeat (first | exact IsGr.refl _ | refine IsGr.gr ?_ _ _ | refine IsGr.alloc ?_ _ | refine IsGr.drew ?_ | refine IsGr.drewN ?_ _))⟩
      · first | omega | (simp; done) | (simp; omega) | (simp [Gr.size]; done) | (simp [Gr.size]; omega)
      · simp [go_sem]
      · simp [go_sem]
      · simp [go_sem]
      · first | omega | (simp; done) | (simp; omega) | (simp [Gr.size]; done) | (simp [Gr.size]; omega)
  case rest =>
    obtain ⟨⟨g5, xs, xa, xn, xc, ys, ya, yn, yc, zs, za, zn, zc, rfl, k5, q5, hsp⟩, qa, qx, ks, hgw⟩ := hcut
    obtain ⟨W1, hW9⟩ : ∃ W1, W1 = wc := ⟨_, rfl⟩
    subst hW9
    have HG : Hid (IsGr w W1) := hgw
    have CR := fun w1 (hg : IsGr W1 w1) => RSRight_any _ x y z w1 (hsp.gr hg) fx fy fz
    clear hgw CX
    rw [r2] at CR
    clear r2
    have ka : w.heap.size < W1.heap.size := by omega
    obtain ⟨x1, x2, x3, x4⟩ := qa
    obtain ⟨o0, o1, o2, o3, o4, o5⟩ := q5
    go_upto_region 2 with fail
    go_cut [17] (fun t17 wr => t17 = .bool false ∧ IsGr W1 wr)
    case first =>
      go_wp2_with fail
      refine (R1 _).mono ?_
      rintro e w1 ⟨rfl, os2, dr2, rfl⟩
      go_wp2_with fail
      refine (CR _ ?_).mono ?_
      · exact (by with_reducible repeat (first | exact IsGr.refl _ | refine IsGr.gr ?_ _ _ | refine IsGr.alloc ?_ _ | refine IsGr.drew ?_ | refine IsGr.drewN ?_ _))
      rintro e w1 ⟨rfl, os3, dr3, rfl⟩
      go_wp2
      go_meet
      case rel => exact ⟨by first | rfl | simp, (by with_reducible repeat (first | exact IsGr.refl _ | refine IsGr.gr ?_ _ _ | refine IsGr.alloc ?_ _ | refine IsGr.drew ?_ | refine IsGr.drewN ?_ _))⟩
    case rest =>
      obtain ⟨rfl, hgr⟩ := hcut
      obtain ⟨W2, hW9⟩ : ∃ W2, W2 = wc := ⟨_, rfl⟩
      subst hW9
      have qa : (W2.cell? ⟨w.heap.size, 0, none⟩ = some (.int .i64 a1) ∧ W2.cell? ⟨w.heap.size, 1, none⟩ = some (.int .i64 a2) ∧ W2.cell? ⟨w.heap.size, 2, none⟩ = some (.int .i64 b1) ∧ W2.cell? ⟨w.heap.size, 3, none⟩ = some (.int .i64 b2)) := ⟨hgr.cell_at ka x1, hgr.cell_at ka x2, hgr.cell_at ka x3, hgr.cell_at ka x4⟩
      have q5 : (W2.cell? ⟨g5, 0, none⟩ = some (.bool xs) ∧ W2.cell? ⟨g5, 1, none⟩ = some (.slice xa xn xc) ∧ W2.cell? ⟨g5, 2, none⟩ = some (.bool ys) ∧ W2.cell? ⟨g5, 3, none⟩ = some (.slice ya yn yc) ∧ W2.cell? ⟨g5, 4, none⟩ = some (.bool zs) ∧ W2.cell? ⟨g5, 5, none⟩ = some (.slice za zn zc)) := ⟨hgr.cell_at k5 o0, hgr.cell_at k5 o1, hgr.cell_at k5 o2, hgr.cell_at k5 o3, hgr.cell_at k5 o4, hgr.cell_at k5 o5⟩
      replace qx : (W2.cell? ⟨w.heap.size + 1, 0, none⟩ = some (.int .u64 (wd0 x)) ∧ W2.cell? ⟨w.heap.size + 1, 1, none⟩ = some (.int .u64 (wd1 x)) ∧ W2.cell? ⟨w.heap.size + 1, 2, none⟩ = some (.int .u64 (wd2 x)) ∧ W2.cell? ⟨w.heap.size + 1, 3, none⟩ = some (.int .u64 (wd3 x)) ∧ W2.cell? ⟨w.heap.size + 1, 4, none⟩ = some (.int .u64 (wd0 y)) ∧ W2.cell? ⟨w.heap.size + 1, 5, none⟩ = some (.int .u64 (wd1 y)) ∧ W2.cell? ⟨w.heap.size + 1, 6, none⟩ = some (.int .u64 (wd2 y)) ∧ W2.cell? ⟨w.heap.size + 1, 7, none⟩ = some (.int .u64 (wd3 y)) ∧ W2.cell? ⟨w.heap.size + 1, 8, none⟩ = some (.int .u64 (wd0 z)) ∧ W2.cell? ⟨w.heap.size + 1, 9, none⟩ = some (.int .u64 (wd1 z)) ∧ W2.cell? ⟨w.heap.size + 1, 10, none⟩ = some (.int .u64 (wd2 z)) ∧ W2.cell? ⟨w.heap.size + 1, 11, none⟩ = some (.int .u64 (wd3 z))) := ⟨hgr.cell_at (by omega) qx.1, hgr.cell_at (by omega) qx.2.1, hgr.cell_at (by omega) qx.2.2.1, hgr.cell_at (by omega) qx.2.2.2.1, hgr.cell_at (by omega) qx.2.2.2.2.1, hgr.cell_at (by omega) qx.2.2.2.2.2.1, hgr.cell_at (by omega) qx.2.2.2.2.2.2.1, hgr.cell_at (by omega) qx.2.2.2.2.2.2.2.1, hgr.cell_at (by omega) qx.2.2.2.2.2.2.2.2.1, hgr.cell_at (by omega) qx.2.2.2.2.2.2.2.2.2.1, hgr.cell_at (by omega) qx.2.2.2.2.2.2.2.2.2.2.1, hgr.cell_at (by omega) qx.2.2.2.2.2.2.2.2.2.2.2⟩
      have hsz := hgr.size
      replace HG : Hid (IsGr w W2) := HG.out.trans hgr
      replace CR := fun w1 (hg : IsGr W2 w1) => CR w1 (hgr.trans hg)
      replace hsp := hsp.gr hgr
      replace k5 : g5 < W2.heap.size := by omega
      replace ka : w.heap.size < W2.heap.size := by omega
      replace ks : w.heap.size + 2 ≤ W2.heap.size := by omega
      clear hgr hsz x1 x2 x3 x4 o0 o1 o2 o3 o4 o5 R1
      have CT := fun w1 (hg : IsGr W2 w1) => RSSide_any a1 a2 b1 b2 _ x y z w1 rl rh (hsp.gr hg) fx fy fz
      have CHR := fun w1 (hg : IsGr W2 w1) => RSHolds_any a1 a2 b1 b2 _ x y z w1 ra rb (hsp.gr hg) fx fy fz
      clear CR hsp fx fy fz rl rh ra rb
      generalize cmpI (sideS a1 a2 b1 b2 x y z) 0 = K at *
      generalize holdsR a1 a2 b1 b2 x y z = B at *
      obtain ⟨x1, x2, x3, x4⟩ := qa
      go_upto_region 4 with fail
      go_cut [6, 7] (fun t6 t7 wr => ∃ g6 g7 : Nat, t6 = .pointer (some ⟨g6, 0, none⟩) ∧ t7 = .pointer (some ⟨g7, 0, none⟩) ∧ g6 < wr.heap.size ∧ g7 < wr.heap.size ∧ (wr.cell? ⟨g6, 0, none⟩ = some (.int .i64 a1) ∧ wr.cell? ⟨g6, 1, none⟩ = some (.int .i64 a2)) ∧ (wr.cell? ⟨g7, 0, none⟩ = some (.int .i64 b1) ∧ wr.cell? ⟨g7, 1, none⟩ = some (.int .i64 b2)) ∧ IsGr W2 wr)
      case first =>
        go_wp2_with fail
        refine (E1 _).mono ?_
        rintro e w1 ⟨rfl, os4, dr4, rfl⟩
        go_wp2
        go_meet
        case rel =>
          refine ⟨_, _, rfl, rfl, ?_, ?_, ?_, ?_, (by with_reducible repeat (first | exact IsGr.refl _ | refine IsGr.gr ?_ _ _ | refine IsGr.alloc ?_ _ | refine IsGr.drew ?_ | refine IsGr.drewN ?_ _))⟩
          · first | omega | (simp; done) | (simp; omega) | (simp [Gr.size]; done) | (simp [Gr.size]; omega)
          · first | omega | (simp; done) | (simp; omega) | (simp [Gr.size]; done) | (simp [Gr.size]; omega)
          · simp [go_sem]
          · simp [go_sem]
      case rest =>
        obtain ⟨g6, g7, rfl, rfl, k6, k7, q6, q7, hgr⟩ := hcut
        obtain ⟨W3, hW9⟩ : ∃ W3, W3 = wc := ⟨_, rfl⟩
        subst hW9
        have qa : (W3.cell? ⟨w.heap.size, 0, none⟩ = some (.int .i64 a1) ∧ W3.cell? ⟨w.heap.size, 1, none⟩ = some (.int .i64 a2) ∧ W3.cell? ⟨w.heap.size, 2, none⟩ = some (.int .i64 b1) ∧ W3.cell? ⟨w.heap.size, 3, none⟩ = some (.int .i64 b2)) := ⟨hgr.cell_at ka x1, hgr.cell_at ka x2, hgr.cell_at ka x3, hgr.cell_at ka x4⟩
        replace q5 : (W3.cell? ⟨g5, 0, none⟩ = some (.bool xs) ∧ W3.cell? ⟨g5, 1, none⟩ = some (.slice xa xn xc) ∧ W3.cell? ⟨g5, 2, none⟩ = some (.bool ys) ∧ W3.cell? ⟨g5, 3, none⟩ = some (.slice ya yn yc) ∧ W3.cell? ⟨g5, 4, none⟩ = some (.bool zs) ∧ W3.cell? ⟨g5, 5, none⟩ = some (.slice za zn zc)) := ⟨hgr.cell_at k5 q5.1, hgr.cell_at k5 q5.2.1, hgr.cell_at k5 q5.2.2.1, hgr.cell_at k5 q5.2.2.2.1, hgr.cell_at k5 q5.2.2.2.2.1, hgr.cell_at k5 q5.2.2.2.2.2⟩
        replace qx : (W3.cell? ⟨w.heap.size + 1, 0, none⟩ = some (.int .u64 (wd0 x)) ∧ W3.cell? ⟨w.heap.size + 1, 1, none⟩ = some (.int .u64 (wd1 x)) ∧ W3.cell? ⟨w.heap.size + 1, 2, none⟩ = some (.int .u64 (wd2 x)) ∧ W3.cell? ⟨w.heap.size + 1, 3, none⟩ = some (.int .u64 (wd3 x)) ∧ W3.cell? ⟨w.heap.size + 1, 4, none⟩ = some (.int .u64 (wd0 y)) ∧ W3.cell? ⟨w.heap.size + 1, 5, none⟩ = some (.int .u64 (wd1 y)) ∧ W3.cell? ⟨w.heap.size + 1, 6, none⟩ = some (.int .u64 (wd2 y)) ∧ W3.cell? ⟨w.heap.size + 1, 7, none⟩ = some (.int .u64 (wd3 y)) ∧ W3.cell? ⟨w.heap.size + 1, 8, none⟩ = some (.int .u64 (wd0 z)) ∧ W3.cell? ⟨w.heap.size + 1, 9, none⟩ = some (.int .u64 (wd1 z)) ∧ W3.cell? ⟨w.heap.size + 1, 10, none⟩ = some (.int .u64 (wd2 z)) ∧ W3.cell? ⟨w.heap.size + 1, 11, none⟩ = some (.int .u64 (wd3 z))) := ⟨hgr.cell_at (by omega) qx.1, hgr.cell_at (by omega) qx.2.1, hgr.cell_at (by omega) qx.2.2.1, hgr.cell_at (by omega) qx.2.2.2.1, hgr.cell_at (by omega) qx.2.2.2.2.1, hgr.cell_at (by omega) qx.2.2.2.2.2.1, hgr.cell_at (by omega) qx.2.2.2.2.2.2.1, hgr.cell_at (by omega) qx.2.2.2.2.2.2.2.1, hgr.cell_at (by omega) qx.2.2.2.2.2.2.2.2.1, hgr.cell_at (by omega) qx.2.2.2.2.2.2.2.2.2.1, hgr.cell_at (by omega) qx.2.2.2.2.2.2.2.2.2.2.1, hgr.cell_at (by omega) qx.2.2.2.2.2.2.2.2.2.2.2⟩
        have hsz := hgr.size
        replace HG : Hid (IsGr w W3) := HG.out.trans hgr
        replace CT := fun w1 (hg : IsGr W3 w1) => CT w1 (hgr.trans hg)
        replace CHR := fun w1 (hg : IsGr W3 w1) => CHR w1 (hgr.trans hg)
        replace k5 : g5 < W3.heap.size := by omega
        replace ka : w.heap.size < W3.heap.size := by omega
        replace ks : w.heap.size + 2 ≤ W3.heap.size := by omega
        clear hgr hsz x1 x2 x3 x4 E1
        go_upto_region 5 with fail
        go_cut [83] (fun t83 wr => t83 = .bool false ∧ IsGr W3 wr)
        case first => as_aux_lemma =>
          clear CQ CS CT CH CHR CA
          by_cases e1 : b1 = a1
          · by_cases e2 : b2 = a2
            · have f1 : (b1 == a1) = true := by simp [e1]
              have f2 : (b2 == a2) = true := by simp [e2]
              have f3 : (a1 == b1) = true := by simp [e1]
              have f4 : (a2 == b2) = true := by simp [e2]
              clear e1 e2 hc
              obtain ⟨C, hin, hcl, hcells, hgr⟩ : ∃ C : World → Prop, (∀ w', W3.heap.size ≤ w'.heap.size ∧ IsGr W3 w' ∧ (w'.cell? ⟨w.heap.size, 0, none⟩ = some (.int .i64 a1) ∧ w'.cell? ⟨w.heap.size, 1, none⟩ = some (.int .i64 a2) ∧ w'.cell? ⟨w.heap.size, 2, none⟩ = some (.int .i64 b1) ∧ w'.cell? ⟨w.heap.size, 3, none⟩ = some (.int .i64 b2)) ∧ (w'.cell? ⟨g6, 0, none⟩ = some (.int .i64 a1) ∧ w'.cell? ⟨g6, 1, none⟩ = some (.int .i64 a2)) ∧ (w'.cell? ⟨g7, 0, none⟩ = some (.int .i64 b1) ∧ w'.cell? ⟨g7, 1, none⟩ = some (.int .i64 b2)) → C w') ∧ (∀ u u', C u → IsGr u u' → C u') ∧ (∀ w', C w' → (w'.cell? ⟨w.heap.size, 0, none⟩ = some (.int .i64 a1) ∧ w'.cell? ⟨w.heap.size, 1, none⟩ = some (.int .i64 a2) ∧ w'.cell? ⟨w.heap.size, 2, none⟩ = some (.int .i64 b1) ∧ w'.cell? ⟨w.heap.size, 3, none⟩ = some (.int .i64 b2)) ∧ (w'.cell? ⟨g6, 0, none⟩ = some (.int .i64 a1) ∧ w'.cell? ⟨g6, 1, none⟩ = some (.int .i64 a2)) ∧ (w'.cell? ⟨g7, 0, none⟩ = some (.int .i64 b1) ∧ w'.cell? ⟨g7, 1, none⟩ = some (.int .i64 b2))) ∧ (∀ w', C w' → IsGr W3 w' ∧ W3.heap.size ≤ w'.heap.size) := by
                refine ⟨fun w' => W3.heap.size ≤ w'.heap.size ∧ IsGr W3 w' ∧ (w'.cell? ⟨w.heap.size, 0, none⟩ = some (.int .i64 a1) ∧ w'.cell? ⟨w.heap.size, 1, none⟩ = some (.int .i64 a2) ∧ w'.cell? ⟨w.heap.size, 2, none⟩ = some (.int .i64 b1) ∧ w'.cell? ⟨w.heap.size, 3, none⟩ = some (.int .i64 b2)) ∧ (w'.cell? ⟨g6, 0, none⟩ = some (.int .i64 a1) ∧ w'.cell? ⟨g6, 1, none⟩ = some (.int .i64 a2)) ∧ (w'.cell? ⟨g7, 0, none⟩ = some (.int .i64 b1) ∧ w'.cell? ⟨g7, 1, none⟩ = some (.int .i64 b2)), fun w' h => h, ?_, fun w' h => h.2.2, fun w' h => ⟨h.2.1, h.1⟩⟩
                rintro u u' ⟨h0, h1, h2⟩ hg
                refine ⟨Nat.le_trans h0 hg.size, h1.trans hg, ?_⟩
                exact ⟨⟨hg.cell_at (by omega) h2.1.1, hg.cell_at (by omega) h2.1.2.1, hg.cell_at (by omega) h2.1.2.2.1, hg.cell_at (by omega) h2.1.2.2.2⟩, ⟨hg.cell_at (by omega) h2.2.1.1, hg.cell_at (by omega) h2.2.1.2⟩, ⟨hg.cell_at (by omega) h2.2.2.1, hg.cell_at (by omega) h2.2.2.2⟩⟩
              refine wp_region_quietV C (by kernel_rfl) (by kernel_rfl) (hin _ ⟨by simp, (by with_reducible repeat (first | exact IsGr.refl _ | refine IsGr.gr ?_ _ _ | refine IsGr.alloc ?_ _ | refine IsGr.drew ?_ | refine IsGr.drewN ?_ _)), ⟨qa, q6, q7⟩⟩) (fun K HK => ?_)
              refine QK.take HK ?_ (by rfl) ?_ ?_
              rotate_left
              · (intro w hw; (try have hcs := hcells w hw); (try go_split_ands); go_simp <;> with_reducible rfl)
              (try simp only [Act.put, List.setIfInBounds_toArray, List.set_cons_zero, List.set_cons_succ])
              refine QK.call HK 22 #[.agg #[.int .i64 b1, .int .i64 b2]] (.agg #[.int .i64 b1, .int .i64 b2]) hcl (by rfl) (fun w => by go_simp) Fb ?_
              (try simp only [Act.put, List.setIfInBounds_toArray, List.set_cons_zero, List.set_cons_succ])
              refine QK.take HK ?_ (by rfl) ?_ ?_
              rotate_left
              · (intro w hw; (try have hcs := hcells w hw); (try go_split_ands); go_simp <;> with_reducible rfl)
              (try simp only [Act.put, List.setIfInBounds_toArray, List.set_cons_zero, List.set_cons_succ])
              refine QK.call HK 22 #[.agg #[.int .i64 a1, .int .i64 a2]] (.agg #[.int .i64 a1, .int .i64 a2]) hcl (by rfl) (fun w => by go_simp) Fa ?_
              (try simp only [Act.put, List.setIfInBounds_toArray, List.set_cons_zero, List.set_cons_succ])
              refine QK.call HK 18 #[.agg #[.int .i64 b1, .int .i64 b2], .agg #[.int .i64 a1, .int .i64 a2]] (.bool false) hcl (by rfl) (fun w => by go_simp) CAH ?_
              (try simp only [Act.put, List.setIfInBounds_toArray, List.set_cons_zero, List.set_cons_succ])
              refine QK.take HK ?_ (by rfl) ?_ ?_
              rotate_left
              · (intro w hw; (try have hcs := hcells w hw); (try go_split_ands); go_simp <;> with_reducible rfl)
              (try simp only [Act.put, List.setIfInBounds_toArray, List.set_cons_zero, List.set_cons_succ])
              refine QK.take HK ?_ (by rfl) ?_ ?_
              rotate_left
              · (intro w hw; (try have hcs := hcells w hw); (try go_split_ands); go_simp <;> with_reducible rfl)
              (try simp only [Act.put, List.setIfInBounds_toArray, List.set_cons_zero, List.set_cons_succ])
              refine QK.take HK ?_ (by rfl) ?_ ?_
              rotate_left
              · (intro w hw; (try have hcs := hcells w hw); (try go_split_ands); go_simp <;> with_reducible rfl)
              (try simp only [Act.put, List.setIfInBounds_toArray, List.set_cons_zero, List.set_cons_succ])
              refine QK.take HK ?_ (by rfl) ?_ ?_
              rotate_left
              · (intro w hw; (try have hcs := hcells w hw); (try go_split_ands); go_simp <;> with_reducible rfl)
              (try simp only [Act.put, List.setIfInBounds_toArray, List.set_cons_zero, List.set_cons_succ])
              refine QK.take HK ?_ (by rfl) ?_ ?_
              rotate_left
              · (intro w hw; (try have hcs := hcells w hw); (try go_split_ands); go_simp <;> with_reducible rfl)
              (try simp only [Act.put, List.setIfInBounds_toArray, List.set_cons_zero, List.set_cons_succ])
              refine QK.take HK ?_ (by rfl) ?_ ?_
              rotate_left
              · (intro w hw; (try have hcs := hcells w hw); (try go_split_ands); go_simp <;> with_reducible rfl)
              (try simp only [Act.put, List.setIfInBounds_toArray, List.set_cons_zero, List.set_cons_succ])
              refine QK.skip HK (by rfl) ?_
              (try simp only [Act.put, List.setIfInBounds_toArray, List.set_cons_zero, List.set_cons_succ])
              refine QK.skip HK (by rfl) ?_
              (try simp only [Act.put, List.setIfInBounds_toArray, List.set_cons_zero, List.set_cons_succ])
              refine QK.skip HK (by rfl) ?_
              (try simp only [Act.put, List.setIfInBounds_toArray, List.set_cons_zero, List.set_cons_succ])
              refine QK.skip HK (by rfl) ?_
              (try simp only [Act.put, List.setIfInBounds_toArray, List.set_cons_zero, List.set_cons_succ])
              refine QK.take HK ?_ (by rfl) ?_ ?_
              rotate_left
              · (intro w hw; (try have hcs := hcells w hw); (try go_split_ands); go_simp <;> with_reducible rfl)
              (try simp only [Act.put, List.setIfInBounds_toArray, List.set_cons_zero, List.set_cons_succ])
              refine QK.take HK ?_ (by rfl) ?_ ?_
              rotate_left
              · (intro w hw; (try have hcs := hcells w hw); (try go_split_ands); go_simp <;> with_reducible rfl)
              (try simp only [Act.put, List.setIfInBounds_toArray, List.set_cons_zero, List.set_cons_succ])
              refine QK.take HK ?_ (by rfl) ?_ ?_
              rotate_left
              · (intro w hw; (try have hcs := hcells w hw); (try go_split_ands); go_simp <;> with_reducible rfl)
              (try simp only [Act.put, List.setIfInBounds_toArray, List.set_cons_zero, List.set_cons_succ])
              refine QK.take HK ?_ (by rfl) ?_ ?_
              rotate_left
              · (intro w hw; (try have hcs := hcells w hw); (try go_split_ands); go_simp <;> with_reducible rfl)
              (try simp only [Act.put, List.setIfInBounds_toArray, List.set_cons_zero, List.set_cons_succ])
              refine QK.take HK ?_ (by rfl) ?_ ?_
              rotate_left
              · (intro w hw; (try have hcs := hcells w hw); (try go_split_ands); go_simp <;> with_reducible rfl)
              (try simp only [Act.put, List.setIfInBounds_toArray, List.set_cons_zero, List.set_cons_succ])
              refine QK.take HK ?_ (by rfl) ?_ ?_
              rotate_left
              · (intro w hw; (try have hcs := hcells w hw); (try go_split_ands); go_simp <;> with_reducible rfl)
              (try simp only [Act.put, List.setIfInBounds_toArray, List.set_cons_zero, List.set_cons_succ])
              refine QK.take HK ?_ (by rfl) ?_ ?_
              rotate_left
              · (intro w hw; (try have hcs := hcells w hw); (try go_split_ands); go_simp <;> with_reducible rfl)
              (try simp only [Act.put, List.setIfInBounds_toArray, List.set_cons_zero, List.set_cons_succ])
              refine QK.take HK ?_ (by rfl) ?_ ?_
              rotate_left
              · (intro w hw; (try have hcs := hcells w hw); (try go_split_ands); go_simp <;> with_reducible rfl)
              (try simp only [Act.put, List.setIfInBounds_toArray, List.set_cons_zero, List.set_cons_succ])
              refine QK.skip HK (by rfl) ?_
              (try simp only [Act.put, List.setIfInBounds_toArray, List.set_cons_zero, List.set_cons_succ])
              refine QK.skip HK (by rfl) ?_
              (try simp only [Act.put, List.setIfInBounds_toArray, List.set_cons_zero, List.set_cons_succ])
              refine QK.skip HK (by rfl) ?_
              (try simp only [Act.put, List.setIfInBounds_toArray, List.set_cons_zero, List.set_cons_succ])
              refine QK.skip HK (by rfl) ?_
              (try simp only [Act.put, List.setIfInBounds_toArray, List.set_cons_zero, List.set_cons_succ])
              refine QK.take HK ?_ (by rfl) ?_ ?_
              rotate_left
              · (intro w hw; (try have hcs := hcells w hw); (try go_split_ands); go_simp <;> with_reducible rfl)
              (try simp only [Act.put, List.setIfInBounds_toArray, List.set_cons_zero, List.set_cons_succ])
              refine QK.take HK ?_ (by rfl) ?_ ?_
              rotate_left
              · (intro w hw; (try have hcs := hcells w hw); (try go_split_ands); go_simp <;> with_reducible rfl)
              (try simp only [Act.put, List.setIfInBounds_toArray, List.set_cons_zero, List.set_cons_succ])
              refine QK.take HK ?_ (by rfl) ?_ ?_
              rotate_left
              · (intro w hw; (try have hcs := hcells w hw); (try go_split_ands); go_simp <;> with_reducible rfl)
              (try simp only [Act.put, List.setIfInBounds_toArray, List.set_cons_zero, List.set_cons_succ])
              refine QK.take HK ?_ (by rfl) ?_ ?_
              rotate_left
              · (intro w hw; (try have hcs := hcells w hw); (try go_split_ands); go_simp <;> with_reducible rfl)
              (try simp only [Act.put, List.setIfInBounds_toArray, List.set_cons_zero, List.set_cons_succ])
              refine QK.take HK ?_ (by rfl) ?_ ?_
              rotate_left
              · (intro w hw; (try have hcs := hcells w hw); (try go_split_ands); go_simp <;> with_reducible rfl)
              (try simp only [Act.put, List.setIfInBounds_toArray, List.set_cons_zero, List.set_cons_succ])
              refine QK.take HK ?_ (by rfl) ?_ ?_
              rotate_left
              · (intro w hw; (try have hcs := hcells w hw); (try go_split_ands); go_simp <;> with_reducible rfl)
              (try simp only [Act.put, List.setIfInBounds_toArray, List.set_cons_zero, List.set_cons_succ])
              refine QK.take HK ?_ (by rfl) ?_ ?_
              rotate_left
              · (intro w hw; (try have hcs := hcells w hw); (try go_split_ands); go_simp <;> with_reducible rfl)
              (try simp only [Act.put, List.setIfInBounds_toArray, List.set_cons_zero, List.set_cons_succ])
              refine QK.take HK ?_ (by rfl) ?_ ?_
              rotate_left
              · (intro w hw; (try have hcs := hcells w hw); (try go_split_ands); go_simp <;> with_reducible rfl)
              (try simp only [Act.put, List.setIfInBounds_toArray, List.set_cons_zero, List.set_cons_succ])
              refine QK.take HK ?_ (by rfl) ?_ ?_
              rotate_left
              · (intro w hw; (try have hcs := hcells w hw); (try go_split_ands); go_simp <;> with_reducible rfl)
              (try simp only [Act.put, List.setIfInBounds_toArray, List.set_cons_zero, List.set_cons_succ])
              refine QK.take HK ?_ (by rfl) ?_ ?_
              rotate_left
              · (intro w hw; (try have hcs := hcells w hw); (try go_split_ands); go_simp <;> with_reducible rfl)
              (try simp only [Act.put, List.setIfInBounds_toArray, List.set_cons_zero, List.set_cons_succ])
              refine QK.take HK ?_ (by rfl) ?_ ?_
              rotate_left
              · (intro w hw; (try have hcs := hcells w hw); (try go_split_ands); go_simp <;> with_reducible rfl)
              (try simp only [Act.put, List.setIfInBounds_toArray, List.set_cons_zero, List.set_cons_succ])
              refine QK.take HK ?_ (by rfl) ?_ ?_
              rotate_left
              · (intro w hw; (try have hcs := hcells w hw); (try go_split_ands); go_simp <;> with_reducible rfl)
              (try simp only [Act.put, List.setIfInBounds_toArray, List.set_cons_zero, List.set_cons_succ])
              refine QK.take HK ?_ (by rfl) ?_ ?_
              rotate_left
              · (intro w hw; (try have hcs := hcells w hw); (try go_split_ands); go_simp <;> with_reducible rfl)
              (try simp only [Act.put, List.setIfInBounds_toArray, List.set_cons_zero, List.set_cons_succ])
              refine QK.take HK ?_ (by rfl) ?_ ?_
              rotate_left
              · (intro w hw; (try have hcs := hcells w hw); (try go_split_ands); go_simp <;> with_reducible rfl)
              (try simp only [Act.put, List.setIfInBounds_toArray, List.set_cons_zero, List.set_cons_succ])
              refine QK.nil HK ?_
              clear HK K
              intro wq hq
              have hg := (hgr wq hq).1
              clear hcells hin hcl hgr hq
              go_wp2
              go_meet
              case rel => exact ⟨rfl, hg⟩
            · have f1 : (b1 == a1) = true := by simp [e1]
              have f2 : (b2 == a2) = false := by simp [e2]
              have f3 : (a1 == b1) = true := by simp [e1]
              have f4 : (a2 == b2) = false := by simp; omega
              clear e1 e2 hc
              obtain ⟨C, hin, hcl, hcells, hgr⟩ : ∃ C : World → Prop, (∀ w', W3.heap.size ≤ w'.heap.size ∧ IsGr W3 w' ∧ (w'.cell? ⟨w.heap.size, 0, none⟩ = some (.int .i64 a1) ∧ w'.cell? ⟨w.heap.size, 1, none⟩ = some (.int .i64 a2) ∧ w'.cell? ⟨w.heap.size, 2, none⟩ = some (.int .i64 b1) ∧ w'.cell? ⟨w.heap.size, 3, none⟩ = some (.int .i64 b2)) ∧ (w'.cell? ⟨g6, 0, none⟩ = some (.int .i64 a1) ∧ w'.cell? ⟨g6, 1, none⟩ = some (.int .i64 a2)) ∧ (w'.cell? ⟨g7, 0, none⟩ = some (.int .i64 b1) ∧ w'.cell? ⟨g7, 1, none⟩ = some (.int .i64 b2)) → C w') ∧ (∀ u u', C u → IsGr u u' → C u') ∧ (∀ w', C w' → (w'.cell? ⟨w.heap.size, 0, none⟩ = some (.int .i64 a1) ∧ w'.cell? ⟨w.heap.size, 1, none⟩ = some (.int .i64 a2) ∧ w'.cell? ⟨w.heap.size, 2, none⟩ = some (.int .i64 b1) ∧ w'.cell? ⟨w.heap.size, 3, none⟩ = some (.int .i64 b2)) ∧ (w'.cell? ⟨g6, 0, none⟩ = some (.int .i64 a1) ∧ w'.cell? ⟨g6, 1, none⟩ = some (.int .i64 a2)) ∧ (w'.cell? ⟨g7, 0, none⟩ = some (.int .i64 b1) ∧ w'.cell? ⟨g7, 1, none⟩ = some (.int .i64 b2))) ∧ (∀ w', C w' → IsGr W3 w' ∧ W3.heap.size ≤ w'.heap.size) := by
                refine ⟨fun w' => W3.heap.size ≤ w'.heap.size ∧ IsGr W3 w' ∧ (w'.cell? ⟨w.heap.size, 0, none⟩ = some (.int .i64 a1) ∧ w'.cell? ⟨w.heap.size, 1, none⟩ = some (.int .i64 a2) ∧ w'.cell? ⟨w.heap.size, 2, none⟩ = some (.int .i64 b1) ∧ w'.cell? ⟨w.heap.size, 3, none⟩ = some (.int .i64 b2)) ∧ (w'.cell? ⟨g6, 0, none⟩ = some (.int .i64 a1) ∧ w'.cell? ⟨g6, 1, none⟩ = some (.int .i64 a2)) ∧ (w'.cell? ⟨g7, 0, none⟩ = some (.int .i64 b1) ∧ w'.cell? ⟨g7, 1, none⟩ = some (.int .i64 b2)), fun w' h => h, ?_, fun w' h => h.2.2, fun w' h => ⟨h.2.1, h.1⟩⟩
                rintro u u' ⟨h0, h1, h2⟩ hg
                refine ⟨Nat.le_trans h0 hg.size, h1.trans hg, ?_⟩
                exact ⟨⟨hg.cell_at (by omega) h2.1.1, hg.cell_at (by omega) h2.1.2.1, hg.cell_at (by omega) h2.1.2.2.1, hg.cell_at (by omega) h2.1.2.2.2⟩, ⟨hg.cell_at (by omega) h2.2.1.1, hg.cell_at (by omega) h2.2.1.2⟩, ⟨hg.cell_at (by omega) h2.2.2.1, hg.cell_at (by omega) h2.2.2.2⟩⟩
              refine wp_region_quietV C (by kernel_rfl) (by kernel_rfl) (hin _ ⟨by simp, (by with_reducible repeat (first | exact IsGr.refl _ | refine IsGr.gr ?_ _ _ | refine IsGr.alloc ?_ _ | refine IsGr.drew ?_ | refine IsGr.drewN ?_ _)), ⟨qa, q6, q7⟩⟩) (fun K HK => ?_)
              refine QK.take HK ?_ (by rfl) ?_ ?_
              rotate_left
              · (intro w hw; (try have hcs := hcells w hw); (try go_split_ands); go_simp <;> with_reducible rfl)
              (try simp only [Act.put, List.setIfInBounds_toArray, List.set_cons_zero, List.set_cons_succ])
              refine QK.call HK 22 #[.agg #[.int .i64 b1, .int .i64 b2]] (.agg #[.int .i64 b1, .int .i64 b2]) hcl (by rfl) (fun w => by go_simp) Fb ?_
              (try simp only [Act.put, List.setIfInBounds_toArray, List.set_cons_zero, List.set_cons_succ])
              refine QK.take HK ?_ (by rfl) ?_ ?_
              rotate_left
              · (intro w hw; (try have hcs := hcells w hw); (try go_split_ands); go_simp <;> with_reducible rfl)
              (try simp only [Act.put, List.setIfInBounds_toArray, List.set_cons_zero, List.set_cons_succ])
              refine QK.call HK 22 #[.agg #[.int .i64 a1, .int .i64 a2]] (.agg #[.int .i64 a1, .int .i64 a2]) hcl (by rfl) (fun w => by go_simp) Fa ?_
              (try simp only [Act.put, List.setIfInBounds_toArray, List.set_cons_zero, List.set_cons_succ])
              refine QK.call HK 18 #[.agg #[.int .i64 b1, .int .i64 b2], .agg #[.int .i64 a1, .int .i64 a2]] (.bool false) hcl (by rfl) (fun w => by go_simp) CAH ?_
              (try simp only [Act.put, List.setIfInBounds_toArray, List.set_cons_zero, List.set_cons_succ])
              refine QK.take HK ?_ (by rfl) ?_ ?_
              rotate_left
              · (intro w hw; (try have hcs := hcells w hw); (try go_split_ands); go_simp <;> with_reducible rfl)
              (try simp only [Act.put, List.setIfInBounds_toArray, List.set_cons_zero, List.set_cons_succ])
              refine QK.take HK ?_ (by rfl) ?_ ?_
              rotate_left
              · (intro w hw; (try have hcs := hcells w hw); (try go_split_ands); go_simp <;> with_reducible rfl)
              (try simp only [Act.put, List.setIfInBounds_toArray, List.set_cons_zero, List.set_cons_succ])
              refine QK.take HK ?_ (by rfl) ?_ ?_
              rotate_left
              · (intro w hw; (try have hcs := hcells w hw); (try go_split_ands); go_simp <;> with_reducible rfl)
              (try simp only [Act.put, List.setIfInBounds_toArray, List.set_cons_zero, List.set_cons_succ])
              refine QK.take HK ?_ (by rfl) ?_ ?_
              rotate_left
              · (intro w hw; (try have hcs := hcells w hw); (try go_split_ands); go_simp <;> with_reducible rfl)
              (try simp only [Act.put, List.setIfInBounds_toArray, List.set_cons_zero, List.set_cons_succ])
              refine QK.take HK ?_ (by rfl) ?_ ?_
              rotate_left
              · (intro w hw; (try have hcs := hcells w hw); (try go_split_ands); go_simp <;> with_reducible rfl)
              (try simp only [Act.put, List.setIfInBounds_toArray, List.set_cons_zero, List.set_cons_succ])
              refine QK.take HK ?_ (by rfl) ?_ ?_
              rotate_left
              · (intro w hw; (try have hcs := hcells w hw); (try go_split_ands); go_simp <;> with_reducible rfl)
              (try simp only [Act.put, List.setIfInBounds_toArray, List.set_cons_zero, List.set_cons_succ])
              refine QK.skip HK (by rfl) ?_
              (try simp only [Act.put, List.setIfInBounds_toArray, List.set_cons_zero, List.set_cons_succ])
              refine QK.skip HK (by rfl) ?_
              (try simp only [Act.put, List.setIfInBounds_toArray, List.set_cons_zero, List.set_cons_succ])
              refine QK.skip HK (by rfl) ?_
              (try simp only [Act.put, List.setIfInBounds_toArray, List.set_cons_zero, List.set_cons_succ])
              refine QK.skip HK (by rfl) ?_
              (try simp only [Act.put, List.setIfInBounds_toArray, List.set_cons_zero, List.set_cons_succ])
              refine QK.take HK ?_ (by rfl) ?_ ?_
              rotate_left
              · (intro w hw; (try have hcs := hcells w hw); (try go_split_ands); go_simp <;> with_reducible rfl)
              (try simp only [Act.put, List.setIfInBounds_toArray, List.set_cons_zero, List.set_cons_succ])
              refine QK.take HK ?_ (by rfl) ?_ ?_
              rotate_left
              · (intro w hw; (try have hcs := hcells w hw); (try go_split_ands); go_simp <;> with_reducible rfl)
              (try simp only [Act.put, List.setIfInBounds_toArray, List.set_cons_zero, List.set_cons_succ])
              refine QK.take HK ?_ (by rfl) ?_ ?_
              rotate_left
              · (intro w hw; (try have hcs := hcells w hw); (try go_split_ands); go_simp <;> with_reducible rfl)
              (try simp only [Act.put, List.setIfInBounds_toArray, List.set_cons_zero, List.set_cons_succ])
              refine QK.take HK ?_ (by rfl) ?_ ?_
              rotate_left
              · (intro w hw; (try have hcs := hcells w hw); (try go_split_ands); go_simp <;> with_reducible rfl)
              (try simp only [Act.put, List.setIfInBounds_toArray, List.set_cons_zero, List.set_cons_succ])
              refine QK.take HK ?_ (by rfl) ?_ ?_
              rotate_left
              · (intro w hw; (try have hcs := hcells w hw); (try go_split_ands); go_simp <;> with_reducible rfl)
              (try simp only [Act.put, List.setIfInBounds_toArray, List.set_cons_zero, List.set_cons_succ])
              refine QK.take HK ?_ (by rfl) ?_ ?_
              rotate_left
              · (intro w hw; (try have hcs := hcells w hw); (try go_split_ands); go_simp <;> with_reducible rfl)
              (try simp only [Act.put, List.setIfInBounds_toArray, List.set_cons_zero, List.set_cons_succ])
              refine QK.take HK ?_ (by rfl) ?_ ?_
              rotate_left
              · (intro w hw; (try have hcs := hcells w hw); (try go_split_ands); go_simp <;> with_reducible rfl)
              (try simp only [Act.put, List.setIfInBounds_toArray, List.set_cons_zero, List.set_cons_succ])
              refine QK.take HK ?_ (by rfl) ?_ ?_
              rotate_left
              · (intro w hw; (try have hcs := hcells w hw); (try go_split_ands); go_simp <;> with_reducible rfl)
              (try simp only [Act.put, List.setIfInBounds_toArray, List.set_cons_zero, List.set_cons_succ])
              refine QK.take HK ?_ (by rfl) ?_ ?_
              rotate_left
              · (intro w hw; (try have hcs := hcells w hw); (try go_split_ands); go_simp <;> with_reducible rfl)
              (try simp only [Act.put, List.setIfInBounds_toArray, List.set_cons_zero, List.set_cons_succ])
              refine QK.take HK ?_ (by rfl) ?_ ?_
              rotate_left
              · (intro w hw; (try have hcs := hcells w hw); (try go_split_ands); go_simp <;> with_reducible rfl)
              (try simp only [Act.put, List.setIfInBounds_toArray, List.set_cons_zero, List.set_cons_succ])
              refine QK.take HK ?_ (by rfl) ?_ ?_
              rotate_left
              · (intro w hw; (try have hcs := hcells w hw); (try go_split_ands); go_simp <;> with_reducible rfl)
              (try simp only [Act.put, List.setIfInBounds_toArray, List.set_cons_zero, List.set_cons_succ])
              refine QK.take HK ?_ (by rfl) ?_ ?_
              rotate_left
              · (intro w hw; (try have hcs := hcells w hw); (try go_split_ands); go_simp <;> with_reducible rfl)
              (try simp only [Act.put, List.setIfInBounds_toArray, List.set_cons_zero, List.set_cons_succ])
              refine QK.take HK ?_ (by rfl) ?_ ?_
              rotate_left
              · (intro w hw; (try have hcs := hcells w hw); (try go_split_ands); go_simp <;> with_reducible rfl)
              (try simp only [Act.put, List.setIfInBounds_toArray, List.set_cons_zero, List.set_cons_succ])
              refine QK.take HK ?_ (by rfl) ?_ ?_
              rotate_left
              · (intro w hw; (try have hcs := hcells w hw); (try go_split_ands); go_simp <;> with_reducible rfl)
              (try simp only [Act.put, List.setIfInBounds_toArray, List.set_cons_zero, List.set_cons_succ])
              refine QK.take HK ?_ (by rfl) ?_ ?_
              rotate_left
              · (intro w hw; (try have hcs := hcells w hw); (try go_split_ands); go_simp <;> with_reducible rfl)
              (try simp only [Act.put, List.setIfInBounds_toArray, List.set_cons_zero, List.set_cons_succ])
              refine QK.take HK ?_ (by rfl) ?_ ?_
              rotate_left
              · (intro w hw; (try have hcs := hcells w hw); (try go_split_ands); go_simp <;> with_reducible rfl)
              (try simp only [Act.put, List.setIfInBounds_toArray, List.set_cons_zero, List.set_cons_succ])
              refine QK.take HK ?_ (by rfl) ?_ ?_
              rotate_left
              · (intro w hw; (try have hcs := hcells w hw); (try go_split_ands); go_simp <;> with_reducible rfl)
              (try simp only [Act.put, List.setIfInBounds_toArray, List.set_cons_zero, List.set_cons_succ])
              refine QK.take HK ?_ (by rfl) ?_ ?_
              rotate_left
              · (intro w hw; (try have hcs := hcells w hw); (try go_split_ands); go_simp <;> with_reducible rfl)
              (try simp only [Act.put, List.setIfInBounds_toArray, List.set_cons_zero, List.set_cons_succ])
              refine QK.take HK ?_ (by rfl) ?_ ?_
              rotate_left
              · (intro w hw; (try have hcs := hcells w hw); (try go_split_ands); go_simp <;> with_reducible rfl)
              (try simp only [Act.put, List.setIfInBounds_toArray, List.set_cons_zero, List.set_cons_succ])
              refine QK.skip HK (by rfl) ?_
              (try simp only [Act.put, List.setIfInBounds_toArray, List.set_cons_zero, List.set_cons_succ])
              refine QK.skip HK (by rfl) ?_
              (try simp only [Act.put, List.setIfInBounds_toArray, List.set_cons_zero, List.set_cons_succ])
              refine QK.skip HK (by rfl) ?_
              (try simp only [Act.put, List.setIfInBounds_toArray, List.set_cons_zero, List.set_cons_succ])
              refine QK.skip HK (by rfl) ?_
              (try simp only [Act.put, List.setIfInBounds_toArray, List.set_cons_zero, List.set_cons_succ])
              refine QK.skip HK (by rfl) ?_
              (try simp only [Act.put, List.setIfInBounds_toArray, List.set_cons_zero, List.set_cons_succ])
              refine QK.take HK ?_ (by rfl) ?_ ?_
              rotate_left
              · (intro w hw; (try have hcs := hcells w hw); (try go_split_ands); go_simp <;> with_reducible rfl)
              (try simp only [Act.put, List.setIfInBounds_toArray, List.set_cons_zero, List.set_cons_succ])
              refine QK.take HK ?_ (by rfl) ?_ ?_
              rotate_left
              · (intro w hw; (try have hcs := hcells w hw); (try go_split_ands); go_simp <;> with_reducible rfl)
              (try simp only [Act.put, List.setIfInBounds_toArray, List.set_cons_zero, List.set_cons_succ])
              refine QK.nil HK ?_
              clear HK K
              intro wq hq
              have hg := (hgr wq hq).1
              clear hcells hin hcl hgr hq
              go_wp2
              go_meet
              case rel => exact ⟨rfl, hg⟩
          · have f1 : (b1 == a1) = false := by simp [e1]
            have f3 : (a1 == b1) = false := by simp; omega
            clear e1 hc
            obtain ⟨C, hin, hcl, hcells, hgr⟩ : ∃ C : World → Prop, (∀ w', W3.heap.size ≤ w'.heap.size ∧ IsGr W3 w' ∧ (w'.cell? ⟨w.heap.size, 0, none⟩ = some (.int .i64 a1) ∧ w'.cell? ⟨w.heap.size, 1, none⟩ = some (.int .i64 a2) ∧ w'.cell? ⟨w.heap.size, 2, none⟩ = some (.int .i64 b1) ∧ w'.cell? ⟨w.heap.size, 3, none⟩ = some (.int .i64 b2)) ∧ (w'.cell? ⟨g6, 0, none⟩ = some (.int .i64 a1) ∧ w'.cell? ⟨g6, 1, none⟩ = some (.int .i64 a2)) ∧ (w'.cell? ⟨g7, 0, none⟩ = some (.int .i64 b1) ∧ w'.cell? ⟨g7, 1, none⟩ = some (.int .i64 b2)) → C w') ∧ (∀ u u', C u → IsGr u u' → C u') ∧ (∀ w', C w' → (w'.cell? ⟨w.heap.size, 0, none⟩ = some (.int .i64 a1) ∧ w'.cell? ⟨w.heap.size, 1, none⟩ = some (.int .i64 a2) ∧ w'.cell? ⟨w.heap.size, 2, none⟩ = some (.int .i64 b1) ∧ w'.cell? ⟨w.heap.size, 3, none⟩ = some (.int .i64 b2)) ∧ (w'.cell? ⟨g6, 0, none⟩ = some (.int .i64 a1) ∧ w'.cell? ⟨g6, 1, none⟩ = some (.int .i64 a2)) ∧ (w'.cell? ⟨g7, 0, none⟩ = some (.int .i64 b1) ∧ w'.cell? ⟨g7, 1, none⟩ = some (.int .i64 b2))) ∧ (∀ w', C w' → IsGr W3 w' ∧ W3.heap.size ≤ w'.heap.size) := by
              refine ⟨fun w' => W3.heap.size ≤ w'.heap.size ∧ IsGr W3 w' ∧ (w'.cell? ⟨w.heap.size, 0, none⟩ = some (.int .i64 a1) ∧ w'.cell? ⟨w.heap.size, 1, none⟩ = some (.int .i64 a2) ∧ w'.cell? ⟨w.heap.size, 2, none⟩ = some (.int .i64 b1) ∧ w'.cell? ⟨w.heap.size, 3, none⟩ = some (.int .i64 b2)) ∧ (w'.cell? ⟨g6, 0, none⟩ = some (.int .i64 a1) ∧ w'.cell? ⟨g6, 1, none⟩ = some (.int .i64 a2)) ∧ (w'.cell? ⟨g7, 0, none⟩ = some (.int .i64 b1) ∧ w'.cell? ⟨g7, 1, none⟩ = some (.int .i64 b2)), fun w' h => h, ?_, fun w' h => h.2.2, fun w' h => ⟨h.2.1, h.1⟩⟩
              rintro u u' ⟨h0, h1, h2⟩ hg
              refine ⟨Nat.le_trans h0 hg.size, h1.trans hg, ?_⟩
              exact ⟨⟨hg.cell_at (by omega) h2.1.1, hg.cell_at (by omega) h2.1.2.1, hg.cell_at (by omega) h2.1.2.2.1, hg.cell_at (by omega) h2.1.2.2.2⟩, ⟨hg.cell_at (by omega) h2.2.1.1, hg.cell_at (by omega) h2.2.1.2⟩, ⟨hg.cell_at (by omega) h2.2.2.1, hg.cell_at (by omega) h2.2.2.2⟩⟩
            refine wp_region_quietV C (by kernel_rfl) (by kernel_rfl) (hin _ ⟨by simp, (by with_reducible repeat (first | exact IsGr.refl _ | refine IsGr.gr ?_ _ _ | refine IsGr.alloc ?_ _ | refine IsGr.drew ?_ | refine IsGr.drewN ?_ _)), ⟨qa, q6, q7⟩⟩) (fun K HK => ?_)
            refine QK.take HK ?_ (by rfl) ?_ ?_
            rotate_left
            · (intro w hw; (try have hcs := hcells w hw); (try go_split_ands); go_simp <;> with_reducible rfl)
            (try simp only [Act.put, List.setIfInBounds_toArray, List.set_cons_zero, List.set_cons_succ])
            refine QK.call HK 22 #[.agg #[.int .i64 b1, .int .i64 b2]] (.agg #[.int .i64 b1, .int .i64 b2]) hcl (by rfl) (fun w => by go_simp) Fb ?_
            (try simp only [Act.put, List.setIfInBounds_toArray, List.set_cons_zero, List.set_cons_succ])
            refine QK.take HK ?_ (by rfl) ?_ ?_
            rotate_left
            · (intro w hw; (try have hcs := hcells w hw); (try go_split_ands); go_simp <;> with_reducible rfl)
            (try simp only [Act.put, List.setIfInBounds_toArray, List.set_cons_zero, List.set_cons_succ])
            refine QK.call HK 22 #[.agg #[.int .i64 a1, .int .i64 a2]] (.agg #[.int .i64 a1, .int .i64 a2]) hcl (by rfl) (fun w => by go_simp) Fa ?_
            (try simp only [Act.put, List.setIfInBounds_toArray, List.set_cons_zero, List.set_cons_succ])
            refine QK.call HK 18 #[.agg #[.int .i64 b1, .int .i64 b2], .agg #[.int .i64 a1, .int .i64 a2]] (.bool false) hcl (by rfl) (fun w => by go_simp) CAH ?_
            (try simp only [Act.put, List.setIfInBounds_toArray, List.set_cons_zero, List.set_cons_succ])
            refine QK.take HK ?_ (by rfl) ?_ ?_
            rotate_left
            · (intro w hw; (try have hcs := hcells w hw); (try go_split_ands); go_simp <;> with_reducible rfl)
            (try simp only [Act.put, List.setIfInBounds_toArray, List.set_cons_zero, List.set_cons_succ])
            refine QK.take HK ?_ (by rfl) ?_ ?_
            rotate_left
            · (intro w hw; (try have hcs := hcells w hw); (try go_split_ands); go_simp <;> with_reducible rfl)
            (try simp only [Act.put, List.setIfInBounds_toArray, List.set_cons_zero, List.set_cons_succ])
            refine QK.take HK ?_ (by rfl) ?_ ?_
            rotate_left
            · (intro w hw; (try have hcs := hcells w hw); (try go_split_ands); go_simp <;> with_reducible rfl)
            (try simp only [Act.put, List.setIfInBounds_toArray, List.set_cons_zero, List.set_cons_succ])
            refine QK.take HK ?_ (by rfl) ?_ ?_
            rotate_left
            · (intro w hw; (try have hcs := hcells w hw); (try go_split_ands); go_simp <;> with_reducible rfl)
            (try simp only [Act.put, List.setIfInBounds_toArray, List.set_cons_zero, List.set_cons_succ])
            refine QK.take HK ?_ (by rfl) ?_ ?_
            rotate_left
            · (intro w hw; (try have hcs := hcells w hw); (try go_split_ands); go_simp <;> with_reducible rfl)
            (try simp only [Act.put, List.setIfInBounds_toArray, List.set_cons_zero, List.set_cons_succ])
            refine QK.take HK ?_ (by rfl) ?_ ?_
            rotate_left
            · (intro w hw; (try have hcs := hcells w hw); (try go_split_ands); go_simp <;> with_reducible rfl)
            (try simp only [Act.put, List.setIfInBounds_toArray, List.set_cons_zero, List.set_cons_succ])
            refine QK.skip HK (by rfl) ?_
            (try simp only [Act.put, List.setIfInBounds_toArray, List.set_cons_zero, List.set_cons_succ])
            refine QK.skip HK (by rfl) ?_
            (try simp only [Act.put, List.setIfInBounds_toArray, List.set_cons_zero, List.set_cons_succ])
            refine QK.skip HK (by rfl) ?_
            (try simp only [Act.put, List.setIfInBounds_toArray, List.set_cons_zero, List.set_cons_succ])
            refine QK.skip HK (by rfl) ?_
            (try simp only [Act.put, List.setIfInBounds_toArray, List.set_cons_zero, List.set_cons_succ])
            refine QK.take HK ?_ (by rfl) ?_ ?_
            rotate_left
            · (intro w hw; (try have hcs := hcells w hw); (try go_split_ands); go_simp <;> with_reducible rfl)
            (try simp only [Act.put, List.setIfInBounds_toArray, List.set_cons_zero, List.set_cons_succ])
            refine QK.take HK ?_ (by rfl) ?_ ?_
            rotate_left
            · (intro w hw; (try have hcs := hcells w hw); (try go_split_ands); go_simp <;> with_reducible rfl)
            (try simp only [Act.put, List.setIfInBounds_toArray, List.set_cons_zero, List.set_cons_succ])
            refine QK.take HK ?_ (by rfl) ?_ ?_
            rotate_left
            · (intro w hw; (try have hcs := hcells w hw); (try go_split_ands); go_simp <;> with_reducible rfl)
            (try simp only [Act.put, List.setIfInBounds_toArray, List.set_cons_zero, List.set_cons_succ])
            refine QK.take HK ?_ (by rfl) ?_ ?_
            rotate_left
            · (intro w hw; (try have hcs := hcells w hw); (try go_split_ands); go_simp <;> with_reducible rfl)
            (try simp only [Act.put, List.setIfInBounds_toArray, List.set_cons_zero, List.set_cons_succ])
            refine QK.take HK ?_ (by rfl) ?_ ?_
            rotate_left
            · (intro w hw; (try have hcs := hcells w hw); (try go_split_ands); go_simp <;> with_reducible rfl)
            (try simp only [Act.put, List.setIfInBounds_toArray, List.set_cons_zero, List.set_cons_succ])
            refine QK.take HK ?_ (by rfl) ?_ ?_
            rotate_left
            · (intro w hw; (try have hcs := hcells w hw); (try go_split_ands); go_simp <;> with_reducible rfl)
            (try simp only [Act.put, List.setIfInBounds_toArray, List.set_cons_zero, List.set_cons_succ])
            refine QK.take HK ?_ (by rfl) ?_ ?_
            rotate_left
            · (intro w hw; (try have hcs := hcells w hw); (try go_split_ands); go_simp <;> with_reducible rfl)
            (try simp only [Act.put, List.setIfInBounds_toArray, List.set_cons_zero, List.set_cons_succ])
            refine QK.take HK ?_ (by rfl) ?_ ?_
            rotate_left
            · (intro w hw; (try have hcs := hcells w hw); (try go_split_ands); go_simp <;> with_reducible rfl)
            (try simp only [Act.put, List.setIfInBounds_toArray, List.set_cons_zero, List.set_cons_succ])
            refine QK.take HK ?_ (by rfl) ?_ ?_
            rotate_left
            · (intro w hw; (try have hcs := hcells w hw); (try go_split_ands); go_simp <;> with_reducible rfl)
            (try simp only [Act.put, List.setIfInBounds_toArray, List.set_cons_zero, List.set_cons_succ])
            refine QK.take HK ?_ (by rfl) ?_ ?_
            rotate_left
            · (intro w hw; (try have hcs := hcells w hw); (try go_split_ands); go_simp <;> with_reducible rfl)
            (try simp only [Act.put, List.setIfInBounds_toArray, List.set_cons_zero, List.set_cons_succ])
            refine QK.take HK ?_ (by rfl) ?_ ?_
            rotate_left
            · (intro w hw; (try have hcs := hcells w hw); (try go_split_ands); go_simp <;> with_reducible rfl)
            (try simp only [Act.put, List.setIfInBounds_toArray, List.set_cons_zero, List.set_cons_succ])
            refine QK.take HK ?_ (by rfl) ?_ ?_
            rotate_left
            · (intro w hw; (try have hcs := hcells w hw); (try go_split_ands); go_simp <;> with_reducible rfl)
            (try simp only [Act.put, List.setIfInBounds_toArray, List.set_cons_zero, List.set_cons_succ])
            refine QK.take HK ?_ (by rfl) ?_ ?_
            rotate_left
            · (intro w hw; (try have hcs := hcells w hw); (try go_split_ands); go_simp <;> with_reducible rfl)
            (try simp only [Act.put, List.setIfInBounds_toArray, List.set_cons_zero, List.set_cons_succ])
            refine QK.take HK ?_ (by rfl) ?_ ?_
            rotate_left
            · (intro w hw; (try have hcs := hcells w hw); (try go_split_ands); go_simp <;> with_reducible rfl)
            (try simp only [Act.put, List.setIfInBounds_toArray, List.set_cons_zero, List.set_cons_succ])
            refine QK.take HK ?_ (by rfl) ?_ ?_
            rotate_left
            · (intro w hw; (try have hcs := hcells w hw); (try go_split_ands); go_simp <;> with_reducible rfl)
            (try simp only [Act.put, List.setIfInBounds_toArray, List.set_cons_zero, List.set_cons_succ])
            refine QK.take HK ?_ (by rfl) ?_ ?_
            rotate_left
            · (intro w hw; (try have hcs := hcells w hw); (try go_split_ands); go_simp <;> with_reducible rfl)
            (try simp only [Act.put, List.setIfInBounds_toArray, List.set_cons_zero, List.set_cons_succ])
            refine QK.take HK ?_ (by rfl) ?_ ?_
            rotate_left
            · (intro w hw; (try have hcs := hcells w hw); (try go_split_ands); go_simp <;> with_reducible rfl)
            (try simp only [Act.put, List.setIfInBounds_toArray, List.set_cons_zero, List.set_cons_succ])
            refine QK.take HK ?_ (by rfl) ?_ ?_
            rotate_left
            · (intro w hw; (try have hcs := hcells w hw); (try go_split_ands); go_simp <;> with_reducible rfl)
            (try simp only [Act.put, List.setIfInBounds_toArray, List.set_cons_zero, List.set_cons_succ])
            refine QK.take HK ?_ (by rfl) ?_ ?_
            rotate_left
            · (intro w hw; (try have hcs := hcells w hw); (try go_split_ands); go_simp <;> with_reducible rfl)
            (try simp only [Act.put, List.setIfInBounds_toArray, List.set_cons_zero, List.set_cons_succ])
            refine QK.skip HK (by rfl) ?_
            (try simp only [Act.put, List.setIfInBounds_toArray, List.set_cons_zero, List.set_cons_succ])
            refine QK.skip HK (by rfl) ?_
            (try simp only [Act.put, List.setIfInBounds_toArray, List.set_cons_zero, List.set_cons_succ])
            refine QK.skip HK (by rfl) ?_
            (try simp only [Act.put, List.setIfInBounds_toArray, List.set_cons_zero, List.set_cons_succ])
            refine QK.skip HK (by rfl) ?_
            (try simp only [Act.put, List.setIfInBounds_toArray, List.set_cons_zero, List.set_cons_succ])
            refine QK.skip HK (by rfl) ?_
            (try simp only [Act.put, List.setIfInBounds_toArray, List.set_cons_zero, List.set_cons_succ])
            refine QK.take HK ?_ (by rfl) ?_ ?_
            rotate_left
            · (intro w hw; (try have hcs := hcells w hw); (try go_split_ands); go_simp <;> with_reducible rfl)
            (try simp only [Act.put, List.setIfInBounds_toArray, List.set_cons_zero, List.set_cons_succ])
            refine QK.take HK ?_ (by rfl) ?_ ?_
            rotate_left
            · (intro w hw; (try have hcs := hcells w hw); (try go_split_ands); go_simp <;> with_reducible rfl)
            (try simp only [Act.put, List.setIfInBounds_toArray, List.set_cons_zero, List.set_cons_succ])
            refine QK.nil HK ?_
            clear HK K
            intro wq hq
            have hg := (hgr wq hq).1
            clear hcells hin hcl hgr hq
            go_wp2
            go_meet
            case rel => exact ⟨rfl, hg⟩
        case rest =>
          obtain ⟨rfl, hgr⟩ := hcut
          obtain ⟨W4, hW9⟩ : ∃ W4, W4 = wc := ⟨_, rfl⟩
          subst hW9
          replace qa : (W4.cell? ⟨w.heap.size, 0, none⟩ = some (.int .i64 a1) ∧ W4.cell? ⟨w.heap.size, 1, none⟩ = some (.int .i64 a2) ∧ W4.cell? ⟨w.heap.size, 2, none⟩ = some (.int .i64 b1) ∧ W4.cell? ⟨w.heap.size, 3, none⟩ = some (.int .i64 b2)) := ⟨hgr.cell_at ka qa.1, hgr.cell_at ka qa.2.1, hgr.cell_at ka qa.2.2.1, hgr.cell_at ka qa.2.2.2⟩
          replace q5 : (W4.cell? ⟨g5, 0, none⟩ = some (.bool xs) ∧ W4.cell? ⟨g5, 1, none⟩ = some (.slice xa xn xc) ∧ W4.cell? ⟨g5, 2, none⟩ = some (.bool ys) ∧ W4.cell? ⟨g5, 3, none⟩ = some (.slice ya yn yc) ∧ W4.cell? ⟨g5, 4, none⟩ = some (.bool zs) ∧ W4.cell? ⟨g5, 5, none⟩ = some (.slice za zn zc)) := ⟨hgr.cell_at k5 q5.1, hgr.cell_at k5 q5.2.1, hgr.cell_at k5 q5.2.2.1, hgr.cell_at k5 q5.2.2.2.1, hgr.cell_at k5 q5.2.2.2.2.1, hgr.cell_at k5 q5.2.2.2.2.2⟩
          replace q6 : (W4.cell? ⟨g6, 0, none⟩ = some (.int .i64 a1) ∧ W4.cell? ⟨g6, 1, none⟩ = some (.int .i64 a2)) := ⟨hgr.cell_at k6 q6.1, hgr.cell_at k6 q6.2⟩
          replace q7 : (W4.cell? ⟨g7, 0, none⟩ = some (.int .i64 b1) ∧ W4.cell? ⟨g7, 1, none⟩ = some (.int .i64 b2)) := ⟨hgr.cell_at k7 q7.1, hgr.cell_at k7 q7.2⟩
          replace qx : (W4.cell? ⟨w.heap.size + 1, 0, none⟩ = some (.int .u64 (wd0 x)) ∧ W4.cell? ⟨w.heap.size + 1, 1, none⟩ = some (.int .u64 (wd1 x)) ∧ W4.cell? ⟨w.heap.size + 1, 2, none⟩ = some (.int .u64 (wd2 x)) ∧ W4.cell? ⟨w.heap.size + 1, 3, none⟩ = some (.int .u64 (wd3 x)) ∧ W4.cell? ⟨w.heap.size + 1, 4, none⟩ = some (.int .u64 (wd0 y)) ∧ W4.cell? ⟨w.heap.size + 1, 5, none⟩ = some (.int .u64 (wd1 y)) ∧ W4.cell? ⟨w.heap.size + 1, 6, none⟩ = some (.int .u64 (wd2 y)) ∧ W4.cell? ⟨w.heap.size + 1, 7, none⟩ = some (.int .u64 (wd3 y)) ∧ W4.cell? ⟨w.heap.size + 1, 8, none⟩ = some (.int .u64 (wd0 z)) ∧ W4.cell? ⟨w.heap.size + 1, 9, none⟩ = some (.int .u64 (wd1 z)) ∧ W4.cell? ⟨w.heap.size + 1, 10, none⟩ = some (.int .u64 (wd2 z)) ∧ W4.cell? ⟨w.heap.size + 1, 11, none⟩ = some (.int .u64 (wd3 z))) := ⟨hgr.cell_at (by omega) qx.1, hgr.cell_at (by omega) qx.2.1, hgr.cell_at (by omega) qx.2.2.1, hgr.cell_at (by omega) qx.2.2.2.1, hgr.cell_at (by omega) qx.2.2.2.2.1, hgr.cell_at (by omega) qx.2.2.2.2.2.1, hgr.cell_at (by omega) qx.2.2.2.2.2.2.1, hgr.cell_at (by omega) qx.2.2.2.2.2.2.2.1, hgr.cell_at (by omega) qx.2.2.2.2.2.2.2.2.1, hgr.cell_at (by omega) qx.2.2.2.2.2.2.2.2.2.1, hgr.cell_at (by omega) qx.2.2.2.2.2.2.2.2.2.2.1, hgr.cell_at (by omega) qx.2.2.2.2.2.2.2.2.2.2.2⟩
          have hsz := hgr.size
          replace HG : Hid (IsGr w W4) := HG.out.trans hgr
          replace CT := fun w1 (hg : IsGr W4 w1) => CT w1 (hgr.trans hg)
          replace CHR := fun w1 (hg : IsGr W4 w1) => CHR w1 (hgr.trans hg)
          replace k5 : g5 < W4.heap.size := by omega
          replace k6 : g6 < W4.heap.size := by omega
          replace k7 : g7 < W4.heap.size := by omega
          replace ka : w.heap.size < W4.heap.size := by omega
          replace ks : w.heap.size + 2 ≤ W4.heap.size := by omega
          clear hgr hsz CAH hc
          go_upto_region 7 with fail
          obtain ⟨C, hin, hcl, hcells, hgr⟩ : ∃ C : World → Prop, (∀ w', W4.heap.size ≤ w'.heap.size ∧ IsGr W4 w' ∧ (w'.cell? ⟨w.heap.size, 0, none⟩ = some (.int .i64 a1) ∧ w'.cell? ⟨w.heap.size, 1, none⟩ = some (.int .i64 a2) ∧ w'.cell? ⟨w.heap.size, 2, none⟩ = some (.int .i64 b1) ∧ w'.cell? ⟨w.heap.size, 3, none⟩ = some (.int .i64 b2)) ∧ (w'.cell? ⟨w.heap.size + 1, 0, none⟩ = some (.int .u64 (wd0 x)) ∧ w'.cell? ⟨w.heap.size + 1, 1, none⟩ = some (.int .u64 (wd1 x)) ∧ w'.cell? ⟨w.heap.size + 1, 2, none⟩ = some (.int .u64 (wd2 x)) ∧ w'.cell? ⟨w.heap.size + 1, 3, none⟩ = some (.int .u64 (wd3 x)) ∧ w'.cell? ⟨w.heap.size + 1, 4, none⟩ = some (.int .u64 (wd0 y)) ∧ w'.cell? ⟨w.heap.size + 1, 5, none⟩ = some (.int .u64 (wd1 y)) ∧ w'.cell? ⟨w.heap.size + 1, 6, none⟩ = some (.int .u64 (wd2 y)) ∧ w'.cell? ⟨w.heap.size + 1, 7, none⟩ = some (.int .u64 (wd3 y)) ∧ w'.cell? ⟨w.heap.size + 1, 8, none⟩ = some (.int .u64 (wd0 z)) ∧ w'.cell? ⟨w.heap.size + 1, 9, none⟩ = some (.int .u64 (wd1 z)) ∧ w'.cell? ⟨w.heap.size + 1, 10, none⟩ = some (.int .u64 (wd2 z)) ∧ w'.cell? ⟨w.heap.size + 1, 11, none⟩ = some (.int .u64 (wd3 z))) ∧ (w'.cell? ⟨g5, 0, none⟩ = some (.bool xs) ∧ w'.cell? ⟨g5, 1, none⟩ = some (.slice xa xn xc) ∧ w'.cell? ⟨g5, 2, none⟩ = some (.bool ys) ∧ w'.cell? ⟨g5, 3, none⟩ = some (.slice ya yn yc) ∧ w'.cell? ⟨g5, 4, none⟩ = some (.bool zs) ∧ w'.cell? ⟨g5, 5, none⟩ = some (.slice za zn zc)) ∧ (w'.cell? ⟨g6, 0, none⟩ = some (.int .i64 a1) ∧ w'.cell? ⟨g6, 1, none⟩ = some (.int .i64 a2)) ∧ (w'.cell? ⟨g7, 0, none⟩ = some (.int .i64 b1) ∧ w'.cell? ⟨g7, 1, none⟩ = some (.int .i64 b2)) → C w') ∧ (∀ u u', C u → IsGr u u' → C u') ∧ (∀ w', C w' → (w'.cell? ⟨w.heap.size, 0, none⟩ = some (.int .i64 a1) ∧ w'.cell? ⟨w.heap.size, 1, none⟩ = some (.int .i64 a2) ∧ w'.cell? ⟨w.heap.size, 2, none⟩ = some (.int .i64 b1) ∧ w'.cell? ⟨w.heap.size, 3, none⟩ = some (.int .i64 b2)) ∧ (w'.cell? ⟨w.heap.size + 1, 0, none⟩ = some (.int .u64 (wd0 x)) ∧ w'.cell? ⟨w.heap.size + 1, 1, none⟩ = some (.int .u64 (wd1 x)) ∧ w'.cell? ⟨w.heap.size + 1, 2, none⟩ = some (.int .u64 (wd2 x)) ∧ w'.cell? ⟨w.heap.size + 1, 3, none⟩ = some (.int .u64 (wd3 x)) ∧ w'.cell? ⟨w.heap.size + 1, 4, none⟩ = some (.int .u64 (wd0 y)) ∧ w'.cell? ⟨w.heap.size + 1, 5, none⟩ = some (.int .u64 (wd1 y)) ∧ w'.cell? ⟨w.heap.size + 1, 6, none⟩ = some (.int .u64 (wd2 y)) ∧ w'.cell? ⟨w.heap.size + 1, 7, none⟩ = some (.int .u64 (wd3 y)) ∧ w'.cell? ⟨w.heap.size + 1, 8, none⟩ = some (.int .u64 (wd0 z)) ∧ w'.cell? ⟨w.heap.size + 1, 9, none⟩ = some (.int .u64 (wd1 z)) ∧ w'.cell? ⟨w.heap.size + 1, 10, none⟩ = some (.int .u64 (wd2 z)) ∧ w'.cell? ⟨w.heap.size + 1, 11, none⟩ = some (.int .u64 (wd3 z))) ∧ (w'.cell? ⟨g5, 0, none⟩ = some (.bool xs) ∧ w'.cell? ⟨g5, 1, none⟩ = some (.slice xa xn xc) ∧ w'.cell? ⟨g5, 2, none⟩ = some (.bool ys) ∧ w'.cell? ⟨g5, 3, none⟩ = some (.slice ya yn yc) ∧ w'.cell? ⟨g5, 4, none⟩ = some (.bool zs) ∧ w'.cell? ⟨g5, 5, none⟩ = some (.slice za zn zc)) ∧ (w'.cell? ⟨g6, 0, none⟩ = some (.int .i64 a1) ∧ w'.cell? ⟨g6, 1, none⟩ = some (.int .i64 a2)) ∧ (w'.cell? ⟨g7, 0, none⟩ = some (.int .i64 b1) ∧ w'.cell? ⟨g7, 1, none⟩ = some (.int .i64 b2))) ∧ (∀ w', C w' → IsGr W4 w' ∧ W4.heap.size ≤ w'.heap.size) := by
            refine ⟨fun w' => W4.heap.size ≤ w'.heap.size ∧ IsGr W4 w' ∧ (w'.cell? ⟨w.heap.size, 0, none⟩ = some (.int .i64 a1) ∧ w'.cell? ⟨w.heap.size, 1, none⟩ = some (.int .i64 a2) ∧ w'.cell? ⟨w.heap.size, 2, none⟩ = some (.int .i64 b1) ∧ w'.cell? ⟨w.heap.size, 3, none⟩ = some (.int .i64 b2)) ∧ (w'.cell? ⟨w.heap.size + 1, 0, none⟩ = some (.int .u64 (wd0 x)) ∧ w'.cell? ⟨w.heap.size + 1, 1, none⟩ = some (.int .u64 (wd1 x)) ∧ w'.cell? ⟨w.heap.size + 1, 2, none⟩ = some (.int .u64 (wd2 x)) ∧ w'.cell? ⟨w.heap.size + 1, 3, none⟩ = some (.int .u64 (wd3 x)) ∧ w'.cell? ⟨w.heap.size + 1, 4, none⟩ = some (.int .u64 (wd0 y)) ∧ w'.cell? ⟨w.heap.size + 1, 5, none⟩ = some (.int .u64 (wd1 y)) ∧ w'.cell? ⟨w.heap.size + 1, 6, none⟩ = some (.int .u64 (wd2 y)) ∧ w'.cell? ⟨w.heap.size + 1, 7, none⟩ = some (.int .u64 (wd3 y)) ∧ w'.cell? ⟨w.heap.size + 1, 8, none⟩ = some (.int .u64 (wd0 z)) ∧ w'.cell? ⟨w.heap.size + 1, 9, none⟩ = some (.int .u64 (wd1 z)) ∧ w'.cell? ⟨w.heap.size + 1, 10, none⟩ = some (.int .u64 (wd2 z)) ∧ w'.cell? ⟨w.heap.size + 1, 11, none⟩ = some (.int .u64 (wd3 z))) ∧ (w'.cell? ⟨g5, 0, none⟩ = some (.bool xs) ∧ w'.cell? ⟨g5, 1, none⟩ = some (.slice xa xn xc) ∧ w'.cell? ⟨g5, 2, none⟩ = some (.bool ys) ∧ w'.cell? ⟨g5, 3, none⟩ = some (.slice ya yn yc) ∧ w'.cell? ⟨g5, 4, none⟩ = some (.bool zs) ∧ w'.cell? ⟨g5, 5, none⟩ = some (.slice za zn zc)) ∧ (w'.cell? ⟨g6, 0, none⟩ = some (.int .i64 a1) ∧ w'.cell? ⟨g6, 1, none⟩ = some (.int .i64 a2)) ∧ (w'.cell? ⟨g7, 0, none⟩ = some (.int .i64 b1) ∧ w'.cell? ⟨g7, 1, none⟩ = some (.int .i64 b2)), fun w' h => h, ?_, fun w' h => h.2.2, fun w' h => ⟨h.2.1, h.1⟩⟩
            rintro u u' ⟨h0, h1, h2⟩ hg
            refine ⟨Nat.le_trans h0 hg.size, h1.trans hg, ?_⟩
            exact ⟨⟨hg.cell_at (by omega) h2.1.1, hg.cell_at (by omega) h2.1.2.1, hg.cell_at (by omega) h2.1.2.2.1, hg.cell_at (by omega) h2.1.2.2.2⟩, ⟨hg.cell_at (by omega) h2.2.1.1, hg.cell_at (by omega) h2.2.1.2.1, hg.cell_at (by omega) h2.2.1.2.2.1, hg.cell_at (by omega) h2.2.1.2.2.2.1, hg.cell_at (by omega) h2.2.1.2.2.2.2.1, hg.cell_at (by omega) h2.2.1.2.2.2.2.2.1, hg.cell_at (by omega) h2.2.1.2.2.2.2.2.2.1, hg.cell_at (by omega) h2.2.1.2.2.2.2.2.2.2.1, hg.cell_at (by omega) h2.2.1.2.2.2.2.2.2.2.2.1, hg.cell_at (by omega) h2.2.1.2.2.2.2.2.2.2.2.2.1, hg.cell_at (by omega) h2.2.1.2.2.2.2.2.2.2.2.2.2.1, hg.cell_at (by omega) h2.2.1.2.2.2.2.2.2.2.2.2.2.2⟩, ⟨hg.cell_at (by omega) h2.2.2.1.1, hg.cell_at (by omega) h2.2.2.1.2.1, hg.cell_at (by omega) h2.2.2.1.2.2.1, hg.cell_at (by omega) h2.2.2.1.2.2.2.1, hg.cell_at (by omega) h2.2.2.1.2.2.2.2.1, hg.cell_at (by omega) h2.2.2.1.2.2.2.2.2⟩, ⟨hg.cell_at (by omega) h2.2.2.2.1.1, hg.cell_at (by omega) h2.2.2.2.1.2⟩, ⟨hg.cell_at (by omega) h2.2.2.2.2.1, hg.cell_at (by omega) h2.2.2.2.2.2⟩⟩
          refine wp_region_held_drew (S := C) (by kernel_rfl) (by (try dsimp only); exact hin _ ⟨by simp, (by with_reducible repeat (first | exact IsGr.refl _ | refine IsGr.gr ?_ _ _ | refine IsGr.alloc ?_ _ | refine IsGr.drew ?_ | refine IsGr.drewN ?_ _)), ⟨qa, qx, q5, q6, q7⟩⟩) (fun hHeld => ?_)
          refine wpAnyH_take (i := 0) (oi := { dst := some 84, op := Op.load 46 (Operand.tmp 3), type := 46, pos := "law.go:57", after := #[], guard := none }) (v := ?_) rfl (by kernel_rfl) (by kernel_rfl) (by kernel_rfl) (fun _ _ _ h => h) (Or.inl ⟨by rfl, ?_⟩) (by assumption) ?_
          rotate_left
          · (intro w hSw; (try dsimp only at hSw); (try have hcs := hcells w hSw); (try go_split_ands); go_simp <;> with_reducible rfl)
          (try simp only [Act.put, List.setIfInBounds_toArray, List.set_cons_zero, List.set_cons_succ])
          refine wpAnyH_ready (rs := [1]) (by kernel_rfl) (by simp) ?_
          refine AllReadyH.cons (o := { dst := some 85, op := Op.call { callee := Callee.value (Operand.func 31), args := #[Operand.tmp 84], argTypes := #[46] }, type := 4, pos := "law.go:57", after := #[{ on := 0, ground := Ground.data }], guard := none }) rfl (fun K hK => ?_) AllReadyH.nil
          go_simp
          refine (CQ _).mono ?_
          rintro e w5 ⟨rfl, hg5⟩
          (try go_wp2_with fail)
          refine hK.out _ _ (by (try dsimp only); exact hcl _ _ hHeld (by first | with_reducible assumption | with_reducible exact IsGr.refl _ | with_reducible exact (IsGr.refl _).alloc _ | with_reducible exact ((IsGr.refl _).alloc _).alloc _ | assumption)) (fun hHeld2 => ?_)
          clear hK K hHeld
          have hHeld := hHeld2
          clear hHeld2
          (try simp only [Act.put, List.setIfInBounds_toArray, List.set_cons_zero, List.set_cons_succ])
          refine wpAnyH_take (i := 2) (oi := { dst := some 86, op := Op.move (Operand.tmp 85), type := 4, pos := "law.go:57", after := #[{ on := 1, ground := Ground.data }, { on := 1, ground := Ground.chain }], guard := none }) (v := ?_) rfl (by kernel_rfl) (by kernel_rfl) (by kernel_rfl) (fun _ _ _ h => h) (Or.inl ⟨by rfl, ?_⟩) (by assumption) ?_
          rotate_left
          · (intro w hSw; (try dsimp only at hSw); (try have hcs := hcells w hSw); (try go_split_ands); go_simp <;> with_reducible rfl)
          (try simp only [Act.put, List.setIfInBounds_toArray, List.set_cons_zero, List.set_cons_succ])
          refine wpAnyH_take (i := 3) (oi := { dst := some 87, op := Op.load 41 (Operand.tmp 2), type := 41, pos := "law.go:57", after := #[{ on := 2, ground := Ground.guard }], guard := some (2, true) }) (v := ?_) rfl (by kernel_rfl) (by kernel_rfl) (by kernel_rfl) (fun _ _ _ h => h) (Or.inl ⟨by rfl, ?_⟩) (by assumption) ?_
          rotate_left
          · (intro w hSw; (try dsimp only at hSw); (try have hcs := hcells w hSw); (try go_split_ands); go_simp <;> with_reducible rfl)
          (try simp only [Act.put, List.setIfInBounds_toArray, List.set_cons_zero, List.set_cons_succ])
          refine wpAnyH_take (i := 4) (oi := { dst := some 88, op := Op.load 46 (Operand.tmp 3), type := 46, pos := "law.go:57", after := #[{ on := 2, ground := Ground.guard }], guard := some (2, true) }) (v := ?_) rfl (by kernel_rfl) (by kernel_rfl) (by kernel_rfl) (fun _ _ _ h => h) (Or.inl ⟨by rfl, ?_⟩) (by assumption) ?_
          rotate_left
          · (intro w hSw; (try dsimp only at hSw); (try have hcs := hcells w hSw); (try go_split_ands); go_simp <;> with_reducible rfl)
          (try simp only [Act.put, List.setIfInBounds_toArray, List.set_cons_zero, List.set_cons_succ])
          refine wpAnyH_take (i := 6) (oi := { dst := some 90, op := Op.load 24 (Operand.tmp 6), type := 24, pos := "law.go:57", after := #[{ on := 2, ground := Ground.guard }], guard := some (2, true) }) (v := ?_) rfl (by kernel_rfl) (by kernel_rfl) (by kernel_rfl) (fun _ _ _ h => h) (Or.inl ⟨by rfl, ?_⟩) (by assumption) ?_
          rotate_left
          · (intro w hSw; (try dsimp only at hSw); (try have hcs := hcells w hSw); (try go_split_ands); go_simp <;> with_reducible rfl)
          (try simp only [Act.put, List.setIfInBounds_toArray, List.set_cons_zero, List.set_cons_succ])
          refine wpAnyH_take (i := 8) (oi := { dst := some 92, op := Op.load 24 (Operand.tmp 7), type := 24, pos := "law.go:57", after := #[{ on := 2, ground := Ground.guard }], guard := some (2, true) }) (v := ?_) rfl (by kernel_rfl) (by kernel_rfl) (by kernel_rfl) (fun _ _ _ h => h) (Or.inl ⟨by rfl, ?_⟩) (by assumption) ?_
          rotate_left
          · (intro w hSw; (try dsimp only at hSw); (try have hcs := hcells w hSw); (try go_split_ands); go_simp <;> with_reducible rfl)
          (try simp only [Act.put, List.setIfInBounds_toArray, List.set_cons_zero, List.set_cons_succ])
          refine wpAnyH_take (i := 10) (oi := { dst := some 94, op := Op.load 55 (Operand.tmp 5), type := 55, pos := "law.go:57", after := #[{ on := 2, ground := Ground.guard }], guard := some (2, true) }) (v := ?_) rfl (by kernel_rfl) (by kernel_rfl) (by kernel_rfl) (fun _ _ _ h => h) (Or.inl ⟨by rfl, ?_⟩) (by assumption) ?_
          rotate_left
          · (intro w hSw; (try dsimp only at hSw); (try have hcs := hcells w hSw); (try go_split_ands); go_simp <;> with_reducible rfl)
          (try simp only [Act.put, List.setIfInBounds_toArray, List.set_cons_zero, List.set_cons_succ])
          refine wpAnyH_ready (rs := [5]) (by kernel_rfl) (by simp) ?_
          refine AllReadyH.cons (o := { dst := some 89, op := Op.call { callee := Callee.value (Operand.func 29), args := #[Operand.tmp 87, Operand.tmp 88], argTypes := #[41, 46] }, type := 3, pos := "law.go:57", after := #[{ on := 3, ground := Ground.data }, { on := 4, ground := Ground.data }, { on := 2, ground := Ground.chain }, { on := 2, ground := Ground.guard }], guard := some (2, true) }) rfl (fun K hK => ?_) AllReadyH.nil
          go_simp
          refine (CS _).mono ?_
          rintro e w6 ⟨rfl, hg6⟩
          (try go_wp2_with fail)
          refine hK.out _ _ (by (try dsimp only); exact hcl _ _ hHeld (by first | with_reducible assumption | with_reducible exact IsGr.refl _ | with_reducible exact (IsGr.refl _).alloc _ | with_reducible exact ((IsGr.refl _).alloc _).alloc _ | assumption)) (fun hHeld2 => ?_)
          clear hK K hHeld
          have hHeld := hHeld2
          clear hHeld2
          (try simp only [Act.put, List.setIfInBounds_toArray, List.set_cons_zero, List.set_cons_succ])
          refine wpAnyH_ready (rs := [7]) (by kernel_rfl) (by simp) ?_
          refine AllReadyH.cons (o := { dst := some 91, op := Op.call { callee := Callee.value (Operand.func 22), args := #[Operand.tmp 90], argTypes := #[24] }, type := 27, pos := "law.go:57", after := #[{ on := 6, ground := Ground.data }, { on := 5, ground := Ground.chain }, { on := 2, ground := Ground.guard }], guard := some (2, true) }) rfl (fun K hK => ?_) AllReadyH.nil
          go_simp
          refine (Fa _).mono ?_
          rintro e w7 ⟨rfl, hg7⟩
          (try go_wp2_with fail)
          refine hK.out _ _ (by (try dsimp only); exact hcl _ _ hHeld (by first | with_reducible assumption | with_reducible exact IsGr.refl _ | with_reducible exact (IsGr.refl _).alloc _ | with_reducible exact ((IsGr.refl _).alloc _).alloc _ | assumption)) (fun hHeld2 => ?_)
          clear hK K hHeld
          have hHeld := hHeld2
          clear hHeld2
          (try simp only [Act.put, List.setIfInBounds_toArray, List.set_cons_zero, List.set_cons_succ])
          refine wpAnyH_ready (rs := [9]) (by kernel_rfl) (by simp) ?_
          refine AllReadyH.cons (o := { dst := some 93, op := Op.call { callee := Callee.value (Operand.func 22), args := #[Operand.tmp 92], argTypes := #[24] }, type := 27, pos := "law.go:57", after := #[{ on := 8, ground := Ground.data }, { on := 7, ground := Ground.chain }, { on := 2, ground := Ground.guard }], guard := some (2, true) }) rfl (fun K hK => ?_) AllReadyH.nil
          go_simp
          refine (Fb _).mono ?_
          rintro e w8 ⟨rfl, hg8⟩
          (try go_wp2_with fail)
          refine hK.out _ _ (by (try dsimp only); exact hcl _ _ hHeld (by first | with_reducible assumption | with_reducible exact IsGr.refl _ | with_reducible exact (IsGr.refl _).alloc _ | with_reducible exact ((IsGr.refl _).alloc _).alloc _ | assumption)) (fun hHeld2 => ?_)
          clear hK K hHeld
          have hHeld := hHeld2
          clear hHeld2
          (try simp only [Act.put, List.setIfInBounds_toArray, List.set_cons_zero, List.set_cons_succ])
          refine wpAnyH_ready (rs := [11]) (by kernel_rfl) (by simp) ?_
          refine AllReadyH.cons (o := { dst := some 95, op := Op.call { callee := Callee.value (Operand.func 33), args := #[Operand.tmp 91, Operand.tmp 93, Operand.tmp 94], argTypes := #[27, 27, 55] }, type := 3, pos := "law.go:57", after := #[{ on := 7, ground := Ground.data }, { on := 9, ground := Ground.data }, { on := 10, ground := Ground.data }, { on := 9, ground := Ground.chain }, { on := 2, ground := Ground.guard }], guard := some (2, true) }) rfl (fun K hK => ?_) AllReadyH.nil
          go_simp
          refine (CT _ (hgr _ hHeld).1).mono ?_
          rintro e w9 ⟨rfl, hg9⟩
          (try go_wp2_with fail)
          refine hK.out _ _ (by (try dsimp only); exact hcl _ _ hHeld (by first | with_reducible assumption | with_reducible exact IsGr.refl _ | with_reducible exact (IsGr.refl _).alloc _ | with_reducible exact ((IsGr.refl _).alloc _).alloc _ | assumption)) (fun hHeld2 => ?_)
          clear hK K hHeld
          have hHeld := hHeld2
          clear hHeld2
          (try simp only [Act.put, List.setIfInBounds_toArray, List.set_cons_zero, List.set_cons_succ])
          refine wpAnyH_take (i := 12) (oi := { dst := some 96, op := Op.binOp BinOp.eql 3 (Operand.tmp 89) (Operand.tmp 95) 3, type := 4, pos := "law.go:57", after := #[{ on := 5, ground := Ground.data }, { on := 11, ground := Ground.data }, { on := 2, ground := Ground.guard }], guard := some (2, true) }) (v := ?_) rfl (by kernel_rfl) (by kernel_rfl) (by kernel_rfl) (fun _ _ _ h => h) (Or.inl ⟨by rfl, ?_⟩) (by assumption) ?_
          rotate_left
          · (intro w hSw; (try dsimp only at hSw); (try have hcs := hcells w hSw); (try go_split_ands); go_simp <;> with_reducible rfl)
          (try simp only [Act.put, List.setIfInBounds_toArray, List.set_cons_zero, List.set_cons_succ])
          refine wpAnyH_take (i := 13) (oi := { dst := some 97, op := Op.pick (Operand.tmp 86) (Operand.tmp 96) (Operand.const (Value.bool false)), type := 4, pos := "law.go:57", after := #[{ on := 2, ground := Ground.data }, { on := 12, ground := Ground.data }], guard := none }) (v := ?_) rfl (by kernel_rfl) (by kernel_rfl) (by kernel_rfl) (fun _ _ _ h => h) (Or.inl ⟨by rfl, ?_⟩) (by assumption) ?_
          rotate_left
          · (intro w hSw; (try dsimp only at hSw); (try have hcs := hcells w hSw); (try go_split_ands); go_simp <;> with_reducible rfl)
          (try simp only [Act.put, List.setIfInBounds_toArray, List.set_cons_zero, List.set_cons_succ])
          refine wpAnyH_take (i := 14) (oi := { dst := some 98, op := Op.move (Operand.tmp 97), type := 4, pos := "law.go:57", after := #[{ on := 13, ground := Ground.data }, { on := 11, ground := Ground.chain }], guard := none }) (v := ?_) rfl (by kernel_rfl) (by kernel_rfl) (by kernel_rfl) (fun _ _ _ h => h) (Or.inl ⟨by rfl, ?_⟩) (by assumption) ?_
          rotate_left
          · (intro w hSw; (try dsimp only at hSw); (try have hcs := hcells w hSw); (try go_split_ands); go_simp <;> with_reducible rfl)
          (try simp only [Act.put, List.setIfInBounds_toArray, List.set_cons_zero, List.set_cons_succ])
          refine wpAnyH_take (i := 15) (oi := { dst := some 99, op := Op.load 41 (Operand.tmp 2), type := 41, pos := "law.go:57", after := #[{ on := 14, ground := Ground.guard }], guard := some (14, true) }) (v := ?_) rfl (by kernel_rfl) (by kernel_rfl) (by kernel_rfl) (fun _ _ _ h => h) (Or.inl ⟨by rfl, ?_⟩) (by assumption) ?_
          rotate_left
          · (intro w hSw; (try dsimp only at hSw); (try have hcs := hcells w hSw); (try go_split_ands); go_simp <;> with_reducible rfl)
          (try simp only [Act.put, List.setIfInBounds_toArray, List.set_cons_zero, List.set_cons_succ])
          refine wpAnyH_take (i := 16) (oi := { dst := some 100, op := Op.load 46 (Operand.tmp 3), type := 46, pos := "law.go:57", after := #[{ on := 14, ground := Ground.guard }], guard := some (14, true) }) (v := ?_) rfl (by kernel_rfl) (by kernel_rfl) (by kernel_rfl) (fun _ _ _ h => h) (Or.inl ⟨by rfl, ?_⟩) (by assumption) ?_
          rotate_left
          · (intro w hSw; (try dsimp only at hSw); (try have hcs := hcells w hSw); (try go_split_ands); go_simp <;> with_reducible rfl)
          (try simp only [Act.put, List.setIfInBounds_toArray, List.set_cons_zero, List.set_cons_succ])
          refine wpAnyH_take (i := 18) (oi := { dst := some 102, op := Op.fieldAddr 41 (Operand.tmp 2) 0, type := 0, pos := "law.go:57", after := #[{ on := 14, ground := Ground.guard }], guard := some (14, true) }) (v := ?_) rfl (by kernel_rfl) (by kernel_rfl) (by kernel_rfl) (fun _ _ _ h => h) (Or.inl ⟨by rfl, ?_⟩) (by assumption) ?_
          rotate_left
          · (intro w hSw; (try dsimp only at hSw); (try have hcs := hcells w hSw); (try go_split_ands); go_simp <;> with_reducible rfl)
          (try simp only [Act.put, List.setIfInBounds_toArray, List.set_cons_zero, List.set_cons_succ])
          refine wpAnyH_take (i := 19) (oi := { dst := some 103, op := Op.load 24 (Operand.tmp 102), type := 24, pos := "law.go:57", after := #[{ on := 18, ground := Ground.data }, { on := 14, ground := Ground.guard }], guard := some (14, true) }) (v := ?_) rfl (by kernel_rfl) (by kernel_rfl) (by kernel_rfl) (fun _ _ _ h => h) (Or.inl ⟨by rfl, ?_⟩) (by assumption) ?_
          rotate_left
          · (intro w hSw; (try dsimp only at hSw); (try have hcs := hcells w hSw); (try go_split_ands); go_simp <;> with_reducible rfl)
          (try simp only [Act.put, List.setIfInBounds_toArray, List.set_cons_zero, List.set_cons_succ])
          refine wpAnyH_take (i := 21) (oi := { dst := some 105, op := Op.fieldAddr 41 (Operand.tmp 2) 1, type := 0, pos := "law.go:57", after := #[{ on := 14, ground := Ground.guard }], guard := some (14, true) }) (v := ?_) rfl (by kernel_rfl) (by kernel_rfl) (by kernel_rfl) (fun _ _ _ h => h) (Or.inl ⟨by rfl, ?_⟩) (by assumption) ?_
          rotate_left
          · (intro w hSw; (try dsimp only at hSw); (try have hcs := hcells w hSw); (try go_split_ands); go_simp <;> with_reducible rfl)
          (try simp only [Act.put, List.setIfInBounds_toArray, List.set_cons_zero, List.set_cons_succ])
          refine wpAnyH_take (i := 22) (oi := { dst := some 106, op := Op.load 24 (Operand.tmp 105), type := 24, pos := "law.go:57", after := #[{ on := 21, ground := Ground.data }, { on := 14, ground := Ground.guard }], guard := some (14, true) }) (v := ?_) rfl (by kernel_rfl) (by kernel_rfl) (by kernel_rfl) (fun _ _ _ h => h) (Or.inl ⟨by rfl, ?_⟩) (by assumption) ?_
          rotate_left
          · (intro w hSw; (try dsimp only at hSw); (try have hcs := hcells w hSw); (try go_split_ands); go_simp <;> with_reducible rfl)
          (try simp only [Act.put, List.setIfInBounds_toArray, List.set_cons_zero, List.set_cons_succ])
          refine wpAnyH_take (i := 24) (oi := { dst := some 108, op := Op.load 55 (Operand.tmp 5), type := 55, pos := "law.go:57", after := #[{ on := 14, ground := Ground.guard }], guard := some (14, true) }) (v := ?_) rfl (by kernel_rfl) (by kernel_rfl) (by kernel_rfl) (fun _ _ _ h => h) (Or.inl ⟨by rfl, ?_⟩) (by assumption) ?_
          rotate_left
          · (intro w hSw; (try dsimp only at hSw); (try have hcs := hcells w hSw); (try go_split_ands); go_simp <;> with_reducible rfl)
          (try simp only [Act.put, List.setIfInBounds_toArray, List.set_cons_zero, List.set_cons_succ])
          refine wpAnyH_ready (rs := [17]) (by kernel_rfl) (by simp) ?_
          refine AllReadyH.cons (o := { dst := some 101, op := Op.call { callee := Callee.value (Operand.func 30), args := #[Operand.tmp 99, Operand.tmp 100], argTypes := #[41, 46] }, type := 4, pos := "law.go:57", after := #[{ on := 15, ground := Ground.data }, { on := 16, ground := Ground.data }, { on := 14, ground := Ground.chain }, { on := 14, ground := Ground.guard }], guard := some (14, true) }) rfl (fun K hK => ?_) AllReadyH.nil
          go_simp
          refine (CH _).mono ?_
          rintro e w10 ⟨rfl, hg10⟩
          (try go_wp2_with fail)
          refine hK.out _ _ (by (try dsimp only); exact hcl _ _ hHeld (by first | with_reducible assumption | with_reducible exact IsGr.refl _ | with_reducible exact (IsGr.refl _).alloc _ | with_reducible exact ((IsGr.refl _).alloc _).alloc _ | assumption)) (fun hHeld2 => ?_)
          clear hK K hHeld
          have hHeld := hHeld2
          clear hHeld2
          (try simp only [Act.put, List.setIfInBounds_toArray, List.set_cons_zero, List.set_cons_succ])
          refine wpAnyH_ready (rs := [20]) (by kernel_rfl) (by simp) ?_
          refine AllReadyH.cons (o := { dst := some 104, op := Op.call { callee := Callee.value (Operand.func 22), args := #[Operand.tmp 103], argTypes := #[24] }, type := 27, pos := "law.go:57", after := #[{ on := 19, ground := Ground.data }, { on := 17, ground := Ground.chain }, { on := 14, ground := Ground.guard }], guard := some (14, true) }) rfl (fun K hK => ?_) AllReadyH.nil
          go_simp
          refine (Fa _).mono ?_
          rintro e w11 ⟨rfl, hg11⟩
          (try go_wp2_with fail)
          refine hK.out _ _ (by (try dsimp only); exact hcl _ _ hHeld (by first | with_reducible assumption | with_reducible exact IsGr.refl _ | with_reducible exact (IsGr.refl _).alloc _ | with_reducible exact ((IsGr.refl _).alloc _).alloc _ | assumption)) (fun hHeld2 => ?_)
          clear hK K hHeld
          have hHeld := hHeld2
          clear hHeld2
          (try simp only [Act.put, List.setIfInBounds_toArray, List.set_cons_zero, List.set_cons_succ])
          refine wpAnyH_ready (rs := [23]) (by kernel_rfl) (by simp) ?_
          refine AllReadyH.cons (o := { dst := some 107, op := Op.call { callee := Callee.value (Operand.func 22), args := #[Operand.tmp 106], argTypes := #[24] }, type := 27, pos := "law.go:57", after := #[{ on := 22, ground := Ground.data }, { on := 20, ground := Ground.chain }, { on := 14, ground := Ground.guard }], guard := some (14, true) }) rfl (fun K hK => ?_) AllReadyH.nil
          go_simp
          refine (Fb _).mono ?_
          rintro e w12 ⟨rfl, hg12⟩
          (try go_wp2_with fail)
          refine hK.out _ _ (by (try dsimp only); exact hcl _ _ hHeld (by first | with_reducible assumption | with_reducible exact IsGr.refl _ | with_reducible exact (IsGr.refl _).alloc _ | with_reducible exact ((IsGr.refl _).alloc _).alloc _ | assumption)) (fun hHeld2 => ?_)
          clear hK K hHeld
          have hHeld := hHeld2
          clear hHeld2
          (try simp only [Act.put, List.setIfInBounds_toArray, List.set_cons_zero, List.set_cons_succ])
          refine wpAnyH_ready (rs := [25]) (by kernel_rfl) (by simp) ?_
          refine AllReadyH.cons (o := { dst := some 109, op := Op.call { callee := Callee.value (Operand.func 28), args := #[Operand.tmp 104, Operand.tmp 107, Operand.tmp 108], argTypes := #[27, 27, 55] }, type := 4, pos := "law.go:57", after := #[{ on := 20, ground := Ground.data }, { on := 23, ground := Ground.data }, { on := 24, ground := Ground.data }, { on := 23, ground := Ground.chain }, { on := 14, ground := Ground.guard }], guard := some (14, true) }) rfl (fun K hK => ?_) AllReadyH.nil
          go_simp
          refine (CHR _ (hgr _ hHeld).1).mono ?_
          rintro e w13 ⟨rfl, hg13⟩
          (try go_wp2_with fail)
          refine hK.out _ _ (by (try dsimp only); exact hcl _ _ hHeld (by first | with_reducible assumption | with_reducible exact IsGr.refl _ | with_reducible exact (IsGr.refl _).alloc _ | with_reducible exact ((IsGr.refl _).alloc _).alloc _ | assumption)) (fun hHeld2 => ?_)
          clear hK K hHeld
          have hHeld := hHeld2
          clear hHeld2
          (try simp only [Act.put, List.setIfInBounds_toArray, List.set_cons_zero, List.set_cons_succ])
          refine wpAnyH_take (i := 26) (oi := { dst := some 110, op := Op.binOp BinOp.eql 4 (Operand.tmp 101) (Operand.tmp 109) 4, type := 4, pos := "law.go:57", after := #[{ on := 17, ground := Ground.data }, { on := 25, ground := Ground.data }, { on := 14, ground := Ground.guard }], guard := some (14, true) }) (v := ?_) rfl (by kernel_rfl) (by kernel_rfl) (by kernel_rfl) (fun _ _ _ h => h) (Or.inl ⟨by rfl, ?_⟩) (by assumption) ?_
          rotate_left
          · (intro w hSw; (try dsimp only at hSw); (try have hcs := hcells w hSw); (try go_split_ands); go_simp <;> with_reducible rfl)
          (try simp only [Act.put, List.setIfInBounds_toArray, List.set_cons_zero, List.set_cons_succ])
          refine wpAnyH_take (i := 27) (oi := { dst := some 111, op := Op.pick (Operand.tmp 98) (Operand.tmp 110) (Operand.const (Value.bool false)), type := 4, pos := "law.go:57", after := #[{ on := 14, ground := Ground.data }, { on := 26, ground := Ground.data }], guard := none }) (v := ?_) rfl (by kernel_rfl) (by kernel_rfl) (by kernel_rfl) (fun _ _ _ h => h) (Or.inl ⟨by rfl, ?_⟩) (by assumption) ?_
          rotate_left
          · (intro w hSw; (try dsimp only at hSw); (try have hcs := hcells w hSw); (try go_split_ands); go_simp <;> with_reducible rfl)
          (try simp only [Act.put, List.setIfInBounds_toArray, List.set_cons_zero, List.set_cons_succ])
          refine wpAnyH_take (i := 28) (oi := { dst := some 112, op := Op.move (Operand.tmp 111), type := 4, pos := "law.go:57", after := #[{ on := 27, ground := Ground.data }, { on := 25, ground := Ground.chain }], guard := none }) (v := ?_) rfl (by kernel_rfl) (by kernel_rfl) (by kernel_rfl) (fun _ _ _ h => h) (Or.inl ⟨by rfl, ?_⟩) (by assumption) ?_
          rotate_left
          · (intro w hSw; (try dsimp only at hSw); (try have hcs := hcells w hSw); (try go_split_ands); go_simp <;> with_reducible rfl)
          (try simp only [Act.put, List.setIfInBounds_toArray, List.set_cons_zero, List.set_cons_succ])
          refine wpAnyH_ready (rs := [29]) (by kernel_rfl) (by simp) ?_
          refine AllReadyH.cons (o := { dst := some 113, op := Op.call { callee := Callee.value (Operand.func 24), args := #[], argTypes := #[] }, type := 4, pos := "law.go:57", after := #[{ on := 28, ground := Ground.chain }, { on := 28, ground := Ground.guard }], guard := some (28, true) }) rfl (fun K hK => ?_) AllReadyH.nil
          go_simp
          refine (CA _).mono ?_
          rintro e w14 ⟨rfl, hg14⟩
          (try go_wp2_with fail)
          refine hK.out _ _ (by (try dsimp only); exact hcl _ _ hHeld (by first | with_reducible assumption | with_reducible exact IsGr.refl _ | with_reducible exact (IsGr.refl _).alloc _ | with_reducible exact ((IsGr.refl _).alloc _).alloc _ | assumption)) (fun hHeld2 => ?_)
          clear hK K hHeld
          have hHeld := hHeld2
          clear hHeld2
          (try simp only [Act.put, List.setIfInBounds_toArray, List.set_cons_zero, List.set_cons_succ])
          refine wpAnyH_take (i := 30) (oi := { dst := some 114, op := Op.pick (Operand.tmp 112) (Operand.tmp 113) (Operand.const (Value.bool false)), type := 4, pos := "law.go:57", after := #[{ on := 28, ground := Ground.data }, { on := 29, ground := Ground.data }], guard := none }) (v := ?_) rfl (by kernel_rfl) (by kernel_rfl) (by kernel_rfl) (fun _ _ _ h => h) (Or.inl ⟨by rfl, ?_⟩) (by assumption) ?_
          rotate_left
          · (intro w hSw; (try dsimp only at hSw); (try have hcs := hcells w hSw); (try go_split_ands); go_simp <;> with_reducible rfl)
          (try simp only [Act.put, List.setIfInBounds_toArray, List.set_cons_zero, List.set_cons_succ])
          refine wpAnyH_take (i := 31) (oi := { dst := some 4, op := Op.assign (Operand.tmp 114), type := 4, pos := "law.go:57", after := #[{ on := 30, ground := Ground.data }, { on := 29, ground := Ground.chain }, { on := 0, ground := Ground.phase }, { on := 1, ground := Ground.phase }, { on := 2, ground := Ground.phase }, { on := 3, ground := Ground.phase }, { on := 4, ground := Ground.phase }, { on := 5, ground := Ground.phase }, { on := 6, ground := Ground.phase }, { on := 7, ground := Ground.phase }, { on := 8, ground := Ground.phase }, { on := 9, ground := Ground.phase }, { on := 10, ground := Ground.phase }, { on := 11, ground := Ground.phase }, { on := 12, ground := Ground.phase }, { on := 13, ground := Ground.phase }, { on := 14, ground := Ground.phase }, { on := 15, ground := Ground.phase }, { on := 16, ground := Ground.phase }, { on := 17, ground := Ground.phase }, { on := 18, ground := Ground.phase }, { on := 19, ground := Ground.phase }, { on := 20, ground := Ground.phase }, { on := 21, ground := Ground.phase }, { on := 22, ground := Ground.phase }, { on := 23, ground := Ground.phase }, { on := 24, ground := Ground.phase }, { on := 25, ground := Ground.phase }, { on := 26, ground := Ground.phase }, { on := 27, ground := Ground.phase }, { on := 28, ground := Ground.phase }, { on := 29, ground := Ground.phase }, { on := 30, ground := Ground.phase }], guard := none }) (v := ?_) rfl (by kernel_rfl) (by kernel_rfl) (by kernel_rfl) (fun _ _ _ h => h) (Or.inl ⟨by rfl, ?_⟩) (by assumption) ?_
          rotate_left
          · (intro w hSw; (try dsimp only at hSw); (try have hcs := hcells w hSw); (try go_split_ands); go_simp <;> with_reducible rfl)
          (try simp only [Act.put, List.setIfInBounds_toArray, List.set_cons_zero, List.set_cons_succ])
          refine wpAnyH_done (by kernel_rfl) ?_ _
          have hg := (hgr _ hHeld).1
          clear hcells hin hcl hgr hHeld
          go_wp2
          go_ret
          exact ⟨rfl, HG.out.trans hg⟩

theorem law_sides (a1 a2 b1 b2 x y z : Int) (fx : Fit x) (fy : Fit y) (fz : Fit z) (w : World) :
    Calls Try.prog 6 #[.agg #[.int .i64 a1, .int .i64 a2, .int .i64 b1, .int .i64 b2], .agg #[.int .u64 (wd0 x), .int .u64 (wd1 x), .int .u64 (wd2 x), .int .u64 (wd3 x), .int .u64 (wd0 y), .int .u64 (wd1 y), .int .u64 (wd2 y), .int .u64 (wd3 y), .int .u64 (wd0 z), .int .u64 (wd1 z), .int .u64 (wd2 z), .int .u64 (wd3 z)]] w fun e w' => e = .returned (.bool true) ∧ IsGr w w' := by
  cases h : (segR a1 a2 b1 b2 && spotR x y z) with
  | false => exact law_sides_no a1 a2 b1 b2 x y z fx fy fz h w
  | true =>
    rw [Bool.and_eq_true] at h
    by_cases hc : 0 < cmpP a1 a2 b1 b2
    · exact law_sides_gt a1 a2 b1 b2 x y z fx fy fz h.1 h.2 hc w
    · exact law_sides_le a1 a2 b1 b2 x y z fx fy fz h.1 h.2 hc w
end Go.Proofs.Ytohhlhoijanjfaa
