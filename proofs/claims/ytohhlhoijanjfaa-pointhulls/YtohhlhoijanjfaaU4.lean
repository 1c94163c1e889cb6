/- Contracts of package point over the loaded program: Turn. -/
import Derived.Test.YtohhlhoijanjfaaU3
namespace Go.Proofs.Ytohhlhoijanjfaa
open Go.RowKit Go.Shelf
attribute [local go_sem] Gr.size Gr.cell? Gr.frozen? Gr.setCell Gr.drew Gr.drewN Gr.of_drew Gr.of_drewN Gr.gr Gr.lt_of1 Gr.le_of1 Gr.lt_of2 Gr.le_of2 Gr.lt_of3 Gr.le_of3 Gr.lt_of4 Gr.le_of4 Gr.lt_of5 Gr.le_of5 Gr.lt_of6 Gr.le_of6 Gr.lt_of7 Gr.le_of7 Gr.lt_of8 Gr.le_of8 Gr.lt_of9 Gr.le_of9 Gr.lt_of10 Gr.le_of10 Gr.lt_of11 Gr.le_of11 Gr.lt_of12 Gr.le_of12 Gr.lt_of13 Gr.le_of13 Gr.lt_of14 Gr.le_of14 Gr.lt_of15 Gr.le_of15 Gr.lt_of16 Gr.le_of16 Gr.lt_of17 Gr.le_of17 Gr.lt_of18 Gr.le_of18 Gr.lt_of19 Gr.le_of19 Gr.lt_of20 Gr.le_of20 Gr.lt_of21 Gr.le_of21 Gr.lt_of22 Gr.le_of22 Gr.lt_of23 Gr.le_of23 Gr.lt_of24 Gr.le_of24

theorem Pts.three {w : World} {g : Nat} {a1 a2 b1 b2 c1 c2 : Int} (hg : g < w.heap.size)
    (h0 : w.cell? ⟨g, 0, none⟩ = some (.int .i64 a1)) (h1 : w.cell? ⟨g, 1, none⟩ = some (.int .i64 a2)) (h2 : w.cell? ⟨g, 2, none⟩ = some (.int .i64 b1)) (h3 : w.cell? ⟨g, 3, none⟩ = some (.int .i64 b2)) (h4 : w.cell? ⟨g, 4, none⟩ = some (.int .i64 c1)) (h5 : w.cell? ⟨g, 5, none⟩ = some (.int .i64 c2)) :
    Pts w (.slice (some ⟨g, 0, none⟩) 3 3) [(a1, a2), (b1, b2), (c1, c2)] :=
  ⟨_, 3, rfl, by simp, by simp [maxLen], Or.inr ⟨g, 0, rfl, hg, fun i hi => match i, hi with
    | 0, _ => ⟨h0, h1⟩
    | 1, _ => ⟨h2, h3⟩
    | 2, _ => ⟨h4, h5⟩
    | (i + 3), hi => by simp at hi; omega⟩⟩
theorem Pts.four {w : World} {g : Nat} {a1 a2 b1 b2 c1 c2 d1 d2 : Int} (hg : g < w.heap.size)
    (h0 : w.cell? ⟨g, 0, none⟩ = some (.int .i64 a1)) (h1 : w.cell? ⟨g, 1, none⟩ = some (.int .i64 a2)) (h2 : w.cell? ⟨g, 2, none⟩ = some (.int .i64 b1)) (h3 : w.cell? ⟨g, 3, none⟩ = some (.int .i64 b2)) (h4 : w.cell? ⟨g, 4, none⟩ = some (.int .i64 c1)) (h5 : w.cell? ⟨g, 5, none⟩ = some (.int .i64 c2))
    (h6 : w.cell? ⟨g, 6, none⟩ = some (.int .i64 d1)) (h7 : w.cell? ⟨g, 7, none⟩ = some (.int .i64 d2)) :
    Pts w (.slice (some ⟨g, 0, none⟩) 4 4) [(a1, a2), (b1, b2), (c1, c2), (d1, d2)] :=
  ⟨_, 4, rfl, by simp, by simp [maxLen], Or.inr ⟨g, 0, rfl, hg, fun i hi => match i, hi with
    | 0, _ => ⟨h0, h1⟩
    | 1, _ => ⟨h2, h3⟩
    | 2, _ => ⟨h4, h5⟩
    | 3, _ => ⟨h6, h7⟩
    | (i + 4), hi => by simp at hi; omega⟩⟩

/-- Are three points right? -/
def right3 (a1 a2 b1 b2 c1 c2 : Int) : Bool := rightP a1 a2 && rightP b1 b2 && rightP c1 c2
/-- The sign of the turn; 0, if one isn't right. -/
def wayP (a1 a2 b1 b2 c1 c2 : Int) : Int := if right3 a1 a2 b1 b2 c1 c2 = true then cmpI (turnI a1 a2 b1 b2 c1 c2) 0 else 0
theorem right3_t {a1 a2 b1 b2 c1 c2 : Int} (h : right3 a1 a2 b1 b2 c1 c2 = true) : rightP a1 a2 = true ∧ rightP b1 b2 = true ∧ rightP c1 c2 = true := by
  simp only [right3, Bool.and_eq_true] at h; exact ⟨h.1.1, h.1.2, h.2⟩
theorem allR_three (a1 a2 b1 b2 c1 c2 : Int) : allR [(a1, a2), (b1, b2), (c1, c2)] = right3 a1 a2 b1 b2 c1 c2 := by simp [allR, right3, Bool.and_assoc]

set_option maxRecDepth 20000 in set_option maxHeartbeats 8000000 in
theorem Turn_any (a1 a2 b1 b2 c1 c2 : Int) (w : World) :
    Calls Try.prog 44 #[.agg #[.int .i64 a1, .int .i64 a2], .agg #[.int .i64 b1, .int .i64 b2], .agg #[.int .i64 c1, .int .i64 c2]] w fun e w' => e = .returned (.int .i64 (wayP a1 a2 b1 b2 c1 c2)) ∧ IsGr w w' := by
  have CA := fun g w (h : Pts w (.slice (some ⟨g, 0, none⟩) 3 3) [(a1, a2), (b1, b2), (c1, c2)]) => allRight_any _ 3 3 _ w h (by omega)
  rw [allR_three] at CA
  by_cases h : right3 a1 a2 b1 b2 c1 c2 = true
  · obtain ⟨ha, hb, hc⟩ := right3_t h
    rw [h] at CA
    have CT := fun w => turn_any a1 a2 b1 b2 c1 c2 ha hb hc w
    obtain ⟨K, hK, HK⟩ : ∃ K, cmpI (turnI a1 a2 b1 b2 c1 c2) 0 = K ∧ Hid (K = wayP a1 a2 b1 b2 c1 c2) := ⟨_, rfl, by unfold Hid wayP; rw [if_pos h]⟩
    have CS := fun (s0 s1 s2 s3 : Int) (hs : IsI s0 s1 s2 s3 (turnI a1 a2 b1 b2 c1 c2)) w => Sign_any s0 s1 s2 s3 _ hs w
    rw [hK] at CS
    clear ha hb hc h hK
    go_enter Try.func44, Try.ntmps44
    go_wp2_with fail
    refine (CA _ _ (Pts.three (by simp) (by simp [go_sem]) (by simp [go_sem]) (by simp [go_sem]) (by simp [go_sem]) (by simp [go_sem]) (by simp [go_sem]))).mono ?_
    rintro e w1 ⟨rfl, os1, m1, rfl⟩
    go_wp2_with fail
    refine (CT _).mono ?_
    rintro e w1 ⟨s0, s1, s2, s3, rfl, hs, os2, m2, rfl⟩
    go_wp2_with fail
    refine (CS _ _ _ _ hs _).mono ?_
    rintro e w1 ⟨rfl, os3, m3, rfl⟩
    go_wp2
    go_ret
    exact ⟨ret_int' HK.out, (by with_reducible repeat (first | exact IsGr.refl _ | refine IsGr.gr ?_ _ _ | refine IsGr.alloc ?_ _ | refine IsGr.drew ?_ | refine IsGr.drewN ?_ _))⟩
  · have HK : Hid (0 = wayP a1 a2 b1 b2 c1 c2) := by unfold Hid wayP; rw [if_neg h]
    rw [Bool.not_eq_true] at h
    rw [h] at CA
    clear h
    go_enter Try.func44, Try.ntmps44
    go_wp2_with fail
    refine (CA _ _ (Pts.three (by simp) (by simp [go_sem]) (by simp [go_sem]) (by simp [go_sem]) (by simp [go_sem]) (by simp [go_sem]) (by simp [go_sem]))).mono ?_
    rintro e w1 ⟨rfl, os1, m1, rfl⟩
    go_wp2
    go_ret
    exact ⟨ret_int' HK.out, (by with_reducible repeat (first | exact IsGr.refl _ | refine IsGr.gr ?_ _ _ | refine IsGr.alloc ?_ _ | refine IsGr.drew ?_ | refine IsGr.drewN ?_ _))⟩
end Go.Proofs.Ytohhlhoijanjfaa
