/- Contracts of package gromaref03 over the loaded program: Right, Turn, Way; and of gromalaw03: ref. -/
import Derived.Test.YtohhlhoijanjfaaU4
import Derived.Test.YtohhlhoijanjfaaR11
namespace Go.Proofs.Ytohhlhoijanjfaa
open Go.RowKit Go.Shelf
attribute [local go_sem] Gr.size Gr.cell? Gr.frozen? Gr.setCell Gr.drew Gr.drewN Gr.of_drew Gr.of_drewN Gr.gr Gr.lt_of1 Gr.le_of1 Gr.lt_of2 Gr.le_of2 Gr.lt_of3 Gr.le_of3 Gr.lt_of4 Gr.le_of4 Gr.lt_of5 Gr.le_of5 Gr.lt_of6 Gr.le_of6 Gr.lt_of7 Gr.le_of7 Gr.lt_of8 Gr.le_of8 Gr.lt_of9 Gr.le_of9 Gr.lt_of10 Gr.le_of10 Gr.lt_of11 Gr.le_of11 Gr.lt_of12 Gr.le_of12 Gr.lt_of13 Gr.le_of13 Gr.lt_of14 Gr.le_of14 Gr.lt_of15 Gr.le_of15 Gr.lt_of16 Gr.le_of16 Gr.lt_of17 Gr.le_of17 Gr.lt_of18 Gr.le_of18 Gr.lt_of19 Gr.le_of19 Gr.lt_of20 Gr.le_of20 Gr.lt_of21 Gr.le_of21 Gr.lt_of22 Gr.le_of22 Gr.lt_of23 Gr.le_of23 Gr.lt_of24 Gr.le_of24

theorem IsGr.app0 (W : World) (a : Array Obj) (n m : Nat) : IsGr (Gr W a n) (Gr W a m) := ⟨#[], m, by simp [Gr.gr]⟩
theorem IsGr.app1 (W : World) (a b : Array Obj) (n m : Nat) : IsGr (Gr W a n) (Gr W (a ++ b) m) := ⟨b, m, by rw [Gr.gr]⟩
theorem IsGr.app2 (W : World) (a b c : Array Obj) (n m : Nat) : IsGr (Gr W (a ++ b) n) (Gr W (a ++ (b ++ c)) m) := ⟨c, m, by rw [Gr.gr, Array.append_assoc]⟩
theorem IsGr.app3 (W : World) (a b c d : Array Obj) (n m : Nat) : IsGr (Gr W (a ++ (b ++ c)) n) (Gr W (a ++ (b ++ (c ++ d))) m) := ⟨d, m, by rw [Gr.gr, Array.append_assoc, Array.append_assoc]⟩

theorem Kb.set {A B : World} (h : Kb A B) {b o : Nat} (u v : Value) (hu : A.cell? ⟨b, o, none⟩ = some u) (hn : ∀ n, u ≠ .int .i64 n) : Kb A (B.setCell ⟨b, o, none⟩ v) := by
  refine ⟨by simpa using h.1, fun g o' n e => ?_⟩
  have hne : (⟨b, o, none⟩ : Addr) ≠ ⟨g, o', none⟩ := by
    intro he
    rw [← he, hu] at e
    exact hn n (Option.some.inj e)
  rw [World.cell?_setCell_other (h := hne)]
  exact h.2 g o' n e

set_option maxRecDepth 20000 in set_option maxHeartbeats 8000000 in
theorem pref_any (a1 a2 : Int) (w : World) : Calls Try.prog 12 #[.agg #[.int .i64 a1, .int .i64 a2]] w fun e w' => e = .returned (.agg #[.int .i64 a1, .int .i64 a2]) ∧ IsGr w w' := by
  go_enter Try.func12, Try.ntmps12
  go_wp2
  exact bodyPost_ret (v := .agg #[.int .i64 a1, .int .i64 a2]) (by simp [results, Try.results12, go_sem]) rfl ⟨rfl, (by with_reducible repeat (first | exact IsGr.refl _ | refine IsGr.gr ?_ _ _ | refine IsGr.alloc ?_ _ | refine IsGr.drew ?_ | refine IsGr.drewN ?_ _))⟩

set_option maxRecDepth 20000 in set_option maxHeartbeats 8000000 in
theorem RefRight_any (a1 a2 : Int) (w : World) : Calls Try.prog 11 #[.agg #[.int .i64 a1, .int .i64 a2]] w fun e w' => e = .returned (.bool (rightP a1 a2)) ∧ IsGr w w' := by
  by_cases h1 : -2199023255552 ≤ a1
  · by_cases h2 : a1 ≤ 2199023255552
    · by_cases h3 : -2199023255552 ≤ a2
      · by_cases h4 : a2 ≤ 2199023255552
        · have HR : Hid (true = rightP a1 a2) := by simp [Hid, rightP, reach, h1, h2, h3, h4]
          go_enter Try.func11, Try.ntmps11
          go_wp2
          go_ret
          exact ⟨ret_bool HR.out, (by with_reducible repeat (first | exact IsGr.refl _ | refine IsGr.gr ?_ _ _ | refine IsGr.alloc ?_ _ | refine IsGr.drew ?_ | refine IsGr.drewN ?_ _))⟩
        · have HR : Hid (false = rightP a1 a2) := by simp [Hid, rightP, reach, h4]
          go_enter Try.func11, Try.ntmps11
          go_wp2
          go_ret
          exact ⟨ret_bool HR.out, (by with_reducible repeat (first | exact IsGr.refl _ | refine IsGr.gr ?_ _ _ | refine IsGr.alloc ?_ _ | refine IsGr.drew ?_ | refine IsGr.drewN ?_ _))⟩
      · have HR : Hid (false = rightP a1 a2) := by simp [Hid, rightP, reach, h3]
        go_enter Try.func11, Try.ntmps11
        go_wp2
        go_ret
        exact ⟨ret_bool HR.out, (by with_reducible repeat (first | exact IsGr.refl _ | refine IsGr.gr ?_ _ _ | refine IsGr.alloc ?_ _ | refine IsGr.drew ?_ | refine IsGr.drewN ?_ _))⟩
    · have HR : Hid (false = rightP a1 a2) := by simp [Hid, rightP, reach, h2]
      go_enter Try.func11, Try.ntmps11
      go_wp2
      go_ret
      exact ⟨ret_bool HR.out, (by with_reducible repeat (first | exact IsGr.refl _ | refine IsGr.gr ?_ _ _ | refine IsGr.alloc ?_ _ | refine IsGr.drew ?_ | refine IsGr.drewN ?_ _))⟩
  · have HR : Hid (false = rightP a1 a2) := by simp [Hid, rightP, reach, h1]
    go_enter Try.func11, Try.ntmps11
    go_wp2
    go_ret
    exact ⟨ret_bool HR.out, (by with_reducible repeat (first | exact IsGr.refl _ | refine IsGr.gr ?_ _ _ | refine IsGr.alloc ?_ _ | refine IsGr.drew ?_ | refine IsGr.drewN ?_ _))⟩


set_option maxRecDepth 20000 in set_option maxHeartbeats 8000000 in
theorem RefTurn_any (a1 a2 b1 b2 c1 c2 : Int) (ha : rightP a1 a2 = true) (hb : rightP b1 b2 = true) (hc : rightP c1 c2 = true) (w : World) :
    Calls Try.prog 58 #[.agg #[.int .i64 a1, .int .i64 a2], .agg #[.int .i64 b1, .int .i64 b2], .agg #[.int .i64 c1, .int .i64 c2]] w fun e w' => ∃ z, e = .returned z ∧ IsBig w' z (turnI a1 a2 b1 b2 c1 c2) ∧ IsGr w w' := by
  have ra := rightP_t ha; have rb := rightP_t hb; have rc := rightP_t hc
  obtain ⟨D1, e1, d1, v1⟩ : ∃ D, D = b1 - a1 ∧ (-4398046511104 ≤ D ∧ D ≤ 4398046511104) ∧ IntKind.i64.wrap (b1 - a1) = D := ⟨_, rfl, by omega, by rw [IntKind.wrap_i64]; omega⟩
  obtain ⟨D2, e2, d2, v2⟩ : ∃ D, D = c2 - a2 ∧ (-4398046511104 ≤ D ∧ D ≤ 4398046511104) ∧ IntKind.i64.wrap (c2 - a2) = D := ⟨_, rfl, by omega, by rw [IntKind.wrap_i64]; omega⟩
  obtain ⟨D3, e3, d3, v3⟩ : ∃ D, D = b2 - a2 ∧ (-4398046511104 ≤ D ∧ D ≤ 4398046511104) ∧ IntKind.i64.wrap (b2 - a2) = D := ⟨_, rfl, by omega, by rw [IntKind.wrap_i64]; omega⟩
  obtain ⟨D4, e4, d4, v4⟩ : ∃ D, D = c1 - a1 ∧ (-4398046511104 ≤ D ∧ D ≤ 4398046511104) ∧ IntKind.i64.wrap (c1 - a1) = D := ⟨_, rfl, by omega, by rw [IntKind.wrap_i64]; omega⟩
  have HT : Hid (D1 * D2 - D3 * D4 = turnI a1 a2 b1 b2 c1 c2) := by unfold Hid turnI; rw [e1, e2, e3, e4]
  have p1 := mul_le_of d1 d2
  have p2 := mul_le_of d3 d4
  have O1 := fun w => BigOf_any D1 (by omega) (by omega) w
  have O2 := fun w => BigOf_any D2 (by omega) (by omega) w
  have O3 := fun w => BigOf_any D3 (by omega) (by omega) w
  have O4 := fun w => BigOf_any D4 (by omega) (by omega) w
  have s1 : Sm D1 := by unfold Sm; omega
  have s2 : Sm D2 := by unfold Sm; omega
  have s3 : Sm D3 := by unfold Sm; omega
  have s4 : Sm D4 := by unfold Sm; omega
  have s5 : Sm (D1 * D2) := by unfold Sm; omega
  have s6 : Sm (D3 * D4) := by unfold Sm; omega
  clear p1 p2 e1 e2 e3 e4 d1 d2 d3 d4 ra rb rc ha hb hc
  go_enter Try.func58, Try.ntmps58
  go_upto_region 1 with fail
  go_cut [7] (fun t7 wr => ∃ (g : Nat) (zs : Bool) (za : Option Addr) (zn zc : Nat), t7 = .pointer (some ⟨g, 0, none⟩) ∧ w.heap.size + 1 + 1 + 1 < g ∧ g < wr.heap.size ∧ (wr.cell? ⟨g, 0, none⟩ = some (.bool zs) ∧ wr.cell? ⟨g, 1, none⟩ = some (.slice za zn zc)) ∧ IsBig wr (.agg #[.bool zs, .slice za zn zc]) (D1 * D2) ∧ (wr.cell? ⟨w.heap.size, 0, none⟩ = some (.int .i64 a1) ∧ wr.cell? ⟨w.heap.size, 1, none⟩ = some (.int .i64 a2)) ∧ (wr.cell? ⟨w.heap.size + 1, 0, none⟩ = some (.int .i64 b1) ∧ wr.cell? ⟨w.heap.size + 1, 1, none⟩ = some (.int .i64 b2)) ∧ (wr.cell? ⟨w.heap.size + 1 + 1, 0, none⟩ = some (.int .i64 c1) ∧ wr.cell? ⟨w.heap.size + 1 + 1, 1, none⟩ = some (.int .i64 c2)) ∧ (wr.cell? ⟨w.heap.size + 1 + 1 + 1, 0, none⟩ = some (.bool false) ∧ wr.cell? ⟨w.heap.size + 1 + 1 + 1, 1, none⟩ = some (.slice none 0 0) ∧ wr.frozen? ⟨w.heap.size + 1 + 1 + 1, 0, none⟩ = false ∧ wr.frozen? ⟨w.heap.size + 1 + 1 + 1, 1, none⟩ = false) ∧ Below w.heap.size w wr)
  case first =>
    go_region_held3 (fun w' => (w'.cell? ⟨w.heap.size, 0, none⟩ = some (.int .i64 a1) ∧ w'.cell? ⟨w.heap.size, 1, none⟩ = some (.int .i64 a2)) ∧ (w'.cell? ⟨w.heap.size + 1, 0, none⟩ = some (.int .i64 b1) ∧ w'.cell? ⟨w.heap.size + 1, 1, none⟩ = some (.int .i64 b2)) ∧ (w'.cell? ⟨w.heap.size + 1 + 1, 0, none⟩ = some (.int .i64 c1) ∧ w'.cell? ⟨w.heap.size + 1 + 1, 1, none⟩ = some (.int .i64 c2))) (simp [go_sem])
      ((first | (go_at_call_of 41 (Value.int IntKind.i64 D1); refine (O1 _).mono ?_; rintro e w1 ⟨x, rfl, hx, os1, m1, rfl⟩; (try simp only [Gr.of_drew] at hx); (try simp only [Gr.gr] at hx); (try simp only [Array.append_assoc] at hx); obtain ⟨xs, xa, xn, xc, rfl⟩ := hx.shape) | (go_at_call_of 41 (Value.int IntKind.i64 D2); refine (O2 _).mono ?_; rintro e w1 ⟨y, rfl, hy, os2, m2, rfl⟩; (try simp only [Gr.of_drew] at hy); (try simp only [Gr.gr] at hy); (try simp only [Array.append_assoc] at hy); obtain ⟨ys, ya, yn, yc, rfl⟩ := hy.shape) | (go_at_call 40; refine (BigMul_any _ _ D1 D2 _ (hx.gr ?_) (hy.gr ?_) s1 s2).mono ?_; exact (by with_reducible repeat (first | exact IsGr.refl _ | exact IsGr.app0 _ _ _ _ | exact IsGr.app1 _ _ _ _ _ | exact IsGr.app2 _ _ _ _ _ _ | exact IsGr.app3 _ _ _ _ _ _ _ | refine IsGr.gr ?_ _ _ | refine IsGr.alloc ?_ _ | refine IsGr.drew ?_)); exact (by with_reducible repeat (first | exact IsGr.refl _ | exact IsGr.app0 _ _ _ _ | exact IsGr.app1 _ _ _ _ _ | exact IsGr.app2 _ _ _ _ _ _ | exact IsGr.app3 _ _ _ _ _ _ _ | refine IsGr.gr ?_ _ _ | refine IsGr.alloc ?_ _ | refine IsGr.drew ?_)); rintro e w1 ⟨t, rfl, ht, os3, m3, rfl⟩; (try simp only [Gr.of_drew] at ht); (try simp only [Gr.gr] at ht); (try simp only [Array.append_assoc] at ht); obtain ⟨zs, za, zn, zc, rfl⟩ := ht.shape)))
    all_goals
      go_wp2
      go_meet
      case rel =>
        refine ⟨_, zs, za, zn, zc, rfl, ?_, ?_, ?_, ht.kb ?_, ?_, ?_, ?_, ?_, IsGr.below (w := w) (by with_reducible repeat (first | exact IsGr.refl _ | refine IsGr.gr ?_ _ _ | refine IsGr.alloc ?_ _ | refine IsGr.drew ?_ | refine IsGr.drewN ?_ _))⟩
        · first | omega | (simp [Gr.size]; done) | (simp [Gr.size]; omega)
        · first | omega | (simp [Gr.size]; done) | (simp [Gr.size]; omega)
        · simp [go_sem]
        · with_reducible repeat (first | exact Kb.refl _ | refine Kb.gr ?_ (by first | (simp; done) | simp [Gr.size]) _ _ _ | refine Kb.gr_app ?_ (by first | (simp; done) | simp [Gr.size]) _ _ _ _ | refine Kb.box ?_ (by first | (simp; done) | simp [Gr.size]) _ _ _ _ _ _ _ _ _ | refine Kb.alloc ?_ (by first | (simp; done) | simp [Gr.size]) _ | refine Kb.drew_l ?_ | refine Kb.drew_r ?_ | refine Kb.lay ?_ _ | refine Kb.grow ?_ _ _)
        all_goals simp [go_sem]
  case rest =>
    obtain ⟨g, zs, za, zn, zc, rfl, kg0, kg, ⟨q0, q1⟩, hz, ⟨a1', a2'⟩, ⟨b1', b2'⟩, ⟨c1', c2'⟩, ⟨z0, z1, f0, f1⟩, hbe⟩ := hcut
    obtain ⟨W1, hW1⟩ : ∃ W1, W1 = wc := ⟨_, rfl⟩
    subst hW1
    have HBe : Hid (Below w.heap.size w W1) := hbe
    have kr : w.heap.size + 1 + 1 + 1 < W1.heap.size := by omega
    have kc : w.heap.size + 1 + 1 < W1.heap.size := by omega
    have kb : w.heap.size + 1 < W1.heap.size := by omega
    have ka : w.heap.size < W1.heap.size := by omega
    have n1 : ¬ w.heap.size + 1 + 1 + 1 = g := by omega
    have n2 : ¬ g = w.heap.size + 1 + 1 + 1 := by omega
    have HZ := fun w1 (hg : IsGr W1 w1) => hz.gr hg
    clear kg0 hbe O1 O2 v1 v2 s1 s2 hz
    go_upto_region 2 with fail
    go_region_held3 (fun w' => (w'.cell? ⟨w.heap.size, 0, none⟩ = some (.int .i64 a1) ∧ w'.cell? ⟨w.heap.size, 1, none⟩ = some (.int .i64 a2)) ∧ (w'.cell? ⟨w.heap.size + 1, 0, none⟩ = some (.int .i64 b1) ∧ w'.cell? ⟨w.heap.size + 1, 1, none⟩ = some (.int .i64 b2)) ∧ (w'.cell? ⟨w.heap.size + 1 + 1, 0, none⟩ = some (.int .i64 c1) ∧ w'.cell? ⟨w.heap.size + 1 + 1, 1, none⟩ = some (.int .i64 c2)) ∧ (w'.cell? ⟨g, 0, none⟩ = some (.bool zs) ∧ w'.cell? ⟨g, 1, none⟩ = some (.slice za zn zc))) (simp [go_sem, a1', a2', b1', b2', c1', c2', q0, q1, ka, kb, kc, kg])
        ((first | (go_at_call_of 41 (Value.int IntKind.i64 D3); refine (O3 _).mono ?_; rintro e w1 ⟨x, rfl, hx, os1, m1, rfl⟩; (try simp only [Gr.of_drew] at hx); (try simp only [Gr.gr] at hx); (try simp only [Array.append_assoc] at hx); obtain ⟨xs, xa, xn, xc, rfl⟩ := hx.shape) | (go_at_call_of 41 (Value.int IntKind.i64 D4); refine (O4 _).mono ?_; rintro e w1 ⟨y, rfl, hy, os2, m2, rfl⟩; (try simp only [Gr.of_drew] at hy); (try simp only [Gr.gr] at hy); (try simp only [Array.append_assoc] at hy); obtain ⟨ys, ya, yn, yc, rfl⟩ := hy.shape) | (go_at_call 40; refine (BigMul_any _ _ D3 D4 _ (hx.gr ?_) (hy.gr ?_) s3 s4).mono ?_; exact (by with_reducible repeat (first | exact IsGr.refl _ | exact IsGr.app0 _ _ _ _ | exact IsGr.app1 _ _ _ _ _ | exact IsGr.app2 _ _ _ _ _ _ | exact IsGr.app3 _ _ _ _ _ _ _ | refine IsGr.gr ?_ _ _ | refine IsGr.alloc ?_ _ | refine IsGr.drew ?_)); exact (by with_reducible repeat (first | exact IsGr.refl _ | exact IsGr.app0 _ _ _ _ | exact IsGr.app1 _ _ _ _ _ | exact IsGr.app2 _ _ _ _ _ _ | exact IsGr.app3 _ _ _ _ _ _ _ | refine IsGr.gr ?_ _ _ | refine IsGr.alloc ?_ _ | refine IsGr.drew ?_)); rintro e w1 ⟨t, rfl, ht, os3, m3, rfl⟩; (try simp only [Gr.of_drew] at ht); (try simp only [Gr.gr] at ht); (try simp only [Array.append_assoc] at ht); obtain ⟨ts, ta, tn, tc, rfl⟩ := ht.shape) | (go_at_call 43; refine (BigSub_any _ _ (D1 * D2) (D3 * D4) _ (HZ _ ?_) (ht.gr ?_) s5 s6).mono ?_; exact (by with_reducible repeat (first | exact IsGr.refl _ | refine IsGr.gr ?_ _ _ | refine IsGr.alloc ?_ _ | refine IsGr.drew ?_ | refine IsGr.drewN ?_ _)); exact (by with_reducible repeat (first | exact IsGr.refl _ | exact IsGr.app0 _ _ _ _ | exact IsGr.app1 _ _ _ _ _ | exact IsGr.app2 _ _ _ _ _ _ | exact IsGr.app3 _ _ _ _ _ _ _ | refine IsGr.gr ?_ _ _ | refine IsGr.alloc ?_ _ | refine IsGr.drew ?_)); rintro e w1 ⟨r, rfl, hr, os4, m4, rfl⟩; (try simp only [Gr.of_drew] at hr); (try simp only [Gr.gr] at hr); (try simp only [Array.append_assoc] at hr); obtain ⟨rs, ra, rn, rc, rfl⟩ := hr.shape)))
    all_goals
      rw [HT.out] at hr
      go_wp2
      have hbe := HBe.out
      refine bodyPost_ret (v := .agg #[.bool rs, .slice ra rn rc]) (by simp [results, Try.results58, go_sem, kr, z0, z1]) rfl ⟨_, rfl, hr.kb ?_, IsGr.of_below (by repeat (first | exact Below.refl _ _ | exact (by assumption) | refine Below.drew ?_ | refine Below.gro ?_ (by first | omega | (simp; done) | (simp; omega) | (simp [Gr.size]; omega)) _ _ | refine Below.alloc ?_ (by first | omega | (simp; done) | (simp; omega) | (simp [Gr.size]; omega)) _ | refine Below.setCell ?_ (by first | omega | (simp; done) | (simp; omega) | (simp [Gr.size]; omega)) _))⟩
      exact Kb.gr (Kb.set (Kb.set (Kb.refl _) _ _ z0 (fun n h => by cases h)) _ _ z1 (fun n h => by cases h)) (by simp) _ _ _

set_option maxRecDepth 20000 in set_option maxHeartbeats 8000000 in
theorem Way_any (a1 a2 b1 b2 c1 c2 : Int) (w : World) :
    Calls Try.prog 17 #[.agg #[.int .i64 a1, .int .i64 a2], .agg #[.int .i64 b1, .int .i64 b2], .agg #[.int .i64 c1, .int .i64 c2]] w fun e w' => e = .returned (.int .i64 (wayP a1 a2 b1 b2 c1 c2)) ∧ IsGr w w' := by
  have C1 := fun w => RefRight_any a1 a2 w
  have C2 := fun w => RefRight_any b1 b2 w
  have C3 := fun w => RefRight_any c1 c2 w
  have CT := fun ha hb hc w => RefTurn_any a1 a2 b1 b2 c1 c2 ha hb hc w
  have HW : Hid (∀ r1 r2 r3, rightP a1 a2 = r1 → rightP b1 b2 = r2 → rightP c1 c2 = r3 → wayP a1 a2 b1 b2 c1 c2 = if (r1 && r2 && r3) = true then cmpI (turnI a1 a2 b1 b2 c1 c2) 0 else 0) := by
    rintro _ _ _ rfl rfl rfl; rfl
  obtain ⟨r1, e1⟩ : ∃ r, rightP a1 a2 = r := ⟨_, rfl⟩
  obtain ⟨r2, e2⟩ : ∃ r, rightP b1 b2 = r := ⟨_, rfl⟩
  obtain ⟨r3, e3⟩ : ∃ r, rightP c1 c2 = r := ⟨_, rfl⟩
  replace HW : Hid (wayP a1 a2 b1 b2 c1 c2 = if (r1 && r2 && r3) = true then cmpI (turnI a1 a2 b1 b2 c1 c2) 0 else 0) := HW.out _ _ _ e1 e2 e3
  have sT : ∀ (_ : rightP a1 a2 = true) (_ : rightP b1 b2 = true) (_ : rightP c1 c2 = true), Sm (turnI a1 a2 b1 b2 c1 c2) := by
    intro ha hb hc
    have ra := rightP_t ha; have rb := rightP_t hb; have rc := rightP_t hc
    have p1 := mul_le_of (x := b1 - a1) (y := c2 - a2) (A := 4398046511104) (B := 4398046511104) (by omega) (by omega)
    have p2 := mul_le_of (x := b2 - a2) (y := c1 - a1) (A := 4398046511104) (B := 4398046511104) (by omega) (by omega)
    unfold Sm turnI
    omega
  rw [e1] at C1 CT sT; rw [e2] at C2 CT sT; rw [e3] at C3 CT sT
  clear e1 e2 e3
  cases r1
  · have HR : Hid (0 = wayP a1 a2 b1 b2 c1 c2) := by rw [HW.out]; rfl
    clear CT C2 C3 HW sT
    go_enter Try.func17, Try.ntmps17
    go_wp2_with fail
    refine (C1 _).mono ?_
    rintro e w1 ⟨rfl, os1, m1, rfl⟩
    go_wp2
    go_ret
    exact ⟨ret_int' HR.out, (by with_reducible repeat (first | exact IsGr.refl _ | refine IsGr.gr ?_ _ _ | refine IsGr.alloc ?_ _ | refine IsGr.drew ?_ | refine IsGr.drewN ?_ _))⟩
  cases r2
  · have HR : Hid (0 = wayP a1 a2 b1 b2 c1 c2) := by rw [HW.out]; rfl
    clear CT C3 HW sT
    go_enter Try.func17, Try.ntmps17
    go_wp2_with fail
    refine (C1 _).mono ?_
    rintro e w1 ⟨rfl, os1, m1, rfl⟩
    go_wp2_with fail
    refine (C2 _).mono ?_
    rintro e w1 ⟨rfl, os2, m2, rfl⟩
    go_wp2
    go_ret
    exact ⟨ret_int' HR.out, (by with_reducible repeat (first | exact IsGr.refl _ | refine IsGr.gr ?_ _ _ | refine IsGr.alloc ?_ _ | refine IsGr.drew ?_ | refine IsGr.drewN ?_ _))⟩
  cases r3
  · have HR : Hid (0 = wayP a1 a2 b1 b2 c1 c2) := by rw [HW.out]; rfl
    clear CT HW sT
    go_enter Try.func17, Try.ntmps17
    go_wp2_with fail
    refine (C1 _).mono ?_
    rintro e w1 ⟨rfl, os1, m1, rfl⟩
    go_wp2_with fail
    refine (C2 _).mono ?_
    rintro e w1 ⟨rfl, os2, m2, rfl⟩
    go_wp2_with fail
    refine (C3 _).mono ?_
    rintro e w1 ⟨rfl, os3, m3, rfl⟩
    go_wp2
    go_ret
    exact ⟨ret_int' HR.out, (by with_reducible repeat (first | exact IsGr.refl _ | refine IsGr.gr ?_ _ _ | refine IsGr.alloc ?_ _ | refine IsGr.drew ?_ | refine IsGr.drewN ?_ _))⟩
  have HR : Hid (cmpI (turnI a1 a2 b1 b2 c1 c2) 0 = wayP a1 a2 b1 b2 c1 c2) := by rw [HW.out]; rfl
  have CT' := CT rfl rfl rfl
  have sT' := sT rfl rfl rfl
  clear CT sT HW
  go_enter Try.func17, Try.ntmps17
  go_wp2_with fail
  refine (C1 _).mono ?_
  rintro e w1 ⟨rfl, os1, m1, rfl⟩
  go_wp2_with fail
  refine (C2 _).mono ?_
  rintro e w1 ⟨rfl, os2, m2, rfl⟩
  go_wp2_with fail
  refine (C3 _).mono ?_
  rintro e w1 ⟨rfl, os3, m3, rfl⟩
  go_wp2_with fail
  refine (CT' _).mono ?_
  rintro e w1 ⟨z, rfl, hz, os4, m4, rfl⟩
  obtain ⟨zs, za, zn, zc, rfl⟩ := hz.shape
  (try simp only [Gr.of_drew] at hz); (try simp only [Gr.gr] at hz); (try simp only [Array.append_assoc] at hz)
  go_wp2_with fail
  refine (BigSign_any _ _ _ (hz.gr ?_) sT').mono ?_
  · exact (by with_reducible repeat (first | exact IsGr.refl _ | exact IsGr.app0 _ _ _ _ | exact IsGr.app1 _ _ _ _ _ | exact IsGr.app2 _ _ _ _ _ _ | exact IsGr.app3 _ _ _ _ _ _ _ | refine IsGr.gr ?_ _ _ | refine IsGr.alloc ?_ _ | refine IsGr.drew ?_))
  rintro e w1 ⟨rfl, os5, m5, rfl⟩
  go_wp2
  go_ret
  exact ⟨ret_int' HR.out, (by with_reducible repeat (first | exact IsGr.refl _ | refine IsGr.gr ?_ _ _ | refine IsGr.alloc ?_ _ | refine IsGr.drew ?_ | refine IsGr.drewN ?_ _))⟩
end Go.Proofs.Ytohhlhoijanjfaa
