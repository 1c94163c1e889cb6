/- Contracts of package ratio over the loaded program: Reduced. -/
import Derived.Test.YtecohcgcffhlnaaT2
import Derived.Test.YtecohcgcffhlnaaL8
namespace Go.Proofs.Ytecohcgcffhlnaa
open Go.RowKit Go.Shelf
attribute [local go_sem] Gr.size Gr.cell? Gr.frozen? Gr.setCell Gr.drew Gr.drewN Gr.of_drew Gr.of_drewN Gr.gr Gr.lt_of1 Gr.le_of1 Gr.lt_of2 Gr.le_of2 Gr.lt_of3 Gr.le_of3 Gr.lt_of4 Gr.le_of4 Gr.lt_of5 Gr.le_of5 Gr.lt_of6 Gr.le_of6 Gr.lt_of7 Gr.le_of7 Gr.lt_of8 Gr.le_of8 Gr.lt_of9 Gr.le_of9 Gr.lt_of10 Gr.le_of10 Gr.lt_of11 Gr.le_of11 Gr.lt_of12 Gr.le_of12 Gr.lt_of13 Gr.le_of13 Gr.lt_of14 Gr.le_of14 Gr.lt_of15 Gr.le_of15 Gr.lt_of16 Gr.le_of16 Gr.lt_of17 Gr.le_of17 Gr.lt_of18 Gr.le_of18 Gr.lt_of19 Gr.le_of19 Gr.lt_of20 Gr.le_of20 Gr.lt_of21 Gr.le_of21 Gr.lt_of22 Gr.le_of22 Gr.lt_of23 Gr.le_of23 Gr.lt_of24 Gr.le_of24

theorem idx2_0 (n0 n1 n2 n3 d0 d1 d2 d3 : Int) (w : World) : (Instr.index 110 (.agg #[.int .u64 n0, .int .u64 n1, .int .u64 n2, .int .u64 n3, .int .u64 d0, .int .u64 d1, .int .u64 d2, .int .u64 d3]) (.int .i64 0)).run Try.prog w = .ok (.agg #[.int .u64 n0, .int .u64 n1, .int .u64 n2, .int .u64 n3]) w := by
  simp [Instr.index, run_underlying Try.underlying110, asIntOf, go_sem]
theorem idx2_1 (n0 n1 n2 n3 d0 d1 d2 d3 : Int) (w : World) : (Instr.index 110 (.agg #[.int .u64 n0, .int .u64 n1, .int .u64 n2, .int .u64 n3, .int .u64 d0, .int .u64 d1, .int .u64 d2, .int .u64 d3]) (.int .i64 1)).run Try.prog w = .ok (.agg #[.int .u64 d0, .int .u64 d1, .int .u64 d2, .int .u64 d3]) w := by
  simp [Instr.index, run_underlying Try.underlying110, asIntOf, go_sem]

theorem gcdI_pos {n d : Int} (hd : 0 < d) : 0 < gcdI (abs n) (abs d) ∧ gcdI (abs n) (abs d) ≤ d := by
  have h0 := gcdI_nonneg n d
  have h1 : gcdI (abs n) (abs d) ≠ 0 := fun e => by have := (gcdI_none e).2; omega
  refine ⟨by omega, ?_⟩
  rw [gcdI_eq]
  exact Int.le_of_dvd hd (Int.gcd_dvd_right n d)

/-- What Reduced answers. -/
def RedT (n d s0 s1 s2 s3 t0 t1 t2 t3 : Int) (ok : Bool) : Prop :=
  (0 < d → ok = true ∧ IsI s0 s1 s2 s3 (n.fdiv (gcdI (abs n) (abs d))) ∧ IsI t0 t1 t2 t3 (d.fdiv (gcdI (abs n) (abs d)))) ∧
  (¬ 0 < d → ok = false ∧ s0 = 0 ∧ s1 = 0 ∧ s2 = 0 ∧ s3 = 0 ∧ t0 = 0 ∧ t1 = 0 ∧ t2 = 0 ∧ t3 = 0)

theorem div_told_q {x y s0 s1 s2 s3 r0 r1 r2 r3 : Int} {ok : Bool} (h : DivAll x y s0 s1 s2 s3 r0 r1 r2 r3 ok) (hy : 0 < y) : ok = true ∧ IsI s0 s1 s2 s3 (x.fdiv y) := by
  rcases h with ⟨a, _, c, _⟩ | ⟨_, h, _⟩
  · exact ⟨a, c⟩
  · omega

set_option maxRecDepth 20000 in set_option maxHeartbeats 4000000 in
theorem Reduced_any (n0 n1 n2 n3 n d0 d1 d2 d3 d : Int) (hn : IsI n0 n1 n2 n3 n) (hd : IsI d0 d1 d2 d3 d) (w : World) :
    Calls Try.prog 52 #[.agg #[.int .u64 n0, .int .u64 n1, .int .u64 n2, .int .u64 n3, .int .u64 d0, .int .u64 d1, .int .u64 d2, .int .u64 d3]] w fun e w' => ∃ (s0 s1 s2 s3 t0 t1 t2 t3 : Int) (ok : Bool), e = .returned (.tuple #[.agg #[.int .u64 s0, .int .u64 s1, .int .u64 s2, .int .u64 s3, .int .u64 t0, .int .u64 t1, .int .u64 t2, .int .u64 t3], .bool ok]) ∧ RedT n d s0 s1 s2 s3 t0 t1 t2 t3 ok ∧ IsGr w w' := by
  have CR := fun w => Right_any n0 n1 n2 n3 d0 d1 d2 d3 d hd w
  by_cases h : 0 < d
  · rw [show decide (0 < d) = true by simp [h]] at CR
    have CC := fun w => Common_any n0 n1 n2 n3 n d0 d1 d2 d3 d hn hd w
    have hg := gcdI_pos (n := n) h
    have HD : Hid (0 < d) := h
    have hgr : -57896044618658097711785492504343953926634992332820282019728792003956564819968 ≤ gcdI (abs n) (abs d) ∧ gcdI (abs n) (abs d) < 57896044618658097711785492504343953926634992332820282019728792003956564819968 := by have := hd.2; omega
    obtain ⟨G, hG⟩ : ∃ G, gcdI (abs n) (abs d) = G := ⟨_, rfl⟩
    have HG : Hid (gcdI (abs n) (abs d) = G) := hG
    rw [hG] at CC hg hgr
    have g0 : 0 < G := hg.1
    clear h hG hg
    have i0 := fun w => idx2_0 n0 n1 n2 n3 d0 d1 d2 d3 w
    have i1 := fun w => idx2_1 n0 n1 n2 n3 d0 d1 d2 d3 w
    go_enter Try.func52, Try.ntmps52
    go_wp2_with fail
    refine (CR _).mono ?_
    rintro e w1 ⟨rfl, os1, m1, rfl⟩
    go_wp2_with fail
    refine (CC _).mono ?_
    rintro e w1 ⟨c0, c1, c2, c3, ok, rfl, hT, os2, m2, rfl⟩
    obtain ⟨rfl, hc⟩ := told_of hT hgr
    have D1 := fun w => Div_all n0 n1 n2 n3 n c0 c1 c2 c3 G hn hc w
    have D2 := fun w => Div_all d0 d1 d2 d3 d c0 c1 c2 c3 G hd hc w
    clear hT CC CR
    go_wp2
    refine wp_loop_rounds 3 ?_
    rw [rounds_succ]
    go_wp2_with fail
    refine (D1 _).mono ?_
    rintro e w1 ⟨q0, q1, q2, q3, r0, r1, r2, r3, ok, rfl, hD, os3, m3, rfl⟩
    obtain ⟨rfl, hq⟩ := div_told_q hD g0
    clear hD D1
    go_wp2
    rw [rounds_succ]
    go_wp2_with fail
    refine (D2 _).mono ?_
    rintro e w1 ⟨p0, p1, p2, p3, k0, k1, k2, k3, ok, rfl, hD, os4, m4, rfl⟩
    obtain ⟨rfl, hp⟩ := div_told_q hD g0
    clear hD D2
    have CT := fun w => rtold_t q0 q1 q2 q3 p0 p1 p2 p3 w
    have hR : RedT n d q0 q1 q2 q3 p0 p1 p2 p3 true := by
      unfold RedT
      rw [HG.out]
      exact ⟨fun _ => ⟨rfl, hq, hp⟩, fun h => absurd HD.out h⟩
    clear hq hp
    go_wp2
    rw [rounds_succ]
    go_wp2_with fail
    refine (CT _).mono ?_
    rintro e w1 ⟨rfl, os5, m5, rfl⟩
    go_wp2
    exact bodyPost_ret (v := .tuple #[.agg #[.int .u64 q0, .int .u64 q1, .int .u64 q2, .int .u64 q3, .int .u64 p0, .int .u64 p1, .int .u64 p2, .int .u64 p3], .bool true]) (by simp [results, Try.results52, go_sem]) rfl ⟨q0, q1, q2, q3, p0, p1, p2, p3, true, rfl, hR, (by with_reducible repeat (first | exact IsGr.refl _ | refine IsGr.gr ?_ _ _ | refine IsGr.alloc ?_ _ | refine IsGr.drew ?_ | refine IsGr.drewN ?_ _))⟩
  · rw [show decide (0 < d) = false by simp; omega] at CR
    have hR : RedT n d 0 0 0 0 0 0 0 0 false := ⟨fun h2 => absurd h2 h, fun _ => ⟨rfl, rfl, rfl, rfl, rfl, rfl, rfl, rfl, rfl⟩⟩
    clear h
    go_enter Try.func52, Try.ntmps52
    go_wp2_with fail
    refine (CR _).mono ?_
    rintro e w1 ⟨rfl, os1, m1, rfl⟩
    go_wp2
    exact bodyPost_ret (v := .tuple #[.agg #[.int .u64 0, .int .u64 0, .int .u64 0, .int .u64 0, .int .u64 0, .int .u64 0, .int .u64 0, .int .u64 0], .bool false]) (by simp [results, Try.results52, go_sem]) rfl ⟨0, 0, 0, 0, 0, 0, 0, 0, false, rfl, hR, (by with_reducible repeat (first | exact IsGr.refl _ | refine IsGr.gr ?_ _ _ | refine IsGr.alloc ?_ _ | refine IsGr.drew ?_ | refine IsGr.drewN ?_ _))⟩
end Go.Proofs.Ytecohcgcffhlnaa
