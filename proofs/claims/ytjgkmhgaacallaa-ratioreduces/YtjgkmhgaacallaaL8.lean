/- gromalaw01.WideCommon: for every three Ints the law answers true. -/
import Derived.Test.YtjgkmhgaacallaaA1
import Derived.Test.YtjgkmhgaacallaaW13
import Derived.Test.YtjgkmhgaacallaaW17
namespace Go.Proofs.Ytjgkmhgaacallaa
open Go.RowKit Go.Shelf
attribute [local go_sem] Gr.size Gr.cell? Gr.frozen? Gr.setCell Gr.drew Gr.drewN Gr.of_drew Gr.of_drewN Gr.gr Gr.lt_of1 Gr.le_of1 Gr.lt_of2 Gr.le_of2 Gr.lt_of3 Gr.le_of3 Gr.lt_of4 Gr.le_of4 Gr.lt_of5 Gr.le_of5 Gr.lt_of6 Gr.le_of6 Gr.lt_of7 Gr.le_of7 Gr.lt_of8 Gr.le_of8

theorem gcdI_eq (x y : Int) : gcdI (abs x) (abs y) = (Int.gcd x y : Int) := by
  have h : ∀ z : Int, (abs z).toNat = z.natAbs := by intro z; unfold abs; split <;> omega
  unfold gcdI
  rw [h, h]; rfl
theorem gcdI_l (x y : Int) : x.fmod (gcdI (abs x) (abs y)) = 0 := by
  rw [gcdI_eq]; exact Int.fmod_eq_zero_of_dvd (Int.gcd_dvd_left x y)
theorem gcdI_r (x y : Int) : y.fmod (gcdI (abs x) (abs y)) = 0 := by
  rw [gcdI_eq]; exact Int.fmod_eq_zero_of_dvd (Int.gcd_dvd_right x y)
theorem gcdI_all {x y z : Int} (h1 : x.fmod z = 0) (h2 : y.fmod z = 0) : (gcdI (abs x) (abs y)).fmod z = 0 := by
  rw [gcdI_eq]
  exact Int.fmod_eq_zero_of_dvd (Int.dvd_coe_gcd (Int.dvd_of_fmod_eq_zero h1) (Int.dvd_of_fmod_eq_zero h2))
theorem gcdI_nonneg (x y : Int) : 0 ≤ gcdI (abs x) (abs y) := by unfold gcdI; omega
theorem gcdI_none {x y : Int} (h : gcdI (abs x) (abs y) = 0) : x = 0 ∧ y = 0 := by
  rw [gcdI_eq] at h
  have h2 : Int.gcd x y = 0 := by omega
  exact Int.gcd_eq_zero_iff.1 h2
theorem gcdI_over {x y : Int} (hx : -57896044618658097711785492504343953926634992332820282019728792003956564819968 ≤ x ∧ x < 57896044618658097711785492504343953926634992332820282019728792003956564819968) (hy : -57896044618658097711785492504343953926634992332820282019728792003956564819968 ≤ y ∧ y < 57896044618658097711785492504343953926634992332820282019728792003956564819968) (h : ¬ (-57896044618658097711785492504343953926634992332820282019728792003956564819968 ≤ gcdI (abs x) (abs y) ∧ gcdI (abs x) (abs y) < 57896044618658097711785492504343953926634992332820282019728792003956564819968)) : (x = -57896044618658097711785492504343953926634992332820282019728792003956564819968 ∨ x = 0) ∧ (y = -57896044618658097711785492504343953926634992332820282019728792003956564819968 ∨ y = 0) := by
  have h0 := gcdI_nonneg x y
  rw [gcdI_eq] at h h0
  have d1 := Int.gcd_dvd_left x y
  have d2 := Int.gcd_dvd_right x y
  generalize ((Int.gcd x y : Nat) : Int) = G at h h0 d1 d2
  have key : ∀ z : Int, -57896044618658097711785492504343953926634992332820282019728792003956564819968 ≤ z → z < 57896044618658097711785492504343953926634992332820282019728792003956564819968 → G ∣ z → z = -57896044618658097711785492504343953926634992332820282019728792003956564819968 ∨ z = 0 := by
    intro z z0 z1 hd
    by_cases hz : z = 0
    · exact Or.inr hz
    · left
      by_cases hp : 0 < z
      · have := Int.le_of_dvd hp hd; omega
      · have := Int.le_of_dvd (show 0 < -z by omega) ((Int.dvd_neg).2 hd); omega
  exact ⟨key x hx.1 hx.2 d1, key y hy.1 hy.2 d2⟩
theorem is_least : Is 0 0 0 9223372036854775808 57896044618658097711785492504343953926634992332820282019728792003956564819968 := by unfold Is; omega

theorem div_told {x y s0 s1 s2 s3 r0 r1 r2 r3 : Int} {ok : Bool} (h : DivAll x y s0 s1 s2 s3 r0 r1 r2 r3 ok) (hy : y ≠ 0) (hn : ¬ (x = -57896044618658097711785492504343953926634992332820282019728792003956564819968 ∧ y = -1)) : ok = true ∧ IsI r0 r1 r2 r3 (x.fmod y) := by
  rcases h with ⟨a, _, _, d⟩ | ⟨_, h, _⟩
  · exact ⟨a, d⟩
  · rcases h with h | h
    · exact absurd h hy
    · exact absurd h hn


set_option maxRecDepth 20000 in set_option maxHeartbeats 8000000 in
theorem common_no (x0 x1 x2 x3 x y0 y1 y2 y3 y z0 z1 z2 z3 : Int) (hx : IsI x0 x1 x2 x3 x) (hy : IsI y0 y1 y2 y3 y) (ho : ¬ (-57896044618658097711785492504343953926634992332820282019728792003956564819968 ≤ gcdI (abs x) (abs y) ∧ gcdI (abs x) (abs y) < 57896044618658097711785492504343953926634992332820282019728792003956564819968)) (w : World) :
    Calls Try.prog 8 #[.agg #[.int .u64 x0, .int .u64 x1, .int .u64 x2, .int .u64 x3], .agg #[.int .u64 y0, .int .u64 y1, .int .u64 y2, .int .u64 y3], .agg #[.int .u64 z0, .int .u64 z1, .int .u64 z2, .int .u64 z3]] w fun e w' => e = .returned (.bool true) ∧ IsGr w w' := by
  have CA := fun w => awake_any w
  have CC := fun w => Common_any x0 x1 x2 x3 x y0 y1 y2 y3 y hx hy w
  have hv := gcdI_over hx.2 hy.2 ho
  have heZ := fun w => eqI_t Is.zero Is.zero rfl w
  have HO : Hid (¬ (-57896044618658097711785492504343953926634992332820282019728792003956564819968 ≤ gcdI (abs x) (abs y) ∧ gcdI (abs x) (abs y) < 57896044618658097711785492504343953926634992332820282019728792003956564819968)) := ho
  clear ho
  rcases hv with ⟨ha, hb⟩
  rcases ha with ha | ha <;> rcases hb with hb | hb
  · have hexl : ∀ w, (Op.equalIn 10000 24 (.agg #[.int .u64 x0, .int .u64 x1, .int .u64 x2, .int .u64 x3]) (.agg #[.int .u64 0, .int .u64 0, .int .u64 0, .int .u64 9223372036854775808])).run Try.prog w = .ok true w := fun w => eqI_t hx.1 is_least (by omega) w
    have heyl : ∀ w, (Op.equalIn 10000 24 (.agg #[.int .u64 y0, .int .u64 y1, .int .u64 y2, .int .u64 y3]) (.agg #[.int .u64 0, .int .u64 0, .int .u64 0, .int .u64 9223372036854775808])).run Try.prog w = .ok true w := fun w => eqI_t hy.1 is_least (by omega) w
    clear ha hb hx hy
    go_enter Try.func8, Try.ntmps8
    go_wp2_with fail
    refine (CC _).mono ?_
    rintro e w1 ⟨s0, s1, s2, s3, ok, rfl, hT, os1, n1, rfl⟩
    obtain ⟨rfl, rfl, rfl, rfl, rfl⟩ : ok = false ∧ s0 = 0 ∧ s1 = 0 ∧ s2 = 0 ∧ s3 = 0 := by
      rcases hT with ⟨_, h⟩ | ⟨h1, _, h2⟩
      · exact absurd h.2 HO.out
      · exact ⟨h1, h2⟩
    clear hT
    go_wp2_with fail
    refine (CA _).mono ?_
    rintro e w1 ⟨rfl, osa, na, rfl⟩
    go_wp2
    go_ret
    exact ⟨rfl, (by with_reducible repeat (first | exact IsGr.refl _ | refine IsGr.gr ?_ _ _ | refine IsGr.alloc ?_ _ | refine IsGr.drew ?_ | refine IsGr.drewN ?_ _))⟩
  · have hexl : ∀ w, (Op.equalIn 10000 24 (.agg #[.int .u64 x0, .int .u64 x1, .int .u64 x2, .int .u64 x3]) (.agg #[.int .u64 0, .int .u64 0, .int .u64 0, .int .u64 9223372036854775808])).run Try.prog w = .ok true w := fun w => eqI_t hx.1 is_least (by omega) w
    have heyl : ∀ w, (Op.equalIn 10000 24 (.agg #[.int .u64 y0, .int .u64 y1, .int .u64 y2, .int .u64 y3]) (.agg #[.int .u64 0, .int .u64 0, .int .u64 0, .int .u64 9223372036854775808])).run Try.prog w = .ok false w := fun w => eqI_f hy.1 is_least (by omega) w
    have heyz : ∀ w, (Op.equalIn 10000 24 (.agg #[.int .u64 y0, .int .u64 y1, .int .u64 y2, .int .u64 y3]) (.agg #[.int .u64 0, .int .u64 0, .int .u64 0, .int .u64 0])).run Try.prog w = .ok true w := fun w => eqI_t hy.1 Is.zero (by omega) w
    clear ha hb hx hy
    go_enter Try.func8, Try.ntmps8
    go_wp2_with fail
    refine (CC _).mono ?_
    rintro e w1 ⟨s0, s1, s2, s3, ok, rfl, hT, os1, n1, rfl⟩
    obtain ⟨rfl, rfl, rfl, rfl, rfl⟩ : ok = false ∧ s0 = 0 ∧ s1 = 0 ∧ s2 = 0 ∧ s3 = 0 := by
      rcases hT with ⟨_, h⟩ | ⟨h1, _, h2⟩
      · exact absurd h.2 HO.out
      · exact ⟨h1, h2⟩
    clear hT
    go_wp2_with fail
    refine (CA _).mono ?_
    rintro e w1 ⟨rfl, osa, na, rfl⟩
    go_wp2
    go_ret
    exact ⟨rfl, (by with_reducible repeat (first | exact IsGr.refl _ | refine IsGr.gr ?_ _ _ | refine IsGr.alloc ?_ _ | refine IsGr.drew ?_ | refine IsGr.drewN ?_ _))⟩
  · have hexl : ∀ w, (Op.equalIn 10000 24 (.agg #[.int .u64 x0, .int .u64 x1, .int .u64 x2, .int .u64 x3]) (.agg #[.int .u64 0, .int .u64 0, .int .u64 0, .int .u64 9223372036854775808])).run Try.prog w = .ok false w := fun w => eqI_f hx.1 is_least (by omega) w
    have hexz : ∀ w, (Op.equalIn 10000 24 (.agg #[.int .u64 x0, .int .u64 x1, .int .u64 x2, .int .u64 x3]) (.agg #[.int .u64 0, .int .u64 0, .int .u64 0, .int .u64 0])).run Try.prog w = .ok true w := fun w => eqI_t hx.1 Is.zero (by omega) w
    have heyl : ∀ w, (Op.equalIn 10000 24 (.agg #[.int .u64 y0, .int .u64 y1, .int .u64 y2, .int .u64 y3]) (.agg #[.int .u64 0, .int .u64 0, .int .u64 0, .int .u64 9223372036854775808])).run Try.prog w = .ok true w := fun w => eqI_t hy.1 is_least (by omega) w
    clear ha hb hx hy
    go_enter Try.func8, Try.ntmps8
    go_wp2_with fail
    refine (CC _).mono ?_
    rintro e w1 ⟨s0, s1, s2, s3, ok, rfl, hT, os1, n1, rfl⟩
    obtain ⟨rfl, rfl, rfl, rfl, rfl⟩ : ok = false ∧ s0 = 0 ∧ s1 = 0 ∧ s2 = 0 ∧ s3 = 0 := by
      rcases hT with ⟨_, h⟩ | ⟨h1, _, h2⟩
      · exact absurd h.2 HO.out
      · exact ⟨h1, h2⟩
    clear hT
    go_wp2_with fail
    refine (CA _).mono ?_
    rintro e w1 ⟨rfl, osa, na, rfl⟩
    go_wp2
    go_ret
    exact ⟨rfl, (by with_reducible repeat (first | exact IsGr.refl _ | refine IsGr.gr ?_ _ _ | refine IsGr.alloc ?_ _ | refine IsGr.drew ?_ | refine IsGr.drewN ?_ _))⟩
  · have hexl : ∀ w, (Op.equalIn 10000 24 (.agg #[.int .u64 x0, .int .u64 x1, .int .u64 x2, .int .u64 x3]) (.agg #[.int .u64 0, .int .u64 0, .int .u64 0, .int .u64 9223372036854775808])).run Try.prog w = .ok false w := fun w => eqI_f hx.1 is_least (by omega) w
    have hexz : ∀ w, (Op.equalIn 10000 24 (.agg #[.int .u64 x0, .int .u64 x1, .int .u64 x2, .int .u64 x3]) (.agg #[.int .u64 0, .int .u64 0, .int .u64 0, .int .u64 0])).run Try.prog w = .ok true w := fun w => eqI_t hx.1 Is.zero (by omega) w
    have heyl : ∀ w, (Op.equalIn 10000 24 (.agg #[.int .u64 y0, .int .u64 y1, .int .u64 y2, .int .u64 y3]) (.agg #[.int .u64 0, .int .u64 0, .int .u64 0, .int .u64 9223372036854775808])).run Try.prog w = .ok false w := fun w => eqI_f hy.1 is_least (by omega) w
    have heyz : ∀ w, (Op.equalIn 10000 24 (.agg #[.int .u64 y0, .int .u64 y1, .int .u64 y2, .int .u64 y3]) (.agg #[.int .u64 0, .int .u64 0, .int .u64 0, .int .u64 0])).run Try.prog w = .ok true w := fun w => eqI_t hy.1 Is.zero (by omega) w
    clear ha hb hx hy
    go_enter Try.func8, Try.ntmps8
    go_wp2_with fail
    refine (CC _).mono ?_
    rintro e w1 ⟨s0, s1, s2, s3, ok, rfl, hT, os1, n1, rfl⟩
    obtain ⟨rfl, rfl, rfl, rfl, rfl⟩ : ok = false ∧ s0 = 0 ∧ s1 = 0 ∧ s2 = 0 ∧ s3 = 0 := by
      rcases hT with ⟨_, h⟩ | ⟨h1, _, h2⟩
      · exact absurd h.2 HO.out
      · exact ⟨h1, h2⟩
    clear hT
    go_wp2_with fail
    refine (CA _).mono ?_
    rintro e w1 ⟨rfl, osa, na, rfl⟩
    go_wp2
    go_ret
    exact ⟨rfl, (by with_reducible repeat (first | exact IsGr.refl _ | refine IsGr.gr ?_ _ _ | refine IsGr.alloc ?_ _ | refine IsGr.drew ?_ | refine IsGr.drewN ?_ _))⟩

set_option maxRecDepth 20000 in set_option maxHeartbeats 8000000 in
theorem common_zero (x0 x1 x2 x3 y0 y1 y2 y3 z0 z1 z2 z3 : Int) (hx : IsI x0 x1 x2 x3 0) (hy : IsI y0 y1 y2 y3 0) (w : World) :
    Calls Try.prog 8 #[.agg #[.int .u64 x0, .int .u64 x1, .int .u64 x2, .int .u64 x3], .agg #[.int .u64 y0, .int .u64 y1, .int .u64 y2, .int .u64 y3], .agg #[.int .u64 z0, .int .u64 z1, .int .u64 z2, .int .u64 z3]] w fun e w' => e = .returned (.bool true) ∧ IsGr w w' := by
  have CA := fun w => awake_any w
  have CC := fun w => Common_any x0 x1 x2 x3 0 y0 y1 y2 y3 0 hx hy w
  rw [show gcdI (abs 0) (abs 0) = 0 by decide] at CC
  have hex := fun w => eqI_t hx.1 Is.zero rfl w
  have hey := fun w => eqI_t hy.1 Is.zero rfl w
  go_enter Try.func8, Try.ntmps8
  go_wp2_with fail
  refine (CC _).mono ?_
  rintro e w1 ⟨s0, s1, s2, s3, ok, rfl, hT, os1, n1, rfl⟩
  obtain ⟨rfl, hs⟩ := told_of hT (by omega)
  have hes := fun w => eqI_t hs.1 Is.zero rfl w
  clear hT hs hx hy
  go_wp2_with fail
  refine (CA _).mono ?_
  rintro e w1 ⟨rfl, osa, na, rfl⟩
  go_wp2
  go_ret
  exact ⟨rfl, (by with_reducible repeat (first | exact IsGr.refl _ | refine IsGr.gr ?_ _ _ | refine IsGr.alloc ?_ _ | refine IsGr.drew ?_ | refine IsGr.drewN ?_ _))⟩
end Go.Proofs.Ytjgkmhgaacallaa
