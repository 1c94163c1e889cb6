/- Contracts of package wide over the loaded program: the greatest number that divides two. -/
import Derived.Test.YtecohcgcffhlnaaW10
import Derived.Deep.LoopGhost
namespace Go.Proofs.Ytecohcgcffhlnaa
open Go.RowKit Go.Shelf
attribute [local go_sem] Gr.size Gr.cell? Gr.frozen? Gr.setCell Gr.drew Gr.drewN Gr.of_drew Gr.of_drewN Gr.gr Gr.lt_of1 Gr.le_of1 Gr.lt_of2 Gr.le_of2 Gr.lt_of3 Gr.le_of3 Gr.lt_of4 Gr.le_of4 Gr.lt_of5 Gr.le_of5 Gr.lt_of6 Gr.le_of6 Gr.lt_of7 Gr.le_of7 Gr.lt_of8 Gr.le_of8

/-- The greatest number that divides two that are not below 0. -/
def gcdI (x y : Int) : Int := ((Nat.gcd x.toNat y.toNat : Nat) : Int)
theorem gcdI_zero {x : Int} (h : 0 ≤ x) : gcdI x 0 = x := by
  unfold gcdI
  rw [show (0 : Int).toNat = 0 from rfl, Nat.gcd_zero_right]
  exact Int.toNat_of_nonneg h
theorem gcdI_step {x y : Int} (hx : 0 ≤ x) (hy : 0 < y) : gcdI y (x % y) = gcdI x y := by
  unfold gcdI
  rw [Int.toNat_emod hx (Int.le_of_lt hy), Nat.gcd_comm x.toNat y.toNat, Nat.gcd_rec y.toNat x.toNat, Nat.gcd_comm]


set_option maxHeartbeats 8000000 in
theorem Common_any (x0 x1 x2 x3 x y0 y1 y2 y3 y : Int) (hx : IsI x0 x1 x2 x3 x) (hy : IsI y0 y1 y2 y3 y) (w : World) :
    Calls Try.prog 85 #[.agg #[.int .u64 x0, .int .u64 x1, .int .u64 x2, .int .u64 x3], .agg #[.int .u64 y0, .int .u64 y1, .int .u64 y2, .int .u64 y3]] w fun e w' => ∃ (s0 s1 s2 s3 : Int) (ok : Bool), e = .returned (.tuple #[.agg #[.int .u64 s0, .int .u64 s1, .int .u64 s2, .int .u64 s3], .bool ok]) ∧ Told (gcdI (abs x) (abs y)) s0 s1 s2 s3 ok ∧ IsGr w w' := by
  have SX := fun w => sizeOf_abs hx w
  have SY := fun w => sizeOf_abs hy w
  have HA : Hid (0 ≤ abs x ∧ 0 ≤ abs y) := by unfold Hid abs; split <;> split <;> omega
  clear hx hy
  go_enter Try.func85, Try.ntmps85
  go_upto_region 1 with fail
  go_cut [6, 7] (fun t6 t7 wr => ∃ (a b : Nat) (p0 p1 p2 p3 r0 r1 r2 r3 : Int), t6 = .pointer (some ⟨a, 0, none⟩) ∧ t7 = .pointer (some ⟨b, 0, none⟩) ∧ Is p0 p1 p2 p3 (abs x) ∧ Is r0 r1 r2 r3 (abs y) ∧ (TwoB (((w.alloc (.cells #[.int .u64 x0, .int .u64 x1, .int .u64 x2, .int .u64 x3] 24)).alloc (.cells #[.int .u64 y0, .int .u64 y1, .int .u64 y2, .int .u64 y3] 24)).alloc (.cells #[.int .u64 0, .int .u64 0, .int .u64 0, .int .u64 0] 24)) (.cells #[.int .u64 p0, .int .u64 p1, .int .u64 p2, .int .u64 p3] 111) (.cells #[.int .u64 r0, .int .u64 r1, .int .u64 r2, .int .u64 r3] 111) a b wr ∨ TwoB (((w.alloc (.cells #[.int .u64 x0, .int .u64 x1, .int .u64 x2, .int .u64 x3] 24)).alloc (.cells #[.int .u64 y0, .int .u64 y1, .int .u64 y2, .int .u64 y3] 24)).alloc (.cells #[.int .u64 0, .int .u64 0, .int .u64 0, .int .u64 0] 24)) (.cells #[.int .u64 r0, .int .u64 r1, .int .u64 r2, .int .u64 r3] 111) (.cells #[.int .u64 p0, .int .u64 p1, .int .u64 p2, .int .u64 p3] 111) b a wr))
  case first =>
    go_region_held3 (fun w' => (w'.cell? ⟨w.heap.size, 0, none⟩ = some (.int .u64 x0) ∧ w'.cell? ⟨w.heap.size, 1, none⟩ = some (.int .u64 x1) ∧ w'.cell? ⟨w.heap.size, 2, none⟩ = some (.int .u64 x2) ∧ w'.cell? ⟨w.heap.size, 3, none⟩ = some (.int .u64 x3)) ∧ (w'.cell? ⟨w.heap.size + 1, 0, none⟩ = some (.int .u64 y0) ∧ w'.cell? ⟨w.heap.size + 1, 1, none⟩ = some (.int .u64 y1) ∧ w'.cell? ⟨w.heap.size + 1, 2, none⟩ = some (.int .u64 y2) ∧ w'.cell? ⟨w.heap.size + 1, 3, none⟩ = some (.int .u64 y3))) (simp [go_sem])
      ((first | (go_at_call_of 88 (Value.int IntKind.u64 x0); refine (SX _).mono ?_; rintro e w1 ⟨p0, p1, p2, p3, rfl, hp, os2, n2, rfl⟩) | (go_at_call_of 88 (Value.int IntKind.u64 y0); refine (SY _).mono ?_; rintro e w1 ⟨r0, r1, r2, r3, rfl, hr, os3, n3, rfl⟩)))
    all_goals
      go_wp2
      go_meet
      case rel =>
        refine ⟨_, _, p0, p1, p2, p3, r0, r1, r2, r3, rfl, rfl, hp, hr, ?_⟩
        first
          | (refine Or.inl ?_; (with_reducible apply TwoB.t1) <;> (simp; done))
          | (refine Or.inl ?_; (with_reducible apply TwoB.t2) <;> (simp; done))
          | (refine Or.inl ?_; (with_reducible apply TwoB.t3) <;> (simp; done))
          | (refine Or.inl ?_; (with_reducible apply TwoB.t4) <;> (simp; done))
          | (refine Or.inl ?_; (with_reducible apply TwoB.t5) <;> (simp; done))
          | (refine Or.inl ?_; (with_reducible apply TwoB.t6) <;> (simp; done))
          | (refine Or.inl ?_; (with_reducible apply TwoB.t7) <;> (simp; done))
          | (refine Or.inr ?_; (with_reducible apply TwoB.t1) <;> (simp; done))
          | (refine Or.inr ?_; (with_reducible apply TwoB.t2) <;> (simp; done))
          | (refine Or.inr ?_; (with_reducible apply TwoB.t3) <;> (simp; done))
          | (refine Or.inr ?_; (with_reducible apply TwoB.t4) <;> (simp; done))
          | (refine Or.inr ?_; (with_reducible apply TwoB.t5) <;> (simp; done))
          | (refine Or.inr ?_; (with_reducible apply TwoB.t6) <;> (simp; done))
          | (refine Or.inr ?_; (with_reducible apply TwoB.t7) <;> (simp; done))
  case rest =>
    obtain ⟨ta, tb, p0, p1, p2, p3, r0, r1, r2, r3, rfl, rfl, hp, hr, hcase⟩ := hcut
    rcases hcase with ⟨os, n, os', n', os'', n'', ha, hb, rfl⟩ | ⟨os, n, os', n', os'', n'', hb, ha, rfl⟩
    all_goals
      simp only [World.size_alloc] at ha hb
      subst ha hb
    · go_wp2
      go_loopg [] (abs y).toNat (fun k wr => ∃ (u0 u1 u2 u3 v0 v1 v2 v3 U V : Int) (o3 : Array Obj) (n3 : Nat), k = V.toNat ∧ Is u0 u1 u2 u3 U ∧ Is v0 v1 v2 v3 V ∧ Hid (gcdI U V = gcdI (abs x) (abs y)) ∧ 0 ≤ U ∧ 0 ≤ V ∧
        wr = Gr ((Gr ((Gr (((w.alloc (.cells #[.int .u64 x0, .int .u64 x1, .int .u64 x2, .int .u64 x3] 24)).alloc (.cells #[.int .u64 y0, .int .u64 y1, .int .u64 y2, .int .u64 y3] 24)).alloc (.cells #[.int .u64 0, .int .u64 0, .int .u64 0, .int .u64 0] 24)) os n).alloc (.cells #[.int .u64 u0, .int .u64 u1, .int .u64 u2, .int .u64 u3] 111)) os' n').alloc (.cells #[.int .u64 v0, .int .u64 v1, .int .u64 v2, .int .u64 v3] 111)) o3 n3)
      case atStart => exact ⟨p0, p1, p2, p3, r0, r1, r2, r3, abs x, abs y, os'', n'', rfl, hp, hr, rfl, HA.out.1, HA.out.2, rfl⟩
      case round =>
        obtain ⟨u0, u1, u2, u3, v0, v1, v2, v3, U, V, o3, n3, rfl, hu, hv, HG, U0, V0, rfl⟩ := hrel
        by_cases hV : V = 0
        · subst hV
          have he : ∀ w, (Op.equalIn 10000 111 (.agg #[.int .u64 v0, .int .u64 v1, .int .u64 v2, .int .u64 v3]) (.agg #[.int .u64 0, .int .u64 0, .int .u64 0, .int .u64 0])).run Try.prog w = .ok true w := fun w => by rw [eqS hv Is.zero]; simp
          have CS := fun w => signed_told u0 u1 u2 u3 U false hu w
          rw [show sgn false U = gcdI (abs x) (abs y) by rw [← HG.out, gcdI_zero U0]; rfl] at CS
          go_wp2_with fail
          refine (CS _).mono ?_
          rintro e w1 ⟨s0, s1, s2, s3, ok, rfl, hT, os5, n5, rfl⟩
          go_wp2
          exact bodyPost_ret (v := .tuple #[.agg #[.int .u64 s0, .int .u64 s1, .int .u64 s2, .int .u64 s3], .bool ok]) (by simp [results, Try.results85, go_sem]) rfl ⟨s0, s1, s2, s3, ok, rfl, hT, (by with_reducible repeat (first | exact IsGr.refl _ | refine IsGr.gr ?_ _ _ | refine IsGr.alloc ?_ _ | refine IsGr.drew ?_ | refine IsGr.drewN ?_ _))⟩
        · have he : ∀ w, (Op.equalIn 10000 111 (.agg #[.int .u64 v0, .int .u64 v1, .int .u64 v2, .int .u64 v3]) (.agg #[.int .u64 0, .int .u64 0, .int .u64 0, .int .u64 0])).run Try.prog w = .ok false w := fun w => by rw [eqS hv Is.zero]; simp [hV]
          have CD := fun w => divided_any u0 u1 u2 u3 U v0 v1 v2 v3 V hu hv hV w
          have HN : Hid (gcdI V (U % V) = gcdI (abs x) (abs y) ∧ (U % V).toNat < V.toNat ∧ 0 ≤ U % V) := by
            have h1 := Int.emod_lt_of_pos U (show 0 < V by omega)
            have h2 := Int.emod_nonneg U hV
            exact ⟨(gcdI_step U0 (by omega)).trans HG.out, by omega, h2⟩
          clear hV
          go_wp2_with fail
          refine (CD _).mono ?_
          rintro e w1 ⟨q0, q1, q2, q3, r0, r1, r2, r3, rfl, hq, hr2, os4, n4, rfl⟩
          clear hq
          go_wp2
          go_region
          all_goals
            go_wp2
            go_roundg (U % V).toNat
            case rel => exact ⟨v0, v1, v2, v3, r0, r1, r2, r3, V, U % V, _, _, rfl, hv, hr2, HN.out.1, V0, HN.out.2.2, by rw [Gr.alloc, Gr.alloc, Gr.drew]⟩
            case measure => exact HN.out.2.1
    · go_wp2
      go_loopg [] (abs y).toNat (fun k wr => ∃ (u0 u1 u2 u3 v0 v1 v2 v3 U V : Int) (o3 : Array Obj) (n3 : Nat), k = V.toNat ∧ Is u0 u1 u2 u3 U ∧ Is v0 v1 v2 v3 V ∧ Hid (gcdI U V = gcdI (abs x) (abs y)) ∧ 0 ≤ U ∧ 0 ≤ V ∧
        wr = Gr ((Gr ((Gr (((w.alloc (.cells #[.int .u64 x0, .int .u64 x1, .int .u64 x2, .int .u64 x3] 24)).alloc (.cells #[.int .u64 y0, .int .u64 y1, .int .u64 y2, .int .u64 y3] 24)).alloc (.cells #[.int .u64 0, .int .u64 0, .int .u64 0, .int .u64 0] 24)) os n).alloc (.cells #[.int .u64 v0, .int .u64 v1, .int .u64 v2, .int .u64 v3] 111)) os' n').alloc (.cells #[.int .u64 u0, .int .u64 u1, .int .u64 u2, .int .u64 u3] 111)) o3 n3)
      case atStart => exact ⟨p0, p1, p2, p3, r0, r1, r2, r3, abs x, abs y, os'', n'', rfl, hp, hr, rfl, HA.out.1, HA.out.2, rfl⟩
      case round =>
        obtain ⟨u0, u1, u2, u3, v0, v1, v2, v3, U, V, o3, n3, rfl, hu, hv, HG, U0, V0, rfl⟩ := hrel
        by_cases hV : V = 0
        · subst hV
          have he : ∀ w, (Op.equalIn 10000 111 (.agg #[.int .u64 v0, .int .u64 v1, .int .u64 v2, .int .u64 v3]) (.agg #[.int .u64 0, .int .u64 0, .int .u64 0, .int .u64 0])).run Try.prog w = .ok true w := fun w => by rw [eqS hv Is.zero]; simp
          have CS := fun w => signed_told u0 u1 u2 u3 U false hu w
          rw [show sgn false U = gcdI (abs x) (abs y) by rw [← HG.out, gcdI_zero U0]; rfl] at CS
          go_wp2_with fail
          refine (CS _).mono ?_
          rintro e w1 ⟨s0, s1, s2, s3, ok, rfl, hT, os5, n5, rfl⟩
          go_wp2
          exact bodyPost_ret (v := .tuple #[.agg #[.int .u64 s0, .int .u64 s1, .int .u64 s2, .int .u64 s3], .bool ok]) (by simp [results, Try.results85, go_sem]) rfl ⟨s0, s1, s2, s3, ok, rfl, hT, (by with_reducible repeat (first | exact IsGr.refl _ | refine IsGr.gr ?_ _ _ | refine IsGr.alloc ?_ _ | refine IsGr.drew ?_ | refine IsGr.drewN ?_ _))⟩
        · have he : ∀ w, (Op.equalIn 10000 111 (.agg #[.int .u64 v0, .int .u64 v1, .int .u64 v2, .int .u64 v3]) (.agg #[.int .u64 0, .int .u64 0, .int .u64 0, .int .u64 0])).run Try.prog w = .ok false w := fun w => by rw [eqS hv Is.zero]; simp [hV]
          have CD := fun w => divided_any u0 u1 u2 u3 U v0 v1 v2 v3 V hu hv hV w
          have HN : Hid (gcdI V (U % V) = gcdI (abs x) (abs y) ∧ (U % V).toNat < V.toNat ∧ 0 ≤ U % V) := by
            have h1 := Int.emod_lt_of_pos U (show 0 < V by omega)
            have h2 := Int.emod_nonneg U hV
            exact ⟨(gcdI_step U0 (by omega)).trans HG.out, by omega, h2⟩
          clear hV
          go_wp2_with fail
          refine (CD _).mono ?_
          rintro e w1 ⟨q0, q1, q2, q3, r0, r1, r2, r3, rfl, hq, hr2, os4, n4, rfl⟩
          clear hq
          go_wp2
          go_region
          all_goals
            go_wp2
            go_roundg (U % V).toNat
            case rel => exact ⟨v0, v1, v2, v3, r0, r1, r2, r3, V, U % V, _, _, rfl, hv, hr2, HN.out.1, V0, HN.out.2.2, by rw [Gr.alloc, Gr.alloc, Gr.drew]⟩
            case measure => exact HN.out.2.1
end Go.Proofs.Ytecohcgcffhlnaa
