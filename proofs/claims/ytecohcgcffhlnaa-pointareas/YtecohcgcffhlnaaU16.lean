/- Contracts of package point over the loaded program: allowed, follower, Area. -/
import Derived.Test.YtecohcgcffhlnaaU7
namespace Go.Proofs.Ytecohcgcffhlnaa
open Go.RowKit Go.Shelf
attribute [local go_sem] Gr.size Gr.cell? Gr.frozen? Gr.setCell Gr.drew Gr.drewN Gr.of_drew Gr.of_drewN Gr.gr Gr.lt_of1 Gr.le_of1 Gr.lt_of2 Gr.le_of2 Gr.lt_of3 Gr.le_of3 Gr.lt_of4 Gr.le_of4 Gr.lt_of5 Gr.le_of5 Gr.lt_of6 Gr.le_of6 Gr.lt_of7 Gr.le_of7 Gr.lt_of8 Gr.le_of8 Gr.lt_of9 Gr.le_of9 Gr.lt_of10 Gr.le_of10 Gr.lt_of11 Gr.le_of11 Gr.lt_of12 Gr.le_of12 Gr.lt_of13 Gr.le_of13 Gr.lt_of14 Gr.le_of14 Gr.lt_of15 Gr.le_of15 Gr.lt_of16 Gr.le_of16 Gr.lt_of17 Gr.le_of17 Gr.lt_of18 Gr.le_of18 Gr.lt_of19 Gr.le_of19 Gr.lt_of20 Gr.le_of20 Gr.lt_of21 Gr.le_of21 Gr.lt_of22 Gr.le_of22 Gr.lt_of23 Gr.le_of23 Gr.lt_of24 Gr.le_of24

set_option maxRecDepth 20000 in set_option maxHeartbeats 2000000 in
theorem allowed_any (a : Option Addr) (n c : Nat) (l : List (Int × Int)) (w : World) (h : Pts w (.slice a n c) l) (hn : n ≤ 4096) :
    Calls Try.prog 73 #[.slice a n c] w fun e w' => e = .returned (.bool (allR l)) ∧ IsGr w w' := by
  have CA := fun w1 (hg : IsGr w w1) => allRight_any a n c l w1 (h.gr hg) (by omega)
  have hle : (n : Int) ≤ 4096 := by omega
  generalize allR l = B at CA
  clear h
  go_enter Try.func73, Try.ntmps73
  go_wp2_with fail
  refine (CA _ ?_).mono ?_
  · exact (by with_reducible repeat (first | exact IsGr.refl _ | refine IsGr.gr ?_ _ _ | refine IsGr.alloc ?_ _ | refine IsGr.drew ?_ | refine IsGr.drewN ?_ _))
  rintro e w1 ⟨rfl, os1, m1, rfl⟩
  go_wp2
  go_ret
  exact ⟨rfl, (by with_reducible repeat (first | exact IsGr.refl _ | refine IsGr.gr ?_ _ _ | refine IsGr.alloc ?_ _ | refine IsGr.drew ?_ | refine IsGr.drewN ?_ _))⟩

/-- The point behind the one at i, along the closed way. -/
def nextP (l : List (Int × Int)) (i : Nat) : Int × Int := l.getD ((i + 1) % l.length) (0, 0)

set_option maxRecDepth 20000 in set_option maxHeartbeats 2000000 in
theorem follower_any (a : Option Addr) (n c : Nat) (l : List (Int × Int)) (i : Nat) (w : World) (h : Pts w (.slice a n c) l) (hn : n ≤ 4096) (hi : i < n) :
    Calls Try.prog 74 #[.slice a n c, .int .i64 i] w fun e w' => e = .returned (.agg #[.int .i64 (nextP l i).1, .int .i64 (nextP l i).2]) ∧ IsGr w w' := by
  have hl := h.len
  obtain ⟨g, o, rfl, hgs, hc⟩ := h.at hi
  have hj : (i + 1) % n < n := Nat.mod_lt _ (by omega)
  obtain ⟨c1, c2⟩ := hc _ hj
  have e1 : l.getD ((i + 1) % n) (0, 0) = nextP l i := by rw [hl]; rfl
  rw [e1] at c1 c2
  have v1 : IntKind.i64.wrap ((i : Int) + 1) = (i : Int) + 1 := by rw [IntKind.wrap_i64]; omega
  have v2 : ((i : Int) + 1).tmod (n : Int) = (((i + 1) % n : Nat) : Int) := by
    rw [Int.tmod_eq_emod_of_nonneg (by omega)]; simp
  have n0 : ((n : Int) == 0) = false := by simp; omega
  have hjn : (((i + 1) % n : Nat) : Int) < n := by omega
  generalize (nextP l i).1 = x at *
  generalize (nextP l i).2 = y at *
  generalize (i + 1) % n = j at *
  clear hc h e1 hl
  go_enter Try.func74, Try.ntmps74
  go_wp2
  exact bodyPost_ret (v := .agg #[.int .i64 x, .int .i64 y]) (by simp [results, Try.results74, go_sem]) rfl ⟨rfl, (by with_reducible repeat (first | exact IsGr.refl _ | refine IsGr.gr ?_ _ _ | refine IsGr.alloc ?_ _ | refine IsGr.drew ?_ | refine IsGr.drewN ?_ _))⟩

/-- Twice the area of the first k triangles that the origin sees. -/
def areaK (l : List (Int × Int)) : Nat → Int
  | 0 => 0
  | k + 1 => areaK l k + turnI 0 0 (l.getD k (0, 0)).1 (l.getD k (0, 0)).2 (nextP l k).1 (nextP l k).2
/-- What Area answers. -/
def AreaT (l : List (Int × Int)) (s0 s1 s2 s3 : Int) (ok : Bool) : Prop :=
  (allR l = true ∧ ok = true ∧ IsI s0 s1 s2 s3 (areaK l l.length)) ∨ (allR l = false ∧ ok = false ∧ s0 = 0 ∧ s1 = 0 ∧ s2 = 0 ∧ s3 = 0)
theorem allR_get {l : List (Int × Int)} (h : allR l = true) (i : Nat) : rightP (l.getD i (0, 0)).1 (l.getD i (0, 0)).2 = true := by
  simp only [allR, List.all_eq_true] at h
  by_cases hi : i < l.length
  · have := h l[i] (List.getElem_mem hi)
    simpa [List.getD, hi] using this
  · have : l.getD i (0, 0) = (0, 0) := by simp [List.getD, Nat.le_of_not_lt hi]
    rw [this]; rfl
theorem areaK_bound {l : List (Int × Int)} (h : allR l = true) : ∀ k, -(38685626227668133590597632 * k) ≤ areaK l k ∧ areaK l k ≤ 38685626227668133590597632 * k
  | 0 => by simp [areaK]
  | k + 1 => by
    have h1 := areaK_bound h k
    have h2 := turn_bound (a1 := 0) (a2 := 0) rfl (allR_get h k) (allR_get h ((k + 1) % l.length))
    unfold areaK nextP
    omega


set_option maxRecDepth 20000 in set_option maxHeartbeats 2000000 in
theorem Area_any (a : Option Addr) (n c : Nat) (l : List (Int × Int)) (w : World) (h : Pts w (.slice a n c) l) (hn : n ≤ 4096) :
    Calls Try.prog 37 #[.slice a n c] w fun e w' => ∃ (s0 s1 s2 s3 : Int) (ok : Bool), e = .returned (.tuple #[.agg #[.int .u64 s0, .int .u64 s1, .int .u64 s2, .int .u64 s3], .bool ok]) ∧ AreaT l s0 s1 s2 s3 ok ∧ IsGr w w' := by
  have hl := h.len
  have CA := fun w1 (hg : IsGr w w1) => allowed_any a n c l w1 (h.gr hg) hn
  cases hR : allR l with
  | false =>
    rw [hR] at CA
    have HT : Hid (AreaT l 0 0 0 0 false) := Or.inr ⟨hR, rfl, rfl, rfl, rfl, rfl⟩
    clear h hl hR hn
    go_enter Try.func37, Try.ntmps37
    go_wp2_with fail
    refine (CA _ ?_).mono ?_
    · exact (by with_reducible repeat (first | exact IsGr.refl _ | refine IsGr.gr ?_ _ _ | refine IsGr.alloc ?_ _ | refine IsGr.drew ?_ | refine IsGr.drewN ?_ _))
    rintro e w1 ⟨rfl, os1, m1, rfl⟩
    go_wp2
    exact bodyPost_ret (v := .tuple #[.agg #[.int .u64 0, .int .u64 0, .int .u64 0, .int .u64 0], .bool false]) (by simp [results, Try.results37, go_sem]) rfl ⟨0, 0, 0, 0, false, rfl, HT.out, (by with_reducible repeat (first | exact IsGr.refl _ | refine IsGr.gr ?_ _ _ | refine IsGr.alloc ?_ _ | refine IsGr.drew ?_ | refine IsGr.drewN ?_ _))⟩
  | true =>
    rw [hR] at CA
    have HR : Hid (allR l = true) := hR
    have HL : Hid (n = l.length) := hl
    have HP : Hid (Pts w (.slice a n c) l) := h
    have Hn : Hid (n ≤ 4096) := hn
    clear h hl hR hn
    go_enter Try.func37, Try.ntmps37
    go_wp2_with fail
    refine (CA _ ?_).mono ?_
    · exact (by with_reducible repeat (first | exact IsGr.refl _ | refine IsGr.gr ?_ _ _ | refine IsGr.alloc ?_ _ | refine IsGr.drew ?_ | refine IsGr.drewN ?_ _))
    rintro e w1 ⟨rfl, os1, m1, rfl⟩
    go_upto_region 3 with fail
    go_cut [4] (fun t4 wr => ∃ (h : Nat), t4 = .pointer (some ⟨h, 0, none⟩) ∧ w.heap.size < h ∧ h < wr.heap.size ∧ (wr.cell? ⟨h, 0, none⟩ = some (.int .u64 0) ∧ wr.cell? ⟨h, 1, none⟩ = some (.int .u64 0) ∧ wr.cell? ⟨h, 2, none⟩ = some (.int .u64 0) ∧ wr.cell? ⟨h, 3, none⟩ = some (.int .u64 0)) ∧ (wr.frozen? ⟨h, 0, none⟩ = false ∧ wr.frozen? ⟨h, 1, none⟩ = false ∧ wr.frozen? ⟨h, 2, none⟩ = false ∧ wr.frozen? ⟨h, 3, none⟩ = false) ∧ (wr.cell? ⟨w.heap.size, 0, none⟩ = some (.int .u64 0) ∧ wr.cell? ⟨w.heap.size, 1, none⟩ = some (.int .u64 0) ∧ wr.cell? ⟨w.heap.size, 2, none⟩ = some (.int .u64 0) ∧ wr.cell? ⟨w.heap.size, 3, none⟩ = some (.int .u64 0)) ∧ (wr.frozen? ⟨w.heap.size, 0, none⟩ = false ∧ wr.frozen? ⟨w.heap.size, 1, none⟩ = false ∧ wr.frozen? ⟨w.heap.size, 2, none⟩ = false ∧ wr.frozen? ⟨w.heap.size, 3, none⟩ = false) ∧ Below w.heap.size w wr)
    case first =>
      go_wp2
      go_meet
      case rel =>
        refine ⟨_, rfl, ?_, ?_, ?_, ?_, ?_, ?_, IsGr.below (w := w) (by with_reducible repeat (first | exact IsGr.refl _ | refine IsGr.gr ?_ _ _ | refine IsGr.alloc ?_ _ | refine IsGr.drew ?_ | refine IsGr.drewN ?_ _))⟩
        · first | omega | (simp [Gr.size]; done) | (simp [Gr.size]; omega)
        · first | omega | (simp [Gr.size]; done) | (simp [Gr.size]; omega)
        all_goals simp [go_sem]
    case rest =>
      obtain ⟨h, rfl, k0, kh, ⟨z0, z1, z2, z3⟩, ⟨f0, f1, f2, f3⟩, ⟨r0, r1, r2, r3⟩, ⟨d0, d1, d2, d3⟩, hbe⟩ := hcut
      obtain ⟨W1, hW1⟩ : ∃ W1, W1 = wc := ⟨_, rfl⟩
      subst hW1
      have HBe : Hid (Below w.heap.size w W1) := hbe
      have N4 : Hid (w.heap.size < h ∧ h < W1.heap.size) := ⟨k0, kh⟩
      clear hbe kh CA
      go_wp2
      go_loopw [13] (fun t13 wr => ∃ (k : Nat) (s0 s1 s2 s3 : Int), k ≤ n ∧ t13 = .int .i64 k ∧ IsI s0 s1 s2 s3 (areaK l k) ∧ (wr.cell? ⟨h, 0, none⟩ = some (.int .u64 s0) ∧ wr.cell? ⟨h, 1, none⟩ = some (.int .u64 s1) ∧ wr.cell? ⟨h, 2, none⟩ = some (.int .u64 s2) ∧ wr.cell? ⟨h, 3, none⟩ = some (.int .u64 s3)) ∧ (wr.frozen? ⟨h, 0, none⟩ = false ∧ wr.frozen? ⟨h, 1, none⟩ = false ∧ wr.frozen? ⟨h, 2, none⟩ = false ∧ wr.frozen? ⟨h, 3, none⟩ = false) ∧ (wr.cell? ⟨w.heap.size, 0, none⟩ = some (.int .u64 0) ∧ wr.cell? ⟨w.heap.size, 1, none⟩ = some (.int .u64 0) ∧ wr.cell? ⟨w.heap.size, 2, none⟩ = some (.int .u64 0) ∧ wr.cell? ⟨w.heap.size, 3, none⟩ = some (.int .u64 0)) ∧ (wr.frozen? ⟨w.heap.size, 0, none⟩ = false ∧ wr.frozen? ⟨w.heap.size, 1, none⟩ = false ∧ wr.frozen? ⟨w.heap.size, 2, none⟩ = false ∧ wr.frozen? ⟨w.heap.size, 3, none⟩ = false) ∧ Hid (h < wr.heap.size ∧ Below w.heap.size w wr)) (fun t13 _ => (n - intOf t13).toNat)
      case atStart => exact ⟨0, 0, 0, 0, 0, by omega, rfl, IsI.zero, ⟨z0, z1, z2, z3⟩, ⟨f0, f1, f2, f3⟩, ⟨r0, r1, r2, r3⟩, ⟨d0, d1, d2, d3⟩, ⟨N4.out.2, HBe.out⟩⟩
      case round =>
        clear z0 z1 z2 z3 f0 f1 f2 f3 r0 r1 r2 r3 d0 d1 d2 d3
        obtain ⟨k, s0, s1, s2, s3, hk, rfl, hs, ⟨z0, z1, z2, z3⟩, ⟨f0, f1, f2, f3⟩, ⟨r0, r1, r2, r3⟩, ⟨d0, d1, d2, d3⟩, HW⟩ := hrel
        obtain ⟨W2, hW2⟩ : ∃ W2, W2 = wr := ⟨_, rfl⟩
        subst hW2
        have kh : h < W2.heap.size := HW.out.1
        have ka : w.heap.size < W2.heap.size := by omega
        have n1 : ¬ h = w.heap.size := by omega
        have n2 : ¬ w.heap.size = h := by omega
        by_cases hkn : k < n
        · have hP := HP.out.gr (IsGr.of_below HW.out.2)
          have CF := fun w1 (hg : IsGr W2 w1) => follower_any _ n c l k w1 (hP.gr hg) Hn.out hkn
          have CT := fun w => turn_any 0 0 (l.getD k (0, 0)).1 (l.getD k (0, 0)).2 (nextP l k).1 (nextP l k).2 rfl (allR_get HR.out k) (allR_get HR.out _) w
          have CM : ∀ (y0 y1 y2 y3 : Int) (_ : IsI y0 y1 y2 y3 (turnI 0 0 (l.getD k (0, 0)).1 (l.getD k (0, 0)).2 (nextP l k).1 (nextP l k).2)) w, Calls Try.prog 62 #[.agg #[.int .u64 s0, .int .u64 s1, .int .u64 s2, .int .u64 s3], .agg #[.int .u64 y0, .int .u64 y1, .int .u64 y2, .int .u64 y3]] w fun e w' => ∃ t0 t1 t2 t3 : Int, e = .returned (.agg #[.int .u64 t0, .int .u64 t1, .int .u64 t2, .int .u64 t3]) ∧ IsI t0 t1 t2 t3 (areaK l (k + 1)) ∧ IsGr w w' := fun y0 y1 y2 y3 hy w => by
            refine sum_any s0 s1 s2 s3 _ y0 y1 y2 y3 _ hs hy ?_ w
            have := areaK_bound HR.out (k + 1)
            have hn := Hn.out
            unfold areaK at this
            omega
          obtain ⟨g, o, rfl, hgs, hc⟩ := hP.at hkn
          obtain ⟨c1, c2⟩ := hc k hkn
          have hkn' : (k : Int) < n := by omega
          have v1 : IntKind.i64.wrap ((k : Int) + 1) = (k : Int) + 1 := by have := Hn.out; rw [IntKind.wrap_i64]; omega
          obtain ⟨A1, HA⟩ : ∃ A, Hid (A = areaK l (k + 1)) := ⟨_, rfl⟩
          rw [← HA.out] at CM
          generalize turnI 0 0 (l.getD k (0, 0)).1 (l.getD k (0, 0)).2 (nextP l k).1 (nextP l k).2 = T at CT CM
          generalize (l.getD k (0, 0)).1 = x at *
          generalize (l.getD k (0, 0)).2 = y at *
          generalize (nextP l k).1 = u at *
          generalize (nextP l k).2 = v at *
          have HB2 : Hid (Below w.heap.size w W2) := HW.out.2
          clear hc hP hs HW
          go_upto_region 7 with fail
          refine wp_region_but (S := (fun w' => (w'.cell? ⟨h, 0, none⟩ = some (.int .u64 s0) ∧ w'.cell? ⟨h, 1, none⟩ = some (.int .u64 s1) ∧ w'.cell? ⟨h, 2, none⟩ = some (.int .u64 s2) ∧ w'.cell? ⟨h, 3, none⟩ = some (.int .u64 s3)) ∧ (w'.cell? ⟨W2.heap.size, 0, none⟩ = some (.int .i64 x) ∧ w'.cell? ⟨W2.heap.size, 1, none⟩ = some (.int .i64 y)))) (k := 8) (n := 8) (by kernel_rfl) (by kernel_rfl) (by (try dsimp only); simp [go_sem, z0, z1, z2, z3, kh]) (fun hHeld => ?_)
          refine wpAnyH_take (i := 0) (oi := { dst := some 18, op := Op.load 24 (Operand.tmp 4), type := 24, pos := "way.go:23", after := #[], guard := none }) (v := ?_) rfl (by kernel_rfl) (by kernel_rfl) (by kernel_rfl) (fun _ _ _ h => h) (Or.inl ⟨by rfl, ?_⟩) (by assumption) ?_
          rotate_left
          · (intro w hSw; (try dsimp only at hSw); go_simp <;> with_reducible rfl)
          (try simp only [Act.put, List.setIfInBounds_toArray, List.set_cons_zero, List.set_cons_succ])
          refine wpAnyH_take (i := 1) (oi := { dst := some 19, op := Op.build 50 #[], type := 50, pos := "way.go:23", after := #[], guard := none }) (v := ?_) rfl (by kernel_rfl) (by kernel_rfl) (by kernel_rfl) (fun _ _ _ h => h) (Or.inl ⟨by rfl, ?_⟩) (by assumption) ?_
          rotate_left
          · (intro w hSw; (try dsimp only at hSw); go_simp <;> with_reducible rfl)
          (try simp only [Act.put, List.setIfInBounds_toArray, List.set_cons_zero, List.set_cons_succ])
          refine wpAnyH_take (i := 2) (oi := { dst := some 20, op := Op.load 50 (Operand.tmp 6), type := 50, pos := "way.go:23", after := #[], guard := none }) (v := ?_) rfl (by kernel_rfl) (by kernel_rfl) (by kernel_rfl) (fun _ _ _ h => h) (Or.inl ⟨by rfl, ?_⟩) (by assumption) ?_
          rotate_left
          · (intro w hSw; (try dsimp only at hSw); go_simp <;> with_reducible rfl)
          (try simp only [Act.put, List.setIfInBounds_toArray, List.set_cons_zero, List.set_cons_succ])
          refine wpAnyH_take (i := 3) (oi := { dst := some 21, op := Op.move (Operand.tmp 0), type := 60, pos := "way.go:23", after := #[], guard := none }) (v := ?_) rfl (by kernel_rfl) (by kernel_rfl) (by kernel_rfl) (fun _ _ _ h => h) (Or.inl ⟨by rfl, ?_⟩) (by assumption) ?_
          rotate_left
          · (intro w hSw; (try dsimp only at hSw); go_simp <;> with_reducible rfl)
          (try simp only [Act.put, List.setIfInBounds_toArray, List.set_cons_zero, List.set_cons_succ])
          refine wpAnyH_take (i := 4) (oi := { dst := some 22, op := Op.move (Operand.tmp 5), type := 3, pos := "way.go:23", after := #[], guard := none }) (v := ?_) rfl (by kernel_rfl) (by kernel_rfl) (by kernel_rfl) (fun _ _ _ h => h) (Or.inl ⟨by rfl, ?_⟩) (by assumption) ?_
          rotate_left
          · (intro w hSw; (try dsimp only at hSw); go_simp <;> with_reducible rfl)
          (try simp only [Act.put, List.setIfInBounds_toArray, List.set_cons_zero, List.set_cons_succ])
          refine wpAnyH_ready (rs := [5]) (by kernel_rfl) (by simp) ?_
          refine AllReadyH.cons (o := { dst := some 23, op := Op.call { callee := Callee.value (Operand.func 74), args := #[Operand.tmp 21, Operand.tmp 22], argTypes := #[60, 3] }, type := 50, pos := "way.go:23", after := #[{ on := 3, ground := Ground.data }, { on := 4, ground := Ground.data }], guard := none }) rfl (fun K hK => ?_) ?_
          · go_simp
            refine (CF _ ?_).mono ?_
            · exact (by with_reducible repeat (first | exact IsGr.refl _ | refine IsGr.gr ?_ _ _ | refine IsGr.alloc ?_ _ | refine IsGr.drew ?_ | refine IsGr.drewN ?_ _))
            rintro e' w1 ⟨rfl, os1, m1, rfl⟩
            (try go_wp2_with fail)
            refine hK.out _ _ (by (try dsimp only); simp [go_sem, z0, z1, z2, z3, kh]) (fun hHeld2 => ?_)
            clear hK K hHeld
            have hHeld := hHeld2
            clear hHeld2
            (try simp only [Act.put, List.setIfInBounds_toArray, List.set_cons_zero, List.set_cons_succ])
            refine wpAnyH_ready (rs := [6]) (by kernel_rfl) (by simp) ?_
            refine AllReadyH.cons (o := { dst := some 24, op := Op.call { callee := Callee.value (Operand.func 65), args := #[Operand.tmp 19, Operand.tmp 20, Operand.tmp 23], argTypes := #[50, 50, 50] }, type := 24, pos := "way.go:23", after := #[{ on := 1, ground := Ground.data }, { on := 2, ground := Ground.data }, { on := 5, ground := Ground.data }, { on := 5, ground := Ground.chain }], guard := none }) rfl (fun K hK => ?_) ?_
            · go_simp
              refine (CT _).mono ?_
              rintro e' w1 ⟨y0, y1, y2, y3, rfl, hy, os2, m2, rfl⟩
              (try go_wp2_with fail)
              refine hK.out _ _ (by (try dsimp only); simp [go_sem, z0, z1, z2, z3, kh]) (fun hHeld2 => ?_)
              clear hK K hHeld
              have hHeld := hHeld2
              clear hHeld2
              (try simp only [Act.put, List.setIfInBounds_toArray, List.set_cons_zero, List.set_cons_succ])
              refine wpAnyH_ready (rs := [7]) (by kernel_rfl) (by simp) ?_
              refine AllReadyH.cons (o := { dst := some 25, op := Op.call { callee := Callee.value (Operand.func 62), args := #[Operand.tmp 18, Operand.tmp 24], argTypes := #[24, 24] }, type := 24, pos := "way.go:23", after := #[{ on := 0, ground := Ground.data }, { on := 6, ground := Ground.data }, { on := 6, ground := Ground.chain }], guard := none }) rfl (fun K hK => ?_) ?_
              · go_simp
                refine (CM _ _ _ _ hy _).mono ?_
                rintro e' w1 ⟨t0, t1, t2, t3, rfl, ht, os3, m3, rfl⟩
                (try go_wp2_with fail)
                refine hK.out _ _ (by (try dsimp only); simp [go_sem, z0, z1, z2, z3, kh]) (fun hHeld2 => ?_)
                clear hK K hHeld
                have hHeld := hHeld2
                clear hHeld2
                (try simp only [Act.put, List.setIfInBounds_toArray, List.set_cons_zero, List.set_cons_succ])
                refine wpAnyH_done (by kernel_rfl) ?_ _
                refine butLast_step (o := { dst := none, op := Op.store 24 (Operand.tmp 4) (Operand.tmp 25), type := 0, pos := "way.go:23", after := #[{ on := 7, ground := Ground.data }, { on := 7, ground := Ground.chain }, { on := 0, ground := Ground.phase }, { on := 1, ground := Ground.phase }, { on := 2, ground := Ground.phase }, { on := 3, ground := Ground.phase }, { on := 4, ground := Ground.phase }, { on := 5, ground := Ground.phase }, { on := 6, ground := Ground.phase }, { on := 7, ground := Ground.phase }], guard := none }) rfl (fun K hK => ?_)
                go_simp
                refine hK.out _ _ ?_
                clear hK K
                (try simp only [Act.put, List.setIfInBounds_toArray, List.set_cons_zero, List.set_cons_succ])
                go_wp2
                have hbe := HB2.out
                have hn9 := Hn.out
                go_roundw
                case rel =>
                  refine ⟨k + 1, t0, t1, t2, t3, by omega, by go_num, by rw [← HA.out]; exact ht, ?_, ?_, ?_, ?_, ⟨?_, (by repeat (first | exact Below.refl _ _ | exact (by assumption) | refine Below.drew ?_ | refine Below.gro ?_ (by first | omega | (simp; done) | (simp; omega) | (simp [Gr.size]; omega)) _ _ | refine Below.alloc ?_ (by first | omega | (simp; done) | (simp; omega) | (simp [Gr.size]; omega)) _ | refine Below.setCell ?_ (by first | omega | (simp; done) | (simp; omega) | (simp [Gr.size]; omega)) _))⟩⟩
                  · simp [go_sem, z0, z1, z2, z3, kh]
                  · simp [go_sem, f0, f1, f2, f3, kh]
                  · simp [go_sem, r0, r1, r2, r3, ka]
                  · simp [go_sem, d0, d1, d2, d3, ka]
                  · simp [Gr.size]; omega
                case measure => simp [intOf]; omega
              exact AllReadyH.nil
            exact AllReadyH.nil
          exact AllReadyH.nil
        · obtain rfl : k = n := by omega
          have HT : Hid (AreaT l s0 s1 s2 s3 true) := Or.inl ⟨HR.out, rfl, by rw [← HL.out]; exact hs⟩
          have hbe := HW.out.2
          clear hs
          go_wp2
          exact bodyPost_ret (v := .tuple #[.agg #[.int .u64 s0, .int .u64 s1, .int .u64 s2, .int .u64 s3], .bool true]) (by simp [results, Try.results37, go_sem, r0, r1, r2, r3]) rfl ⟨s0, s1, s2, s3, true, rfl, HT.out, IsGr.of_below (by repeat (first | exact Below.refl _ _ | exact (by assumption) | refine Below.drew ?_ | refine Below.gro ?_ (by first | omega | (simp; done) | (simp; omega) | (simp [Gr.size]; omega)) _ _ | refine Below.alloc ?_ (by first | omega | (simp; done) | (simp; omega) | (simp [Gr.size]; omega)) _ | refine Below.setCell ?_ (by first | omega | (simp; done) | (simp; omega) | (simp [Gr.size]; omega)) _))⟩
end Go.Proofs.Ytecohcgcffhlnaa
