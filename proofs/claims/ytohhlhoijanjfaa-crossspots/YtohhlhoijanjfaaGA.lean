/- Contracts over the loaded program: the words of a number; what package wide answers, by its words; of package cross: sum, difference, product, negative. Regions that draw their order: one whose last operation waits for all the others, that one set apart. Regions that draw their order, whose operations only read and whose callees let the world grow at most: walked once, in the order of the text. Contracts of package cross over the loaded program: Right, single, Ends, between, way, turn. Contracts of package cross over the loaded program: At, within, Right of a spot, cmpParts, Cmp. Regions that draw their order: one invariant over what has come up, and one obligation an operation. Boxes of two cells that a region lays in whatever order: what stays so behind an alloc, a call that lets the world grow, and a store into one of them. Boxes of four or eight cells that a region lays in whatever order: what stays so behind an alloc, a call that lets the world grow, and a store into one of them. Boxes that hold numbers of package gromaref01. -/
import Derived.Test.YtohhlhoijanjfaaW18
import Derived.Test.YtohhlhoijanjfaaU2
import Derived.Test.YtohhlhoijanjfaaG1
import Derived.Test.YtohhlhoijanjfaaU6
import Derived.Test.YtohhlhoijanjfaaR8
import Derived.Deep.RegionHeld3
import Derived.Deep.QuietTactic
import Derived.RegionTactic
namespace Go.Proofs.Ytohhlhoijanjfaa
theorem qA {α : Type} {l : List α} {i : Nat} {a : α} : l.toArray.setIfInBounds i a = (l.set i a).toArray := List.setIfInBounds_toArray ..
theorem qB {α : Type} {x : α} {xs : List α} {a : α} : (x :: xs).set 0 a = a :: xs := rfl
theorem qC {α : Type} {x : α} {xs : List α} {n : Nat} {a : α} : (x :: xs).set (n + 1) a = x :: xs.set n a := rfl
open Go.RowKit Go.Shelf
attribute [local go_sem] Gr.size Gr.cell? Gr.frozen? Gr.setCell Gr.drew Gr.drewN Gr.of_drew Gr.of_drewN Gr.gr Gr.lt_of1 Gr.le_of1 Gr.lt_of2 Gr.le_of2 Gr.lt_of3 Gr.le_of3 Gr.lt_of4 Gr.le_of4 Gr.lt_of5 Gr.le_of5 Gr.lt_of6 Gr.le_of6 Gr.lt_of7 Gr.le_of7 Gr.lt_of8 Gr.le_of8 Gr.lt_of9 Gr.le_of9 Gr.lt_of10 Gr.le_of10 Gr.lt_of11 Gr.le_of11 Gr.lt_of12 Gr.le_of12 Gr.lt_of13 Gr.le_of13 Gr.lt_of14 Gr.le_of14 Gr.lt_of15 Gr.le_of15 Gr.lt_of16 Gr.le_of16 Gr.lt_of17 Gr.le_of17 Gr.lt_of18 Gr.le_of18 Gr.lt_of19 Gr.le_of19 Gr.lt_of20 Gr.le_of20 Gr.lt_of21 Gr.le_of21 Gr.lt_of22 Gr.le_of22 Gr.lt_of23 Gr.le_of23 Gr.lt_of24 Gr.le_of24

/-- The words of a number in two's complement, the lowest first. -/
def wd0 (z : Int) : Int := z % 115792089237316195423570985008687907853269984665640564039457584007913129639936 % 18446744073709551616
def wd1 (z : Int) : Int := z % 115792089237316195423570985008687907853269984665640564039457584007913129639936 / 18446744073709551616 % 18446744073709551616
def wd2 (z : Int) : Int := z % 115792089237316195423570985008687907853269984665640564039457584007913129639936 / 340282366920938463463374607431768211456 % 18446744073709551616
def wd3 (z : Int) : Int := z % 115792089237316195423570985008687907853269984665640564039457584007913129639936 / 6277101735386680763835789423207666416102355444464034512896
/-- It fits into four words. -/
def Fit (z : Int) : Prop := -57896044618658097711785492504343953926634992332820282019728792003956564819968 ≤ z ∧ z < 57896044618658097711785492504343953926634992332820282019728792003956564819968
theorem wd_is {z : Int} (h : Fit z) : IsI (wd0 z) (wd1 z) (wd2 z) (wd3 z) z := by
  obtain ⟨h0, h1⟩ := h
  refine ⟨?_, h0, h1⟩
  unfold Is wd0 wd1 wd2 wd3
  omega
theorem wd_eq {a b c d z : Int} (h : IsI a b c d z) : a = wd0 z ∧ b = wd1 z ∧ c = wd2 z ∧ d = wd3 z := by
  obtain ⟨h, _, _⟩ := h
  unfold Is at h
  unfold wd0 wd1 wd2 wd3
  omega
theorem wd_fit {a b c d z : Int} (h : IsI a b c d z) : Fit z := ⟨h.2.1, h.2.2⟩
theorem wd_zero : wd0 0 = 0 ∧ wd1 0 = 0 ∧ wd2 0 = 0 ∧ wd3 0 = 0 := by decide
theorem fOf (n : Int) (n0 : -9223372036854775808 ≤ n) (n1 : n < 9223372036854775808) (w : World) :
    Calls Try.prog 38 #[.int .i64 n] w fun e w' => e = .returned (.agg #[.int .u64 (wd0 n), .int .u64 (wd1 n), .int .u64 (wd2 n), .int .u64 (wd3 n)]) ∧ IsGr w w' := by
  refine (Of_any n n0 n1 w).mono ?_
  rintro e w' ⟨s0, s1, s2, s3, rfl, h, hg⟩
  obtain ⟨rfl, rfl, rfl, rfl⟩ := wd_eq h
  exact ⟨rfl, hg⟩
theorem fCmp (x y : Int) (hx : Fit x) (hy : Fit y) (w : World) :
    Calls Try.prog 96 #[.agg #[.int .u64 (wd0 x), .int .u64 (wd1 x), .int .u64 (wd2 x), .int .u64 (wd3 x)], .agg #[.int .u64 (wd0 y), .int .u64 (wd1 y), .int .u64 (wd2 y), .int .u64 (wd3 y)]] w fun e w' => e = .returned (.int .i64 (cmpI x y)) ∧ IsGr w w' := Cmp_any _ _ _ _ x _ _ _ _ y (wd_is hx) (wd_is hy) w
theorem fSign (x : Int) (hx : Fit x) (w : World) :
    Calls Try.prog 73 #[.agg #[.int .u64 (wd0 x), .int .u64 (wd1 x), .int .u64 (wd2 x), .int .u64 (wd3 x)]] w fun e w' => e = .returned (.int .i64 (cmpI x 0)) ∧ IsGr w w' := Sign_any _ _ _ _ x (wd_is hx) w
/-- How many bits a size has. -/
def bitsI (x : Int) : Int := if x = 0 then 0 else ((abs x).toNat.log2 : Int) + 1
theorem BL_bits {x : Int} {L : Nat} (h : BL (abs x) L) : (L : Int) = bitsI x := by
  obtain ⟨h1, h2⟩ := h
  have h0 : 0 ≤ abs x := by unfold abs; split <;> omega
  unfold bitsI
  split
  · rename_i hx
    by_cases hL : L = 0
    · simp [hL]
    · have := h2 hL
      have h3 : (0 : Int) < 2 ^ (L - 1) := Int.pow_pos (by decide)
      have : abs x = 0 := by unfold abs; split <;> omega
      omega
  · rename_i hx
    have hp : 0 < abs x := by unfold abs; split <;> omega
    obtain ⟨n, hn⟩ : ∃ n : Nat, abs x = n := ⟨(abs x).toNat, by omega⟩
    have hL : L ≠ 0 := by
      intro hL
      rw [hL] at h1
      simp at h1
      omega
    have h3 := h2 hL
    rw [hn] at h1 h3 ⊢
    have e1 : n < 2 ^ L := by exact_mod_cast h1
    have e2 : 2 ^ (L - 1) ≤ n := by exact_mod_cast h3
    have hn0 : n ≠ 0 := by omega
    have a1 : n.log2 < L := (Nat.log2_lt hn0).2 e1
    have a2 : L - 1 ≤ n.log2 := (Nat.le_log2 hn0).2 e2
    simp only [Int.toNat_natCast]
    omega
theorem fBits (x : Int) (hx : Fit x) (w : World) :
    Calls Try.prog 74 #[.agg #[.int .u64 (wd0 x), .int .u64 (wd1 x), .int .u64 (wd2 x), .int .u64 (wd3 x)]] w fun e w' => e = .returned (.int .i64 (bitsI x)) ∧ IsGr w w' := by
  refine (Bits_any _ _ _ _ x (wd_is hx) w).mono ?_
  rintro e w' ⟨L, rfl, _, hB, hg⟩
  exact ⟨by rw [BL_bits hB], hg⟩
/-- It is an int. -/
def small (x : Int) : Bool := decide (-9223372036854775808 ≤ x ∧ x < 9223372036854775808)
theorem fSmall (x : Int) (hx : Fit x) (w : World) :
    Calls Try.prog 100 #[.agg #[.int .u64 (wd0 x), .int .u64 (wd1 x), .int .u64 (wd2 x), .int .u64 (wd3 x)]] w fun e w' => e = .returned (.tuple #[.int .i64 (if small x = true then x else 0), .bool (small x)]) ∧ IsGr w w' := by
  refine (Small_any _ _ _ _ x (wd_is hx) w).mono ?_
  rintro e w' ⟨m, ok, rfl, hT, hg⟩
  unfold small
  rcases hT with ⟨rfl, rfl, h1, h2⟩ | ⟨rfl, rfl, h⟩
  · exact ⟨by simp [h1, h2], hg⟩
  · exact ⟨by simp [h], hg⟩


set_option maxRecDepth 20000 in set_option maxHeartbeats 2000000 in
theorem xproduct (x y : Int) (hx : Fit x) (hy : Fit y) (hb : Fit (x * y)) (w : World) :
    Calls Try.prog 70 #[.agg #[.int .u64 (wd0 x), .int .u64 (wd1 x), .int .u64 (wd2 x), .int .u64 (wd3 x)], .agg #[.int .u64 (wd0 y), .int .u64 (wd1 y), .int .u64 (wd2 y), .int .u64 (wd3 y)]] w fun e w' => e = .returned (.agg #[.int .u64 (wd0 (x * y)), .int .u64 (wd1 (x * y)), .int .u64 (wd2 (x * y)), .int .u64 (wd3 (x * y))]) ∧ IsGr w w' := by
  have CM := fun w => Mul_any _ _ _ _ x _ _ _ _ y (wd_is hx) (wd_is hy) w
  have HB : Hid (Fit (x * y)) := hb
  clear hb hx hy
  go_enter Try.func70, Try.ntmps70
  go_wp2_with fail
  refine (CM _).mono ?_
  rintro e w1 ⟨s0, s1, s2, s3, ok, rfl, hT, os1, n1, rfl⟩
  obtain ⟨rfl, hs⟩ := hT.yes HB.out
  obtain ⟨rfl, rfl, rfl, rfl⟩ := wd_eq hs
  clear hT HB hs
  go_wp2
  exact bodyPost_ret (v := .agg #[.int .u64 (wd0 (x * y)), .int .u64 (wd1 (x * y)), .int .u64 (wd2 (x * y)), .int .u64 (wd3 (x * y))]) (by simp [results, Try.results70, go_sem]) rfl ⟨rfl, (by with_reducible repeat (first | exact IsGr.refl _ | refine IsGr.gr ?_ _ _ | refine IsGr.alloc ?_ _ | refine IsGr.drew ?_ | refine IsGr.drewN ?_ _))⟩

set_option maxRecDepth 20000 in set_option maxHeartbeats 2000000 in
theorem xdifference (x y : Int) (hx : Fit x) (hy : Fit y) (hb : Fit (x - y)) (w : World) :
    Calls Try.prog 69 #[.agg #[.int .u64 (wd0 x), .int .u64 (wd1 x), .int .u64 (wd2 x), .int .u64 (wd3 x)], .agg #[.int .u64 (wd0 y), .int .u64 (wd1 y), .int .u64 (wd2 y), .int .u64 (wd3 y)]] w fun e w' => e = .returned (.agg #[.int .u64 (wd0 (x - y)), .int .u64 (wd1 (x - y)), .int .u64 (wd2 (x - y)), .int .u64 (wd3 (x - y))]) ∧ IsGr w w' := by
  have CM := fun w => Sub_any _ _ _ _ x _ _ _ _ y (wd_is hx) (wd_is hy) w
  have HB : Hid (Fit (x - y)) := hb
  clear hb hx hy
  go_enter Try.func69, Try.ntmps69
  go_wp2_with fail
  refine (CM _).mono ?_
  rintro e w1 ⟨s0, s1, s2, s3, ok, rfl, hT, os1, n1, rfl⟩
  obtain ⟨rfl, hs⟩ := hT.yes HB.out
  obtain ⟨rfl, rfl, rfl, rfl⟩ := wd_eq hs
  clear hT HB hs
  go_wp2
  exact bodyPost_ret (v := .agg #[.int .u64 (wd0 (x - y)), .int .u64 (wd1 (x - y)), .int .u64 (wd2 (x - y)), .int .u64 (wd3 (x - y))]) (by simp [results, Try.results69, go_sem]) rfl ⟨rfl, (by with_reducible repeat (first | exact IsGr.refl _ | refine IsGr.gr ?_ _ _ | refine IsGr.alloc ?_ _ | refine IsGr.drew ?_ | refine IsGr.drewN ?_ _))⟩

set_option maxRecDepth 20000 in set_option maxHeartbeats 2000000 in
theorem xsum (x y : Int) (hx : Fit x) (hy : Fit y) (hb : Fit (x + y)) (w : World) :
    Calls Try.prog 92 #[.agg #[.int .u64 (wd0 x), .int .u64 (wd1 x), .int .u64 (wd2 x), .int .u64 (wd3 x)], .agg #[.int .u64 (wd0 y), .int .u64 (wd1 y), .int .u64 (wd2 y), .int .u64 (wd3 y)]] w fun e w' => e = .returned (.agg #[.int .u64 (wd0 (x + y)), .int .u64 (wd1 (x + y)), .int .u64 (wd2 (x + y)), .int .u64 (wd3 (x + y))]) ∧ IsGr w w' := by
  have CM := fun w => Add_any _ _ _ _ x _ _ _ _ y (wd_is hx) (wd_is hy) w
  have HB : Hid (Fit (x + y)) := hb
  clear hb hx hy
  go_enter Try.func92, Try.ntmps92
  go_wp2_with fail
  refine (CM _).mono ?_
  rintro e w1 ⟨s0, s1, s2, s3, ok, rfl, hT, os1, n1, rfl⟩
  obtain ⟨rfl, hs⟩ := hT.yes HB.out
  obtain ⟨rfl, rfl, rfl, rfl⟩ := wd_eq hs
  clear hT HB hs
  go_wp2
  exact bodyPost_ret (v := .agg #[.int .u64 (wd0 (x + y)), .int .u64 (wd1 (x + y)), .int .u64 (wd2 (x + y)), .int .u64 (wd3 (x + y))]) (by simp [results, Try.results92, go_sem]) rfl ⟨rfl, (by with_reducible repeat (first | exact IsGr.refl _ | refine IsGr.gr ?_ _ _ | refine IsGr.alloc ?_ _ | refine IsGr.drew ?_ | refine IsGr.drewN ?_ _))⟩

set_option maxRecDepth 20000 in set_option maxHeartbeats 2000000 in
theorem xnegative (x nx : Int) (hx : Fit x) (he : nx = -x) (hb : Fit nx) (w : World) :
    Calls Try.prog 91 #[.agg #[.int .u64 (wd0 x), .int .u64 (wd1 x), .int .u64 (wd2 x), .int .u64 (wd3 x)]] w fun e w' => e = .returned (.agg #[.int .u64 (wd0 nx), .int .u64 (wd1 nx), .int .u64 (wd2 nx), .int .u64 (wd3 nx)]) ∧ IsGr w w' := by
  have CM := fun w => Neg_any _ _ _ _ x (wd_is hx) w
  have HB : Hid (Fit nx) := hb
  rw [show 0 - x = nx by omega] at CM
  clear hb hx he
  go_enter Try.func91, Try.ntmps91
  go_wp2_with fail
  refine (CM _).mono ?_
  rintro e w1 ⟨s0, s1, s2, s3, ok, rfl, hT, os1, n1, rfl⟩
  obtain ⟨rfl, hs⟩ := hT.yes HB.out
  obtain ⟨rfl, rfl, rfl, rfl⟩ := wd_eq hs
  clear hT HB hs
  go_wp2
  exact bodyPost_ret (v := .agg #[.int .u64 (wd0 nx), .int .u64 (wd1 nx), .int .u64 (wd2 nx), .int .u64 (wd3 nx)]) (by simp [results, Try.results91, go_sem]) rfl ⟨rfl, (by with_reducible repeat (first | exact IsGr.refl _ | refine IsGr.gr ?_ _ _ | refine IsGr.alloc ?_ _ | refine IsGr.drew ?_ | refine IsGr.drewN ?_ _))⟩
end Go.Proofs.Ytohhlhoijanjfaa
namespace Go.Proofs.Ytohhlhoijanjfaa
open Go

section
variable {P : Program} {ops : Array Oper} {Q : Exit → Act → World → Prop} {S : World → Prop}

/-- The post of the rest: behind it operation k. -/
def ButLast (P : Program) (ops : Array Oper) (k : Nat) (Q : Exit → Act → World → Prop) : Exit → Act → World → Prop
  | .normal, a, w => wpOp P ops Q k (Q .normal) a w
  | e, a, w => Q e a w

theorem butLast_letsOut {k : Nat} (h : LetsOut (ButLast P ops k Q)) : LetsOut Q := by
  exact h

theorem butLast_op {k i : Nat} {K : Act → World → Prop} {a : Act} {w : World} (h : wpOp P ops (ButLast P ops k Q) i K a w) : wpOp P ops Q i K a w := by
  unfold wpOp at *
  split
  · rename_i ho; simp only [ho] at h; exact h
  · rename_i o ho
    simp only [ho] at h
    split
    · rename_i hw
      simp only [hw, if_true] at h
      rcases h with h | ⟨h1, h2⟩
      · refine Or.inl ?_
        unfold Oper.wp at *
        generalize (execOp a.eval o).run P w = r at *
        cases r with
        | ok n w' =>
          cases n <;> simp only [Oper.upon] at h ⊢
          case enter f args => exact Calls.mono h fun e w'' he => by cases e <;> first | exact he | exact butLast_letsOut he
          all_goals exact h
        | halt x w' => cases x <;> simp only [Oper.upon] at h ⊢ <;> exact h
      · exact Or.inr ⟨h1, butLast_letsOut h2⟩
    · rename_i hw; simp only [hw] at h; exact h

/-- Does operation k wait for all the others, and nobody for it (and everybody for earlier ones only)? -/
def lastWaits (ops : Array Oper) (k : Nat) : Bool :=
  decide (k < ops.size) && ((List.range ops.size).all fun i => i == k || ((ops[k]?).map fun o => o.after.any fun e => Region.binds .any e && e.on == i).getD false) &&
  ((List.range ops.size).all fun i => ((ops[i]?).map fun o => o.after.all fun e => !Region.binds .any e || (decide (e.on ≠ k) && (decide (e.on < i) || i == k) && decide (e.on < ops.size))).getD false)

theorem lastWaits_spec {k : Nat} (h : lastWaits ops k = true) : k < ops.size ∧ (∀ i, i < ops.size → i ≠ k → ∃ o, ops[k]? = some o ∧ ∃ e ∈ o.after, Region.binds .any e = true ∧ e.on = i) ∧
    (∀ i o, ops[i]? = some o → ∀ e ∈ o.after, Region.binds .any e = true → e.on ≠ k ∧ (i ≠ k → e.on < i) ∧ e.on < ops.size) := by
  simp only [lastWaits, Bool.and_eq_true, decide_eq_true_eq, List.all_eq_true, List.mem_range] at h
  obtain ⟨⟨h1, h2⟩, h3⟩ := h
  refine ⟨h1, fun i hi hik => ?_, fun i o ho e he hb => ?_⟩
  · have := h2 i hi
    have hk' : ops[k]? = some ops[k] := Array.getElem?_eq_getElem h1
    rw [hk'] at this ⊢
    simp [hik] at this
    obtain ⟨e, he, hb, ho⟩ := this
    exact ⟨_, rfl, _, Array.getElem_mem he, hb, ho⟩
  · have hi : i < ops.size := (Array.getElem?_eq_some_iff.1 ho).1
    have := h3 i hi
    simp only [ho, Option.map_some, Option.getD_some, Array.all_eq_true_iff_forall_mem] at this
    have := this e he
    simp [hb] at this
    refine ⟨this.1.1, fun hik => ?_, this.2⟩
    rcases this.1.2 with h | h
    · exact h
    · exact absurd h hik

theorem but_all {k : Nat} (hk : lastWaits ops k = true) {listed : Array Bool} (hs : listed.size = ops.size) (hr : Region.ready .any ops (listed.setIfInBounds k true) = []) :
    ∀ i, i < ops.size → i ≠ k → listed.getD i false = true := by
  obtain ⟨h1, h2, h3⟩ := lastWaits_spec hk
  intro i
  induction i using Nat.strongRecOn with
  | ind i ih =>
    intro hi hik
    cases hl : listed.getD i false with
    | true => rfl
    | false =>
      exfalso
      have : i ∈ Region.ready .any ops (listed.setIfInBounds k true) := by
        rw [mem_ready]
        refine ⟨?_, ops[i], Array.getElem?_eq_getElem hi, fun e he hb => ?_⟩
        · rw [getD_set_ne true (Ne.symm hik)]
          have hil : i < listed.size := by omega
          simp [hil] at hl ⊢
          exact hl
        · obtain ⟨e1, e2, e3⟩ := h3 i _ (Array.getElem?_eq_getElem hi) e he hb
          rw [getD_set_ne false (Ne.symm e1)]
          exact ih e.on (e2 hik) e3 e1
      rw [hr] at this
      cases this

theorem but_ready {k : Nat} (hk : lastWaits ops k = true) {listed : Array Bool} (hs : listed.size = ops.size) (hl : listed.getD k true = false) (hr : Region.ready .any ops (listed.setIfInBounds k true) = []) :
    k ∈ Region.ready .any ops listed := by
  obtain ⟨h1, h2, h3⟩ := lastWaits_spec hk
  rw [mem_ready]
  refine ⟨hl, ops[k], Array.getElem?_eq_getElem h1, fun e he hb => ?_⟩
  obtain ⟨e1, _, e3⟩ := h3 k _ (Array.getElem?_eq_getElem h1) e he hb
  exact but_all hk hs hr e.on e3 e1

theorem wpAny_but {k : Nat} (hk : lastWaits ops k = true) : ∀ (fuel : Nat) (listed : Array Bool) (a : Act) (w : World), listed.size = ops.size → listed.getD k true = false →
    wpAnyH P .any ops (ButLast P ops k Q) S fuel (listed.setIfInBounds k true) a w → wpAny P .any ops Q (fuel + 1) listed a w := by
  obtain ⟨h1, h2, h3⟩ := lastWaits_spec hk
  have only : ∀ (listed : Array Bool), Region.ready .any ops (listed.setIfInBounds k true) = [] → ∀ i ∈ Region.ready .any ops listed, i = k := fun listed hr i hi => by
    by_cases hik : i = k
    · exact hik
    · have := ready_mono hi hik; rw [hr] at this; cases this
  intro fuel
  induction fuel with
  | zero =>
    intro listed a w hs hl H
    refine ⟨fun h0 => ?_, fun i hi => ?_⟩
    · have := but_ready hk hs hl H.1; rw [h0] at this; cases this
    · obtain rfl := only listed H.1 i hi
      exact wpOp_mono (fun a' w' hq => ⟨H.1, hq⟩) H.2
  | succ fuel ih =>
    intro listed a w hs hl H
    by_cases hr : Region.ready .any ops (listed.setIfInBounds k true) = []
    · refine ⟨fun h0 => ?_, fun i hi => ?_⟩
      · have := but_ready hk hs hl hr; rw [h0] at this; cases this
      · obtain rfl := only listed hr i hi
        exact wpOp_mono (fun a' w' hq => ⟨fun _ => hq, by rw [hr]; intro i hi; cases hi⟩) (H.1 hr)
    · have hnk : ∀ i ∈ Region.ready .any ops listed, i ≠ k := by
        rintro i hi rfl
        apply hr
        rw [List.eq_nil_iff_forall_not_mem]
        intro j hj
        rw [mem_ready] at hi hj
        obtain ⟨hj0, oj, hoj, _⟩ := hj
        have hjs : j < ops.size := (Array.getElem?_eq_some_iff.1 hoj).1
        by_cases hji : j = i
        · subst hji
          have : j < listed.size := by omega
          simp [this] at hj0
        · rw [getD_set_ne true (Ne.symm hji)] at hj0
          obtain ⟨o, ho, e, he, hb, heo⟩ := h2 j hjs hji
          obtain ⟨_, o', ho', hall⟩ := hi
          rw [ho] at ho'
          obtain rfl := Option.some.inj ho'
          have h4 := hall e he hb
          rw [heo] at h4
          have hjl : j < listed.size := by omega
          simp [hjl] at h4 hj0
          rw [hj0] at h4
          cases h4
      refine ⟨fun h0 => ?_, fun i hi => ?_⟩
      · exfalso
        obtain ⟨j, hj⟩ := List.exists_mem_of_ne_nil _ hr
        have : j ∈ Region.ready .any ops listed := by
          rw [mem_ready] at hj ⊢
          obtain ⟨hj0, oj, hoj, hall⟩ := hj
          have hjk : j ≠ k := by
            rintro rfl
            have : j < listed.size := by omega
            simp [this] at hj0
          rw [getD_set_ne true (Ne.symm hjk)] at hj0
          refine ⟨hj0, oj, hoj, fun e he hb => ?_⟩
          have h5 := hall e he hb
          rw [getD_set_ne false (Ne.symm (h3 j oj hoj e he hb).1)] at h5
          exact h5
        rw [h0] at this
        cases this
      · have hik := hnk i hi
        have hh := butLast_op (H.2 i (ready_mono hi hik))
        refine wpOp_mono (fun a' w' h' => ih (listed.setIfInBounds i true) a' w' (by simp [hs]) (by rw [getD_set_ne true hik]; exact hl) ?_) hh
        rw [Array.setIfInBounds_comm _ _ hik]
        exact h'.2

/-- A region whose last operation k waits for all the others: the others under S, then k. -/
theorem wp_region_but {id k n : Nat} {a : Act} {w : World} (hm : P.follows .mixedOrders = true) (hk : (lastWaits ops k && decide (ops.size = n + 1)) = true) (hS : S w.drew)
    (h : S w.drew → wpAnyH P .any ops (ButLast P ops k Q) S n ((Array.replicate ops.size false).setIfInBounds k true) a w.drew) : (Code.region id ops true).wp P Q a w := by
  rw [Bool.and_eq_true, decide_eq_true_eq] at hk
  refine wp_region_any hm ?_
  have := wpAny_but hk.1 n (Array.replicate ops.size false) a w.drew (by simp) (by have := (lastWaits_spec hk.1).1; simp [this]) (h hS)
  rw [hk.2]
  rw [hk.2] at this
  exact this

/-- Operation k itself, behind the rest. -/
theorem butLast_step {k : Nat} {o : Oper} {a : Act} {w : World} (ho : ops[k]? = some o)
    (h : ∀ K' : Act → World → Prop, Shut (∀ a w, Q .normal a w → K' a w) → if Region.wanted o (yielded ops a.tmps) = true then Oper.wp P o a w K' Q else K' (a.put o.dst undef) w) : ButLast P ops k Q .normal a w :=
  wpOp_step ho h
end
end Go.Proofs.Ytohhlhoijanjfaa
namespace Go.Proofs.Ytohhlhoijanjfaa
open Go Go.RowKit

section
variable {P : Program} {ops : Array Oper} {C : World → Prop} {Q : Act → Prop} {a : Act} {o : Oper} {rest : List Oper}

theorem quiet_take (v : Value) (hw : Region.wanted o (yielded ops a.tmps) = true) (hy : ∀ w, C w → (execOp a.eval o).run P w = .ok (.value v) w) (h : wpQuiet P ops C Q rest (a.put o.dst v)) : wpQuiet P ops C Q (o :: rest) a :=
  wpQuiet_step fun K hK => by
    rw [if_pos hw]
    exact ⟨v, fun w hc => by unfold Oper.quietAt; rw [hy w hc]; exact ⟨rfl, rfl⟩, hK _ h⟩
theorem quiet_skip (hw : Region.wanted o (yielded ops a.tmps) = false) (h : wpQuiet P ops C Q rest (a.put o.dst undef)) : wpQuiet P ops C Q (o :: rest) a :=
  wpQuiet_step fun K hK => by
    rw [if_neg (by rw [hw]; exact Bool.false_ne_true)]
    exact hK _ h
theorem quiet_call (f : FuncId) (args : Array Value) (v : Value) (hcl : ∀ w w', C w → IsGr w w' → C w') (hw : Region.wanted o (yielded ops a.tmps) = true) (hy : ∀ w, (execOp a.eval o).run P w = .ok (.enter f args) w)
    (hc : ∀ w, Calls P f args w fun e w' => e = .returned v ∧ IsGr w w') (h : wpQuiet P ops C Q rest (a.put o.dst v)) : wpQuiet P ops C Q (o :: rest) a :=
  wpQuiet_step fun K hK => by
    rw [if_pos hw]
    refine ⟨v, fun w hcw => ?_, hK _ h⟩
    unfold Oper.quietAt
    rw [hy w]
    exact ⟨rfl, (hc w).mono fun e w' ⟨he, hg⟩ => ⟨he, hcl w w' hcw hg⟩⟩
end
theorem wp_region_quietC {P : Program} (C : World → Prop) {id : Nat} {Q : Exit → Act → World → Prop} {a : Act} {w : World} {l : List Oper} (hm : P.follows .mixedOrders = true) (hB : Region.lexB .any l.toArray = true) (hC : C w.drew)
    (h : wpQuiet P l.toArray C (fun a' => ∀ w', C w' → Q .normal a' w') l a) : (Code.region id l.toArray true).wp P Q a w :=
  wp_region_quiet (C := C) hm hB hC (by simpa using h)

/-- K is wpQuiet, under a name that nothing unfolds. -/
def QK (P : Program) (ops : Array Oper) (C : World → Prop) (Q : Act → Prop) (K : List Oper → Act → Prop) : Prop := ∀ l a, K l a ↔ wpQuiet P ops C Q l a
section
variable {P : Program} {ops : Array Oper} {C : World → Prop} {Q : Act → Prop} {K : List Oper → Act → Prop} {a : Act} {o : Oper} {rest : List Oper}
theorem QK.take (h : Hid (QK P ops C Q K)) (v : Value) (hw : Region.wanted o (yielded ops a.tmps) = true) (hy : ∀ w, C w → (execOp a.eval o).run P w = .ok (.value v) w) (k : K rest (a.put o.dst v)) : K (o :: rest) a :=
  (h.out _ _).2 (quiet_take v hw hy ((h.out _ _).1 k))
theorem QK.skip (h : Hid (QK P ops C Q K)) (hw : Region.wanted o (yielded ops a.tmps) = false) (k : K rest (a.put o.dst undef)) : K (o :: rest) a :=
  (h.out _ _).2 (quiet_skip hw ((h.out _ _).1 k))
theorem QK.call (h : Hid (QK P ops C Q K)) (f : FuncId) (args : Array Value) (v : Value) (hcl : ∀ w w', C w → IsGr w w' → C w') (hw : Region.wanted o (yielded ops a.tmps) = true) (hy : ∀ w, (execOp a.eval o).run P w = .ok (.enter f args) w)
    (hc : ∀ w, Calls P f args w fun e w' => e = .returned v ∧ IsGr w w') (k : K rest (a.put o.dst v)) : K (o :: rest) a :=
  (h.out _ _).2 (quiet_call f args v hcl hw hy hc ((h.out _ _).1 k))
theorem QK.nil (h : Hid (QK P ops C Q K)) (k : Q a) : K [] a := (h.out _ _).2 (wpQuiet_nil k)
end
theorem wp_region_quietV {P : Program} (C : World → Prop) {id : Nat} {Q : Exit → Act → World → Prop} {a : Act} {w : World} {l : List Oper} (hm : P.follows .mixedOrders = true) (hB : Region.lexB .any l.toArray = true) (hC : C w.drew)
    (h : ∀ K : List Oper → Act → Prop, Hid (QK P l.toArray C (fun a' => ∀ w', C w' → Q .normal a' w') K) → K l a) : (Code.region id l.toArray true).wp P Q a w :=
  wp_region_quietC C hm hB hC (h _ (show QK _ _ _ _ _ from fun _ _ => Iff.rfl))
end Go.Proofs.Ytohhlhoijanjfaa
namespace Go.Proofs.Ytohhlhoijanjfaa
open Go.RowKit Go.Shelf
attribute [local go_sem] Gr.size Gr.cell? Gr.frozen? Gr.setCell Gr.drew Gr.drewN Gr.of_drew Gr.of_drewN Gr.gr Gr.lt_of1 Gr.le_of1 Gr.lt_of2 Gr.le_of2 Gr.lt_of3 Gr.le_of3 Gr.lt_of4 Gr.le_of4 Gr.lt_of5 Gr.le_of5 Gr.lt_of6 Gr.le_of6 Gr.lt_of7 Gr.le_of7 Gr.lt_of8 Gr.le_of8 Gr.lt_of9 Gr.le_of9 Gr.lt_of10 Gr.le_of10 Gr.lt_of11 Gr.le_of11 Gr.lt_of12 Gr.le_of12 Gr.lt_of13 Gr.le_of13 Gr.lt_of14 Gr.le_of14 Gr.lt_of15 Gr.le_of15 Gr.lt_of16 Gr.le_of16 Gr.lt_of17 Gr.le_of17 Gr.lt_of18 Gr.le_of18 Gr.lt_of19 Gr.le_of19 Gr.lt_of20 Gr.le_of20 Gr.lt_of21 Gr.le_of21 Gr.lt_of22 Gr.le_of22 Gr.lt_of23 Gr.le_of23 Gr.lt_of24 Gr.le_of24

/-- Is the segment right? -/
def segR (a1 a2 b1 b2 : Int) : Bool := rightP a1 a2 && rightP b1 b2
/-- l and h are the ends a and b, the one that comes ahead first. -/
def Ends2 (a1 a2 b1 b2 l1 l2 h1 h2 : Int) : Prop := (0 < cmpP a1 a2 b1 b2 ∧ l1 = b1 ∧ l2 = b2 ∧ h1 = a1 ∧ h2 = a2) ∨ (¬ 0 < cmpP a1 a2 b1 b2 ∧ l1 = a1 ∧ l2 = a2 ∧ h1 = b1 ∧ h2 = b2)
theorem ends_ex (a1 a2 b1 b2 : Int) : ∃ l1 l2 h1 h2, Ends2 a1 a2 b1 b2 l1 l2 h1 h2 := by
  by_cases h : 0 < cmpP a1 a2 b1 b2
  · exact ⟨b1, b2, a1, a2, Or.inl ⟨h, rfl, rfl, rfl, rfl⟩⟩
  · exact ⟨a1, a2, b1, b2, Or.inr ⟨h, rfl, rfl, rfl, rfl⟩⟩
theorem Ends2.right {a1 a2 b1 b2 l1 l2 h1 h2 : Int} (h : Ends2 a1 a2 b1 b2 l1 l2 h1 h2) (hr : segR a1 a2 b1 b2 = true) : rightP l1 l2 = true ∧ rightP h1 h2 = true := by
  simp only [segR, Bool.and_eq_true] at hr
  rcases h with ⟨_, rfl, rfl, rfl, rfl⟩ | ⟨_, rfl, rfl, rfl, rfl⟩
  · exact ⟨hr.2, hr.1⟩
  · exact hr


set_option maxRecDepth 20000 in set_option maxHeartbeats 2000000 in
theorem SRight_any (a1 a2 b1 b2 : Int) (w : World) : Calls Try.prog 23 #[.agg #[.int .i64 a1, .int .i64 a2, .int .i64 b1, .int .i64 b2]] w fun e w' => e = .returned (.bool (segR a1 a2 b1 b2)) ∧ IsGr w w' := by
  have C1 := fun w => PRight_any a1 a2 w
  have C2 := fun w => PRight_any b1 b2 w
  have HR : Hid ((rightP a1 a2 && rightP b1 b2) = segR a1 a2 b1 b2) := rfl
  generalize rightP a1 a2 = X at C1 HR
  generalize rightP b1 b2 = Y at C2 HR
  go_enter Try.func23, Try.ntmps23
  go_wp2_with fail
  refine (C1 _).mono ?_
  rintro e w1 ⟨rfl, os1, m1, rfl⟩
  cases X
  · go_wp2
    go_ret
    exact ⟨ret_bool HR.out, (by with_reducible repeat (first | exact IsGr.refl _ | refine IsGr.gr ?_ _ _ | refine IsGr.alloc ?_ _ | refine IsGr.drew ?_ | refine IsGr.drewN ?_ _))⟩
  · go_wp2_with fail
    refine (C2 _).mono ?_
    rintro e w1 ⟨rfl, os2, m2, rfl⟩
    go_wp2
    go_ret
    exact ⟨ret_bool HR.out, (by with_reducible repeat (first | exact IsGr.refl _ | refine IsGr.gr ?_ _ _ | refine IsGr.alloc ?_ _ | refine IsGr.drew ?_ | refine IsGr.drewN ?_ _))⟩

set_option maxRecDepth 20000 in set_option maxHeartbeats 2000000 in
theorem single_any (a1 a2 b1 b2 : Int) (w : World) : Calls Try.prog 59 #[.agg #[.int .i64 a1, .int .i64 a2, .int .i64 b1, .int .i64 b2]] w fun e w' => e = .returned (.bool (decide (a1 = b1 ∧ a2 = b2))) ∧ IsGr w w' := by
  by_cases h1 : a1 = b1
  · by_cases h2 : a2 = b2
    · have HR : Hid (true = decide (a1 = b1 ∧ a2 = b2)) := by unfold Hid; simp [h1, h2]
      go_enter Try.func59, Try.ntmps59
      go_wp2
      go_ret
      exact ⟨ret_bool HR.out, (by with_reducible repeat (first | exact IsGr.refl _ | refine IsGr.gr ?_ _ _ | refine IsGr.alloc ?_ _ | refine IsGr.drew ?_ | refine IsGr.drewN ?_ _))⟩
    · have HR : Hid (false = decide (a1 = b1 ∧ a2 = b2)) := by unfold Hid; simp [h2]
      have e2 : (a2 == b2) = false := by simp [h2]
      go_enter Try.func59, Try.ntmps59
      go_wp2
      go_ret
      exact ⟨ret_bool HR.out, (by with_reducible repeat (first | exact IsGr.refl _ | refine IsGr.gr ?_ _ _ | refine IsGr.alloc ?_ _ | refine IsGr.drew ?_ | refine IsGr.drewN ?_ _))⟩
  · have HR : Hid (false = decide (a1 = b1 ∧ a2 = b2)) := by unfold Hid; simp [h1]
    have e1 : (a1 == b1) = false := by simp [h1]
    go_enter Try.func59, Try.ntmps59
    go_wp2
    go_ret
    exact ⟨ret_bool HR.out, (by with_reducible repeat (first | exact IsGr.refl _ | refine IsGr.gr ?_ _ _ | refine IsGr.alloc ?_ _ | refine IsGr.drew ?_ | refine IsGr.drewN ?_ _))⟩

set_option maxRecDepth 20000 in set_option maxHeartbeats 2000000 in
theorem Ends_any (a1 a2 b1 b2 l1 l2 h1 h2 : Int) (H : Ends2 a1 a2 b1 b2 l1 l2 h1 h2) (w : World) :
    Calls Try.prog 32 #[.agg #[.int .i64 a1, .int .i64 a2, .int .i64 b1, .int .i64 b2]] w fun e w' => e = .returned (.tuple #[.agg #[.int .i64 l1, .int .i64 l2], .agg #[.int .i64 h1, .int .i64 h2]]) ∧ IsGr w w' := by
  have C1 := fun w => PCmp_any a1 a2 b1 b2 w
  rcases H with ⟨H, rfl, rfl, rfl, rfl⟩ | ⟨H, rfl, rfl, rfl, rfl⟩
  · generalize cmpP h1 h2 l1 l2 = X at C1 H
    go_enter Try.func32, Try.ntmps32
    go_wp2_with fail
    refine (C1 _).mono ?_
    rintro e w1 ⟨rfl, os1, m1, rfl⟩
    go_wp2
    go_region
    all_goals
      go_wp2
      exact bodyPost_ret (v := .tuple #[.agg #[.int .i64 l1, .int .i64 l2], .agg #[.int .i64 h1, .int .i64 h2]]) (by simp [results, Try.results32, go_sem]) rfl ⟨rfl, (by with_reducible repeat (first | exact IsGr.refl _ | refine IsGr.gr ?_ _ _ | refine IsGr.alloc ?_ _ | refine IsGr.drew ?_ | refine IsGr.drewN ?_ _))⟩
  · generalize cmpP l1 l2 h1 h2 = X at C1 H
    go_enter Try.func32, Try.ntmps32
    go_wp2_with fail
    refine (C1 _).mono ?_
    rintro e w1 ⟨rfl, os1, m1, rfl⟩
    go_wp2
    go_region
    all_goals
      go_wp2
      exact bodyPost_ret (v := .tuple #[.agg #[.int .i64 l1, .int .i64 l2], .agg #[.int .i64 h1, .int .i64 h2]]) (by simp [results, Try.results32, go_sem]) rfl ⟨rfl, (by with_reducible repeat (first | exact IsGr.refl _ | refine IsGr.gr ?_ _ _ | refine IsGr.alloc ?_ _ | refine IsGr.drew ?_ | refine IsGr.drewN ?_ _))⟩

set_option maxRecDepth 20000 in set_option maxHeartbeats 2000000 in
theorem between_any (a1 a2 b1 b2 : Int) (ha : rightP a1 a2 = true) (hb : rightP b1 b2 = true) (w : World) :
    Calls Try.prog 90 #[.agg #[.int .i64 a1, .int .i64 a2], .agg #[.int .i64 b1, .int .i64 b2]] w fun e w' => e = .returned (.agg #[.int .u64 (wd0 (b1 - a1)), .int .u64 (wd1 (b1 - a1)), .int .u64 (wd2 (b1 - a1)), .int .u64 (wd3 (b1 - a1)), .int .u64 (wd0 (b2 - a2)), .int .u64 (wd1 (b2 - a2)), .int .u64 (wd2 (b2 - a2)), .int .u64 (wd3 (b2 - a2))]) ∧ IsGr w w' := by
  have ra := rightP_t ha; have rb := rightP_t hb
  obtain ⟨D1, e1, d1, v1⟩ : ∃ D, b1 - a1 = D ∧ (-4398046511104 ≤ D ∧ D ≤ 4398046511104) ∧ IntKind.i64.wrap (b1 - a1) = D := ⟨_, rfl, by omega, by rw [IntKind.wrap_i64]; omega⟩
  obtain ⟨D2, e2, d2, v2⟩ : ∃ D, b2 - a2 = D ∧ (-4398046511104 ≤ D ∧ D ≤ 4398046511104) ∧ IntKind.i64.wrap (b2 - a2) = D := ⟨_, rfl, by omega, by rw [IntKind.wrap_i64]; omega⟩
  rw [e1, e2]
  have O1 := fun w => fOf D1 (by omega) (by omega) w
  have O2 := fun w => fOf D2 (by omega) (by omega) w
  clear d1 d2 e1 e2 ra rb ha hb
  go_enter Try.func90, Try.ntmps90
  go_upto_region 1 with fail
  refine wp_region_but (S := (fun w' => (w'.cell? ⟨w.heap.size, 0, none⟩ = some (.int .i64 a1) ∧ w'.cell? ⟨w.heap.size, 1, none⟩ = some (.int .i64 a2)) ∧ (w'.cell? ⟨w.heap.size + 1, 0, none⟩ = some (.int .i64 b1) ∧ w'.cell? ⟨w.heap.size + 1, 1, none⟩ = some (.int .i64 b2)))) (k := 13) (n := 13) (by kernel_rfl) (by kernel_rfl) (by (try dsimp only); simp [go_sem]) (fun hHeld => ?_)
  refine wpAnyH_take (i := 0) (oi := { dst := some 5, op := Op.fieldAddr 24 (Operand.tmp 3) 0, type := 0, pos := "cross.go:29", after := #[], guard := none }) (v := ?_) rfl (by kernel_rfl) (by kernel_rfl) (by kernel_rfl) (fun _ _ _ h => h) (Or.inl ⟨by rfl, ?_⟩) (by assumption) ?_
  rotate_left
  · (intro w hSw; (try dsimp only at hSw); go_simp <;> with_reducible rfl)
  (try simp only [Act.put, qA, qB, qC])
  refine wpAnyH_take (i := 1) (oi := { dst := some 6, op := Op.load 3 (Operand.tmp 5), type := 3, pos := "cross.go:29", after := #[{ on := 0, ground := Ground.data }], guard := none }) (v := ?_) rfl (by kernel_rfl) (by kernel_rfl) (by kernel_rfl) (fun _ _ _ h => h) (Or.inl ⟨by rfl, ?_⟩) (by assumption) ?_
  rotate_left
  · (intro w hSw; (try dsimp only at hSw); go_simp <;> with_reducible rfl)
  (try simp only [Act.put, qA, qB, qC])
  refine wpAnyH_take (i := 2) (oi := { dst := some 7, op := Op.fieldAddr 24 (Operand.tmp 2) 0, type := 0, pos := "cross.go:29", after := #[], guard := none }) (v := ?_) rfl (by kernel_rfl) (by kernel_rfl) (by kernel_rfl) (fun _ _ _ h => h) (Or.inl ⟨by rfl, ?_⟩) (by assumption) ?_
  rotate_left
  · (intro w hSw; (try dsimp only at hSw); go_simp <;> with_reducible rfl)
  (try simp only [Act.put, qA, qB, qC])
  refine wpAnyH_take (i := 3) (oi := { dst := some 8, op := Op.load 3 (Operand.tmp 7), type := 3, pos := "cross.go:29", after := #[{ on := 2, ground := Ground.data }], guard := none }) (v := ?_) rfl (by kernel_rfl) (by kernel_rfl) (by kernel_rfl) (fun _ _ _ h => h) (Or.inl ⟨by rfl, ?_⟩) (by assumption) ?_
  rotate_left
  · (intro w hSw; (try dsimp only at hSw); go_simp <;> with_reducible rfl)
  (try simp only [Act.put, qA, qB, qC])
  refine wpAnyH_take (i := 4) (oi := { dst := some 9, op := Op.binOp BinOp.sub 3 (Operand.tmp 6) (Operand.tmp 8) 3, type := 3, pos := "cross.go:29", after := #[{ on := 1, ground := Ground.data }, { on := 3, ground := Ground.data }], guard := none }) (v := ?_) rfl (by kernel_rfl) (by kernel_rfl) (by kernel_rfl) (fun _ _ _ h => h) (Or.inl ⟨by rfl, ?_⟩) (by assumption) ?_
  rotate_left
  · (intro w hSw; (try dsimp only at hSw); go_simp <;> with_reducible rfl)
  (try simp only [Act.put, qA, qB, qC])
  refine wpAnyH_take (i := 6) (oi := { dst := some 11, op := Op.fieldAddr 24 (Operand.tmp 3) 1, type := 0, pos := "cross.go:29", after := #[], guard := none }) (v := ?_) rfl (by kernel_rfl) (by kernel_rfl) (by kernel_rfl) (fun _ _ _ h => h) (Or.inl ⟨by rfl, ?_⟩) (by assumption) ?_
  rotate_left
  · (intro w hSw; (try dsimp only at hSw); go_simp <;> with_reducible rfl)
  (try simp only [Act.put, qA, qB, qC])
  refine wpAnyH_take (i := 7) (oi := { dst := some 12, op := Op.load 3 (Operand.tmp 11), type := 3, pos := "cross.go:29", after := #[{ on := 6, ground := Ground.data }], guard := none }) (v := ?_) rfl (by kernel_rfl) (by kernel_rfl) (by kernel_rfl) (fun _ _ _ h => h) (Or.inl ⟨by rfl, ?_⟩) (by assumption) ?_
  rotate_left
  · (intro w hSw; (try dsimp only at hSw); go_simp <;> with_reducible rfl)
  (try simp only [Act.put, qA, qB, qC])
  refine wpAnyH_take (i := 8) (oi := { dst := some 13, op := Op.fieldAddr 24 (Operand.tmp 2) 1, type := 0, pos := "cross.go:29", after := #[], guard := none }) (v := ?_) rfl (by kernel_rfl) (by kernel_rfl) (by kernel_rfl) (fun _ _ _ h => h) (Or.inl ⟨by rfl, ?_⟩) (by assumption) ?_
  rotate_left
  · (intro w hSw; (try dsimp only at hSw); go_simp <;> with_reducible rfl)
  (try simp only [Act.put, qA, qB, qC])
  refine wpAnyH_take (i := 9) (oi := { dst := some 14, op := Op.load 3 (Operand.tmp 13), type := 3, pos := "cross.go:29", after := #[{ on := 8, ground := Ground.data }], guard := none }) (v := ?_) rfl (by kernel_rfl) (by kernel_rfl) (by kernel_rfl) (fun _ _ _ h => h) (Or.inl ⟨by rfl, ?_⟩) (by assumption) ?_
  rotate_left
  · (intro w hSw; (try dsimp only at hSw); go_simp <;> with_reducible rfl)
  (try simp only [Act.put, qA, qB, qC])
  refine wpAnyH_take (i := 10) (oi := { dst := some 15, op := Op.binOp BinOp.sub 3 (Operand.tmp 12) (Operand.tmp 14) 3, type := 3, pos := "cross.go:29", after := #[{ on := 7, ground := Ground.data }, { on := 9, ground := Ground.data }], guard := none }) (v := ?_) rfl (by kernel_rfl) (by kernel_rfl) (by kernel_rfl) (fun _ _ _ h => h) (Or.inl ⟨by rfl, ?_⟩) (by assumption) ?_
  rotate_left
  · (intro w hSw; (try dsimp only at hSw); go_simp <;> with_reducible rfl)
  (try simp only [Act.put, qA, qB, qC])
  refine wpAnyH_ready (rs := [5]) (by kernel_rfl) (by simp) ?_
  refine AllReadyH.cons (o := { dst := some 10, op := Op.call { callee := Callee.value (Operand.func 38), args := #[Operand.tmp 9], argTypes := #[3] }, type := 44, pos := "cross.go:29", after := #[{ on := 4, ground := Ground.data }], guard := none }) rfl (fun K hK => ?_) ?_
  · go_simp
    refine (O1 _).mono ?_
    rintro e w1 ⟨rfl, os1, m1, rfl⟩
    (try go_wp2_with fail)
    refine hK.out _ _ (by (try dsimp only); simp [go_sem]) (fun hHeld2 => ?_)
    clear hK K hHeld
    have hHeld := hHeld2
    clear hHeld2
    (try simp only [Act.put, qA, qB, qC])
    refine wpAnyH_ready (rs := [11]) (by kernel_rfl) (by simp) ?_
    refine AllReadyH.cons (o := { dst := some 16, op := Op.call { callee := Callee.value (Operand.func 38), args := #[Operand.tmp 15], argTypes := #[3] }, type := 44, pos := "cross.go:29", after := #[{ on := 10, ground := Ground.data }, { on := 5, ground := Ground.chain }], guard := none }) rfl (fun K hK => ?_) ?_
    · go_simp
      refine (O2 _).mono ?_
      rintro e w1 ⟨rfl, os2, m2, rfl⟩
      (try go_wp2_with fail)
      refine hK.out _ _ (by (try dsimp only); simp [go_sem]) (fun hHeld2 => ?_)
      clear hK K hHeld
      have hHeld := hHeld2
      clear hHeld2
      (try simp only [Act.put, qA, qB, qC])
      refine wpAnyH_take (i := 12) (oi := { dst := some 17, op := Op.build 98 #[(0, Operand.tmp 10), (1, Operand.tmp 16)], type := 98, pos := "cross.go:29", after := #[{ on := 5, ground := Ground.data }, { on := 11, ground := Ground.data }], guard := none }) (v := ?_) rfl (by kernel_rfl) (by kernel_rfl) (by kernel_rfl) (fun _ _ _ h => h) (Or.inl ⟨by rfl, ?_⟩) (by assumption) ?_
      rotate_left
      · (intro w hSw; (try dsimp only at hSw); go_simp <;> with_reducible rfl)
      (try simp only [Act.put, qA, qB, qC])
      refine wpAnyH_done (by kernel_rfl) ?_ _
      refine butLast_step (o := { dst := none, op := Op.store 98 (Operand.tmp 4) (Operand.tmp 17), type := 0, pos := "cross.go:29", after := #[{ on := 12, ground := Ground.data }, { on := 11, ground := Ground.chain }, { on := 0, ground := Ground.phase }, { on := 1, ground := Ground.phase }, { on := 2, ground := Ground.phase }, { on := 3, ground := Ground.phase }, { on := 4, ground := Ground.phase }, { on := 5, ground := Ground.phase }, { on := 6, ground := Ground.phase }, { on := 7, ground := Ground.phase }, { on := 8, ground := Ground.phase }, { on := 9, ground := Ground.phase }, { on := 10, ground := Ground.phase }, { on := 11, ground := Ground.phase }, { on := 12, ground := Ground.phase }], guard := none }) rfl (fun K hK => ?_)
      go_simp
      refine hK.out _ _ ?_
      clear hK K
      (try simp only [Act.put, qA, qB, qC])
      go_wp2
      exact bodyPost_ret (v := .agg #[.int .u64 (wd0 D1), .int .u64 (wd1 D1), .int .u64 (wd2 D1), .int .u64 (wd3 D1), .int .u64 (wd0 D2), .int .u64 (wd1 D2), .int .u64 (wd2 D2), .int .u64 (wd3 D2)]) (by simp [results, Try.results90, go_sem]) rfl ⟨rfl, (by with_reducible repeat (first | exact IsGr.refl _ | refine IsGr.gr ?_ _ _ | refine IsGr.alloc ?_ _ | refine IsGr.drew ?_ | refine IsGr.drewN ?_ _))⟩
    exact AllReadyH.nil
  exact AllReadyH.nil

set_option maxRecDepth 20000 in set_option maxHeartbeats 2000000 in
theorem wturn_any (x y u v : Int) (hx : Fit x) (hy : Fit y) (hu : Fit u) (hv : Fit v) (h1 : Fit (x * v)) (h2 : Fit (y * u)) (h3 : Fit (x * v - y * u)) (w : World) :
    Calls Try.prog 72 #[.agg #[.int .u64 (wd0 x), .int .u64 (wd1 x), .int .u64 (wd2 x), .int .u64 (wd3 x), .int .u64 (wd0 y), .int .u64 (wd1 y), .int .u64 (wd2 y), .int .u64 (wd3 y)], .agg #[.int .u64 (wd0 u), .int .u64 (wd1 u), .int .u64 (wd2 u), .int .u64 (wd3 u), .int .u64 (wd0 v), .int .u64 (wd1 v), .int .u64 (wd2 v), .int .u64 (wd3 v)]] w fun e w' => e = .returned (.agg #[.int .u64 (wd0 (x * v - y * u)), .int .u64 (wd1 (x * v - y * u)), .int .u64 (wd2 (x * v - y * u)), .int .u64 (wd3 (x * v - y * u))]) ∧ IsGr w w' := by
  have M1 := fun w => xproduct x v hx hv h1 w
  have M2 := fun w => xproduct y u hy hu h2 w
  have M3 := fun w => xdifference (x * v) (y * u) h1 h2 h3 w
  clear hx hy hu hv h1 h2 h3
  generalize x * v - y * u = D at *
  generalize x * v = P at *
  generalize y * u = R at *
  go_enter Try.func72, Try.ntmps72
  go_upto_region 1 with fail
  refine wp_region_but (S := (fun w' => (w'.cell? ⟨w.heap.size, 0, none⟩ = some (.int .u64 (wd0 x)) ∧ w'.cell? ⟨w.heap.size, 1, none⟩ = some (.int .u64 (wd1 x)) ∧ w'.cell? ⟨w.heap.size, 2, none⟩ = some (.int .u64 (wd2 x)) ∧ w'.cell? ⟨w.heap.size, 3, none⟩ = some (.int .u64 (wd3 x)) ∧ w'.cell? ⟨w.heap.size, 4, none⟩ = some (.int .u64 (wd0 y)) ∧ w'.cell? ⟨w.heap.size, 5, none⟩ = some (.int .u64 (wd1 y)) ∧ w'.cell? ⟨w.heap.size, 6, none⟩ = some (.int .u64 (wd2 y)) ∧ w'.cell? ⟨w.heap.size, 7, none⟩ = some (.int .u64 (wd3 y))) ∧ (w'.cell? ⟨w.heap.size + 1, 0, none⟩ = some (.int .u64 (wd0 u)) ∧ w'.cell? ⟨w.heap.size + 1, 1, none⟩ = some (.int .u64 (wd1 u)) ∧ w'.cell? ⟨w.heap.size + 1, 2, none⟩ = some (.int .u64 (wd2 u)) ∧ w'.cell? ⟨w.heap.size + 1, 3, none⟩ = some (.int .u64 (wd3 u)) ∧ w'.cell? ⟨w.heap.size + 1, 4, none⟩ = some (.int .u64 (wd0 v)) ∧ w'.cell? ⟨w.heap.size + 1, 5, none⟩ = some (.int .u64 (wd1 v)) ∧ w'.cell? ⟨w.heap.size + 1, 6, none⟩ = some (.int .u64 (wd2 v)) ∧ w'.cell? ⟨w.heap.size + 1, 7, none⟩ = some (.int .u64 (wd3 v))))) (k := 11) (n := 11) (by kernel_rfl) (by kernel_rfl) (by (try dsimp only); simp [go_sem]) (fun hHeld => ?_)
  refine wpAnyH_take (i := 0) (oi := { dst := some 5, op := Op.fieldAddr 98 (Operand.tmp 2) 0, type := 0, pos := "cross.go:37", after := #[], guard := none }) (v := ?_) rfl (by kernel_rfl) (by kernel_rfl) (by kernel_rfl) (fun _ _ _ h => h) (Or.inl ⟨by rfl, ?_⟩) (by assumption) ?_
  rotate_left
  · (intro w hSw; (try dsimp only at hSw); go_simp <;> with_reducible rfl)
  (try simp only [Act.put, qA, qB, qC])
  refine wpAnyH_take (i := 1) (oi := { dst := some 6, op := Op.load 44 (Operand.tmp 5), type := 44, pos := "cross.go:37", after := #[{ on := 0, ground := Ground.data }], guard := none }) (v := ?_) rfl (by kernel_rfl) (by kernel_rfl) (by kernel_rfl) (fun _ _ _ h => h) (Or.inl ⟨by rfl, ?_⟩) (by assumption) ?_
  rotate_left
  · (intro w hSw; (try dsimp only at hSw); go_simp <;> with_reducible rfl)
  (try simp only [Act.put, qA, qB, qC])
  refine wpAnyH_take (i := 2) (oi := { dst := some 7, op := Op.fieldAddr 98 (Operand.tmp 3) 1, type := 0, pos := "cross.go:37", after := #[], guard := none }) (v := ?_) rfl (by kernel_rfl) (by kernel_rfl) (by kernel_rfl) (fun _ _ _ h => h) (Or.inl ⟨by rfl, ?_⟩) (by assumption) ?_
  rotate_left
  · (intro w hSw; (try dsimp only at hSw); go_simp <;> with_reducible rfl)
  (try simp only [Act.put, qA, qB, qC])
  refine wpAnyH_take (i := 3) (oi := { dst := some 8, op := Op.load 44 (Operand.tmp 7), type := 44, pos := "cross.go:37", after := #[{ on := 2, ground := Ground.data }], guard := none }) (v := ?_) rfl (by kernel_rfl) (by kernel_rfl) (by kernel_rfl) (fun _ _ _ h => h) (Or.inl ⟨by rfl, ?_⟩) (by assumption) ?_
  rotate_left
  · (intro w hSw; (try dsimp only at hSw); go_simp <;> with_reducible rfl)
  (try simp only [Act.put, qA, qB, qC])
  refine wpAnyH_take (i := 5) (oi := { dst := some 10, op := Op.fieldAddr 98 (Operand.tmp 2) 1, type := 0, pos := "cross.go:37", after := #[], guard := none }) (v := ?_) rfl (by kernel_rfl) (by kernel_rfl) (by kernel_rfl) (fun _ _ _ h => h) (Or.inl ⟨by rfl, ?_⟩) (by assumption) ?_
  rotate_left
  · (intro w hSw; (try dsimp only at hSw); go_simp <;> with_reducible rfl)
  (try simp only [Act.put, qA, qB, qC])
  refine wpAnyH_take (i := 6) (oi := { dst := some 11, op := Op.load 44 (Operand.tmp 10), type := 44, pos := "cross.go:37", after := #[{ on := 5, ground := Ground.data }], guard := none }) (v := ?_) rfl (by kernel_rfl) (by kernel_rfl) (by kernel_rfl) (fun _ _ _ h => h) (Or.inl ⟨by rfl, ?_⟩) (by assumption) ?_
  rotate_left
  · (intro w hSw; (try dsimp only at hSw); go_simp <;> with_reducible rfl)
  (try simp only [Act.put, qA, qB, qC])
  refine wpAnyH_take (i := 7) (oi := { dst := some 12, op := Op.fieldAddr 98 (Operand.tmp 3) 0, type := 0, pos := "cross.go:37", after := #[], guard := none }) (v := ?_) rfl (by kernel_rfl) (by kernel_rfl) (by kernel_rfl) (fun _ _ _ h => h) (Or.inl ⟨by rfl, ?_⟩) (by assumption) ?_
  rotate_left
  · (intro w hSw; (try dsimp only at hSw); go_simp <;> with_reducible rfl)
  (try simp only [Act.put, qA, qB, qC])
  refine wpAnyH_take (i := 8) (oi := { dst := some 13, op := Op.load 44 (Operand.tmp 12), type := 44, pos := "cross.go:37", after := #[{ on := 7, ground := Ground.data }], guard := none }) (v := ?_) rfl (by kernel_rfl) (by kernel_rfl) (by kernel_rfl) (fun _ _ _ h => h) (Or.inl ⟨by rfl, ?_⟩) (by assumption) ?_
  rotate_left
  · (intro w hSw; (try dsimp only at hSw); go_simp <;> with_reducible rfl)
  (try simp only [Act.put, qA, qB, qC])
  refine wpAnyH_ready (rs := [4]) (by kernel_rfl) (by simp) ?_
  refine AllReadyH.cons (o := { dst := some 9, op := Op.call { callee := Callee.value (Operand.func 70), args := #[Operand.tmp 6, Operand.tmp 8], argTypes := #[44, 44] }, type := 44, pos := "cross.go:37", after := #[{ on := 1, ground := Ground.data }, { on := 3, ground := Ground.data }], guard := none }) rfl (fun K hK => ?_) ?_
  · go_simp
    refine (M1 _).mono ?_
    rintro e w1 ⟨rfl, os1, m1, rfl⟩
    (try go_wp2_with fail)
    refine hK.out _ _ (by (try dsimp only); simp [go_sem]) (fun hHeld2 => ?_)
    clear hK K hHeld
    have hHeld := hHeld2
    clear hHeld2
    (try simp only [Act.put, qA, qB, qC])
    refine wpAnyH_ready (rs := [9]) (by kernel_rfl) (by simp) ?_
    refine AllReadyH.cons (o := { dst := some 14, op := Op.call { callee := Callee.value (Operand.func 70), args := #[Operand.tmp 11, Operand.tmp 13], argTypes := #[44, 44] }, type := 44, pos := "cross.go:37", after := #[{ on := 6, ground := Ground.data }, { on := 8, ground := Ground.data }, { on := 4, ground := Ground.chain }], guard := none }) rfl (fun K hK => ?_) ?_
    · go_simp
      refine (M2 _).mono ?_
      rintro e w1 ⟨rfl, os2, m2, rfl⟩
      (try go_wp2_with fail)
      refine hK.out _ _ (by (try dsimp only); simp [go_sem]) (fun hHeld2 => ?_)
      clear hK K hHeld
      have hHeld := hHeld2
      clear hHeld2
      (try simp only [Act.put, qA, qB, qC])
      refine wpAnyH_ready (rs := [10]) (by kernel_rfl) (by simp) ?_
      refine AllReadyH.cons (o := { dst := some 15, op := Op.call { callee := Callee.value (Operand.func 69), args := #[Operand.tmp 9, Operand.tmp 14], argTypes := #[44, 44] }, type := 44, pos := "cross.go:37", after := #[{ on := 4, ground := Ground.data }, { on := 9, ground := Ground.data }, { on := 9, ground := Ground.chain }], guard := none }) rfl (fun K hK => ?_) ?_
      · go_simp
        refine (M3 _).mono ?_
        rintro e w1 ⟨rfl, os3, m3, rfl⟩
        (try go_wp2_with fail)
        refine hK.out _ _ (by (try dsimp only); simp [go_sem]) (fun hHeld2 => ?_)
        clear hK K hHeld
        have hHeld := hHeld2
        clear hHeld2
        (try simp only [Act.put, qA, qB, qC])
        refine wpAnyH_done (by kernel_rfl) ?_ _
        refine butLast_step (o := { dst := none, op := Op.store 44 (Operand.tmp 4) (Operand.tmp 15), type := 0, pos := "cross.go:37", after := #[{ on := 10, ground := Ground.data }, { on := 10, ground := Ground.chain }, { on := 0, ground := Ground.phase }, { on := 1, ground := Ground.phase }, { on := 2, ground := Ground.phase }, { on := 3, ground := Ground.phase }, { on := 4, ground := Ground.phase }, { on := 5, ground := Ground.phase }, { on := 6, ground := Ground.phase }, { on := 7, ground := Ground.phase }, { on := 8, ground := Ground.phase }, { on := 9, ground := Ground.phase }, { on := 10, ground := Ground.phase }], guard := none }) rfl (fun K hK => ?_)
        go_simp
        refine hK.out _ _ ?_
        clear hK K
        (try simp only [Act.put, qA, qB, qC])
        go_wp2
        exact bodyPost_ret (v := .agg #[.int .u64 (wd0 D), .int .u64 (wd1 D), .int .u64 (wd2 D), .int .u64 (wd3 D)]) (by simp [results, Try.results72, go_sem]) rfl ⟨rfl, (by with_reducible repeat (first | exact IsGr.refl _ | refine IsGr.gr ?_ _ _ | refine IsGr.alloc ?_ _ | refine IsGr.drew ?_ | refine IsGr.drewN ?_ _))⟩
      exact AllReadyH.nil
    exact AllReadyH.nil
  exact AllReadyH.nil

set_option maxRecDepth 20000 in set_option maxHeartbeats 2000000 in
theorem way_any (a1 a2 b1 b2 l1 l2 h1 h2 : Int) (H : Ends2 a1 a2 b1 b2 l1 l2 h1 h2) (hr : segR a1 a2 b1 b2 = true) (w : World) :
    Calls Try.prog 71 #[.agg #[.int .i64 a1, .int .i64 a2, .int .i64 b1, .int .i64 b2]] w fun e w' => e = .returned (.agg #[.int .u64 (wd0 (h1 - l1)), .int .u64 (wd1 (h1 - l1)), .int .u64 (wd2 (h1 - l1)), .int .u64 (wd3 (h1 - l1)), .int .u64 (wd0 (h2 - l2)), .int .u64 (wd1 (h2 - l2)), .int .u64 (wd2 (h2 - l2)), .int .u64 (wd3 (h2 - l2))]) ∧ IsGr w w' := by
  have C1 := fun w => Ends_any a1 a2 b1 b2 l1 l2 h1 h2 H w
  have C2 := fun w => between_any l1 l2 h1 h2 (H.right hr).1 (H.right hr).2 w
  clear H hr
  generalize h1 - l1 = D1 at *
  generalize h2 - l2 = D2 at *
  go_enter Try.func71, Try.ntmps71
  go_wp2_with fail
  refine (C1 _).mono ?_
  rintro e w1 ⟨rfl, os1, m1, rfl⟩
  go_wp2_with fail
  refine (C2 _).mono ?_
  rintro e w1 ⟨rfl, os2, m2, rfl⟩
  go_wp2
  exact bodyPost_ret (v := .agg #[.int .u64 (wd0 D1), .int .u64 (wd1 D1), .int .u64 (wd2 D1), .int .u64 (wd3 D1), .int .u64 (wd0 D2), .int .u64 (wd1 D2), .int .u64 (wd2 D2), .int .u64 (wd3 D2)]) (by simp [results, Try.results71, go_sem]) rfl ⟨rfl, (by with_reducible repeat (first | exact IsGr.refl _ | refine IsGr.gr ?_ _ _ | refine IsGr.alloc ?_ _ | refine IsGr.drew ?_ | refine IsGr.drewN ?_ _))⟩
end Go.Proofs.Ytohhlhoijanjfaa
namespace Go.Proofs.Ytohhlhoijanjfaa
open Go.RowKit Go.Shelf
attribute [local go_sem] Gr.size Gr.cell? Gr.frozen? Gr.setCell Gr.drew Gr.drewN Gr.of_drew Gr.of_drewN Gr.gr Gr.lt_of1 Gr.le_of1 Gr.lt_of2 Gr.le_of2 Gr.lt_of3 Gr.le_of3 Gr.lt_of4 Gr.le_of4 Gr.lt_of5 Gr.le_of5 Gr.lt_of6 Gr.le_of6 Gr.lt_of7 Gr.le_of7 Gr.lt_of8 Gr.le_of8 Gr.lt_of9 Gr.le_of9 Gr.lt_of10 Gr.le_of10 Gr.lt_of11 Gr.le_of11 Gr.lt_of12 Gr.le_of12 Gr.lt_of13 Gr.le_of13 Gr.lt_of14 Gr.le_of14 Gr.lt_of15 Gr.le_of15 Gr.lt_of16 Gr.le_of16 Gr.lt_of17 Gr.le_of17 Gr.lt_of18 Gr.le_of18 Gr.lt_of19 Gr.le_of19 Gr.lt_of20 Gr.le_of20 Gr.lt_of21 Gr.le_of21 Gr.lt_of22 Gr.le_of22 Gr.lt_of23 Gr.le_of23 Gr.lt_of24 Gr.le_of24

theorem cmpI_cases (x y : Int) : (cmpI x y = -1 ∧ x < y) ∨ (cmpI x y = 0 ∧ x = y) ∨ (cmpI x y = 1 ∧ y < x) := by
  unfold cmpI
  repeat' split
  all_goals omega
/-- Is n from -r to r? -/
def withinI (n r : Int) : Bool := decide (-r ≤ n ∧ n ≤ r)
/-- Is the spot right? -/
def spotR (x y w : Int) : Bool := decide (1 ≤ w ∧ w ≤ 1237940039285380274899124224) && withinI x (2199023255552 * w) && withinI y (2199023255552 * w)
theorem spotR_t {x y w : Int} (h : spotR x y w = true) : (1 ≤ w ∧ w ≤ 1237940039285380274899124224) ∧ (-(2199023255552 * w) ≤ x ∧ x ≤ 2199023255552 * w) ∧ (-(2199023255552 * w) ≤ y ∧ y ≤ 2199023255552 * w) := by
  simpa [spotR, withinI, Bool.and_eq_true, and_assoc] using h
theorem bits_le {w : Int} (hw : 0 < w) : bitsI (w - 1) ≤ 90 ↔ w ≤ 1237940039285380274899124224 := by
  unfold bitsI
  by_cases h : w - 1 = 0
  · rw [if_pos h]; omega
  · rw [if_neg h]
    have ha : abs (w - 1) = w - 1 := by unfold abs; split <;> omega
    rw [ha]
    obtain ⟨n, hn⟩ : ∃ n : Nat, w - 1 = n := ⟨(w - 1).toNat, by omega⟩
    rw [hn]
    simp only [Int.toNat_natCast]
    have hn0 : n ≠ 0 := by omega
    have h1 : n.log2 < 90 ↔ n < 2 ^ 90 := Nat.log2_lt hn0
    rw [show (2 : Nat) ^ 90 = 1237940039285380274899124224 from by decide +kernel] at h1
    omega


set_option maxRecDepth 20000 in set_option maxHeartbeats 2000000 in
theorem At_no (a1 a2 : Int) (h : rightP a1 a2 = false) (w : World) : Calls Try.prog 37 #[.agg #[.int .i64 a1, .int .i64 a2]] w fun e w' => e = .returned (.agg #[.int .u64 0, .int .u64 0, .int .u64 0, .int .u64 0, .int .u64 0, .int .u64 0, .int .u64 0, .int .u64 0, .int .u64 0, .int .u64 0, .int .u64 0, .int .u64 0]) ∧ IsGr w w' := by
  have C1 := fun w => PRight_any a1 a2 w
  rw [h] at C1
  go_enter Try.func37, Try.ntmps37
  go_wp2_with fail
  refine (C1 _).mono ?_
  rintro e w1 ⟨rfl, os1, m1, rfl⟩
  go_wp2
  exact bodyPost_ret (v := .agg #[.int .u64 0, .int .u64 0, .int .u64 0, .int .u64 0, .int .u64 0, .int .u64 0, .int .u64 0, .int .u64 0, .int .u64 0, .int .u64 0, .int .u64 0, .int .u64 0]) (by simp [results, Try.results37, go_sem]) rfl ⟨rfl, (by with_reducible repeat (first | exact IsGr.refl _ | refine IsGr.gr ?_ _ _ | refine IsGr.alloc ?_ _ | refine IsGr.drew ?_ | refine IsGr.drewN ?_ _))⟩
set_option maxRecDepth 20000 in set_option maxHeartbeats 2000000 in
theorem At_yes (a1 a2 : Int) (h : rightP a1 a2 = true) (w : World) : Calls Try.prog 37 #[.agg #[.int .i64 a1, .int .i64 a2]] w fun e w' => e = .returned (.agg #[.int .u64 (wd0 a1), .int .u64 (wd1 a1), .int .u64 (wd2 a1), .int .u64 (wd3 a1), .int .u64 (wd0 a2), .int .u64 (wd1 a2), .int .u64 (wd2 a2), .int .u64 (wd3 a2), .int .u64 (wd0 1), .int .u64 (wd1 1), .int .u64 (wd2 1), .int .u64 (wd3 1)]) ∧ IsGr w w' := by
  have C1 := fun w => PRight_any a1 a2 w
  have r := rightP_t h
  have O1 := fun w => fOf a1 (by omega) (by omega) w
  have O2 := fun w => fOf a2 (by omega) (by omega) w
  have O3 := fun w => fOf 1 (by omega) (by omega) w
  rw [h] at C1
  clear r
  go_enter Try.func37, Try.ntmps37
  go_wp2_with fail
  refine (C1 _).mono ?_
  rintro e w1 ⟨rfl, os1, m1, rfl⟩
  go_upto_region 3 with fail
  refine wp_region_but (S := (fun w' => (w'.cell? ⟨w.heap.size, 0, none⟩ = some (.int .i64 a1) ∧ w'.cell? ⟨w.heap.size, 1, none⟩ = some (.int .i64 a2)))) (k := 8) (n := 8) (by kernel_rfl) (by kernel_rfl) (by (try dsimp only); simp [go_sem]) (fun hHeld => ?_)
  refine wpAnyH_take (i := 0) (oi := { dst := some 7, op := Op.fieldAddr 24 (Operand.tmp 1) 0, type := 0, pos := "spot.go:43", after := #[], guard := none }) (v := ?_) rfl (by kernel_rfl) (by kernel_rfl) (by kernel_rfl) (fun _ _ _ h => h) (Or.inl ⟨by rfl, ?_⟩) (by assumption) ?_
  rotate_left
  · (intro w hSw; (try dsimp only at hSw); go_simp <;> with_reducible rfl)
  (try simp only [Act.put, qA, qB, qC])
  refine wpAnyH_take (i := 1) (oi := { dst := some 8, op := Op.load 3 (Operand.tmp 7), type := 3, pos := "spot.go:43", after := #[{ on := 0, ground := Ground.data }], guard := none }) (v := ?_) rfl (by kernel_rfl) (by kernel_rfl) (by kernel_rfl) (fun _ _ _ h => h) (Or.inl ⟨by rfl, ?_⟩) (by assumption) ?_
  rotate_left
  · (intro w hSw; (try dsimp only at hSw); go_simp <;> with_reducible rfl)
  (try simp only [Act.put, qA, qB, qC])
  refine wpAnyH_take (i := 3) (oi := { dst := some 10, op := Op.fieldAddr 24 (Operand.tmp 1) 1, type := 0, pos := "spot.go:43", after := #[], guard := none }) (v := ?_) rfl (by kernel_rfl) (by kernel_rfl) (by kernel_rfl) (fun _ _ _ h => h) (Or.inl ⟨by rfl, ?_⟩) (by assumption) ?_
  rotate_left
  · (intro w hSw; (try dsimp only at hSw); go_simp <;> with_reducible rfl)
  (try simp only [Act.put, qA, qB, qC])
  refine wpAnyH_take (i := 4) (oi := { dst := some 11, op := Op.load 3 (Operand.tmp 10), type := 3, pos := "spot.go:43", after := #[{ on := 3, ground := Ground.data }], guard := none }) (v := ?_) rfl (by kernel_rfl) (by kernel_rfl) (by kernel_rfl) (fun _ _ _ h => h) (Or.inl ⟨by rfl, ?_⟩) (by assumption) ?_
  rotate_left
  · (intro w hSw; (try dsimp only at hSw); go_simp <;> with_reducible rfl)
  (try simp only [Act.put, qA, qB, qC])
  refine wpAnyH_ready (rs := [2]) (by kernel_rfl) (by simp) ?_
  refine AllReadyH.cons (o := { dst := some 9, op := Op.call { callee := Callee.value (Operand.func 38), args := #[Operand.tmp 8], argTypes := #[3] }, type := 44, pos := "spot.go:43", after := #[{ on := 1, ground := Ground.data }], guard := none }) rfl (fun K hK => ?_) ?_
  · go_simp
    refine (O1 _).mono ?_
    rintro e w1 ⟨rfl, os2, m2, rfl⟩
    (try go_wp2_with fail)
    refine hK.out _ _ (by (try dsimp only); simp [go_sem]) (fun hHeld2 => ?_)
    clear hK K hHeld
    have hHeld := hHeld2
    clear hHeld2
    (try simp only [Act.put, qA, qB, qC])
    refine wpAnyH_ready (rs := [5]) (by kernel_rfl) (by simp) ?_
    refine AllReadyH.cons (o := { dst := some 12, op := Op.call { callee := Callee.value (Operand.func 38), args := #[Operand.tmp 11], argTypes := #[3] }, type := 44, pos := "spot.go:43", after := #[{ on := 4, ground := Ground.data }, { on := 2, ground := Ground.chain }], guard := none }) rfl (fun K hK => ?_) ?_
    · go_simp
      refine (O2 _).mono ?_
      rintro e w1 ⟨rfl, os3, m3, rfl⟩
      (try go_wp2_with fail)
      refine hK.out _ _ (by (try dsimp only); simp [go_sem]) (fun hHeld2 => ?_)
      clear hK K hHeld
      have hHeld := hHeld2
      clear hHeld2
      (try simp only [Act.put, qA, qB, qC])
      refine wpAnyH_ready (rs := [6]) (by kernel_rfl) (by simp) ?_
      refine AllReadyH.cons (o := { dst := some 13, op := Op.call { callee := Callee.value (Operand.func 38), args := #[Operand.const (Value.int IntKind.i64 1)], argTypes := #[3] }, type := 44, pos := "spot.go:43", after := #[{ on := 5, ground := Ground.chain }], guard := none }) rfl (fun K hK => ?_) ?_
      · go_simp
        refine (O3 _).mono ?_
        rintro e w1 ⟨rfl, os4, m4, rfl⟩
        (try go_wp2_with fail)
        refine hK.out _ _ (by (try dsimp only); simp [go_sem]) (fun hHeld2 => ?_)
        clear hK K hHeld
        have hHeld := hHeld2
        clear hHeld2
        (try simp only [Act.put, qA, qB, qC])
        refine wpAnyH_take (i := 7) (oi := { dst := some 14, op := Op.build 46 #[(0, Operand.tmp 9), (1, Operand.tmp 12), (2, Operand.tmp 13)], type := 46, pos := "spot.go:43", after := #[{ on := 2, ground := Ground.data }, { on := 5, ground := Ground.data }, { on := 6, ground := Ground.data }], guard := none }) (v := ?_) rfl (by kernel_rfl) (by kernel_rfl) (by kernel_rfl) (fun _ _ _ h => h) (Or.inl ⟨by rfl, ?_⟩) (by assumption) ?_
        rotate_left
        · (intro w hSw; (try dsimp only at hSw); go_simp <;> with_reducible rfl)
        (try simp only [Act.put, qA, qB, qC])
        refine wpAnyH_done (by kernel_rfl) ?_ _
        refine butLast_step (o := { dst := none, op := Op.store 46 (Operand.tmp 2) (Operand.tmp 14), type := 0, pos := "spot.go:43", after := #[{ on := 7, ground := Ground.data }, { on := 6, ground := Ground.chain }, { on := 0, ground := Ground.phase }, { on := 1, ground := Ground.phase }, { on := 2, ground := Ground.phase }, { on := 3, ground := Ground.phase }, { on := 4, ground := Ground.phase }, { on := 5, ground := Ground.phase }, { on := 6, ground := Ground.phase }, { on := 7, ground := Ground.phase }], guard := none }) rfl (fun K hK => ?_)
        go_simp
        refine hK.out _ _ ?_
        clear hK K
        (try simp only [Act.put, qA, qB, qC])
        go_wp2
        exact bodyPost_ret (v := .agg #[.int .u64 (wd0 a1), .int .u64 (wd1 a1), .int .u64 (wd2 a1), .int .u64 (wd3 a1), .int .u64 (wd0 a2), .int .u64 (wd1 a2), .int .u64 (wd2 a2), .int .u64 (wd3 a2), .int .u64 (wd0 1), .int .u64 (wd1 1), .int .u64 (wd2 1), .int .u64 (wd3 1)]) (by simp [results, Try.results37, go_sem]) rfl ⟨rfl, (by with_reducible repeat (first | exact IsGr.refl _ | refine IsGr.gr ?_ _ _ | refine IsGr.alloc ?_ _ | refine IsGr.drew ?_ | refine IsGr.drewN ?_ _))⟩
      exact AllReadyH.nil
    exact AllReadyH.nil
  exact AllReadyH.nil

set_option maxRecDepth 20000 in set_option maxHeartbeats 2000000 in
theorem within_any (n r : Int) (hn : Fit n) (hr : Fit r) (hr' : Fit (-r)) (w : World) : Calls Try.prog 75 #[.agg #[.int .u64 (wd0 n), .int .u64 (wd1 n), .int .u64 (wd2 n), .int .u64 (wd3 n)], .agg #[.int .u64 (wd0 r), .int .u64 (wd1 r), .int .u64 (wd2 r), .int .u64 (wd3 r)]] w fun e w' => e = .returned (.bool (withinI n r)) ∧ IsGr w w' := by
  have C1 := fun w => fCmp n r hn hr w
  obtain ⟨m, hm⟩ : ∃ m, m = -r := ⟨_, rfl⟩
  rw [← hm] at hr'
  have C2 := fun w => xnegative r m hr hm hr' w
  have C3 := fun w => fCmp n m hn hr' w
  obtain ⟨Y, hY⟩ : ∃ Y, Y = cmpI n m := ⟨_, rfl⟩
  rw [← hY] at C3
  clear hn hr hr'
  rcases cmpI_cases n r with ⟨e1, g1⟩ | ⟨e1, g1⟩ | ⟨e1, g1⟩
  · rw [e1] at C1
    have HR : Hid (decide (0 ≤ Y) = withinI n r) := by
      unfold Hid withinI
      rcases cmpI_cases n m with ⟨e2, g2⟩ | ⟨e2, g2⟩ | ⟨e2, g2⟩ <;> (try rw [e2] at hY) <;> (try rw [hY]) <;> rw [Bool.eq_iff_iff] <;> simp <;> omega
    clear hY g1 hm
    go_enter Try.func75, Try.ntmps75
    go_upto_region 1 with fail
    obtain ⟨C, hin, hcl, hcells, hgr⟩ : ∃ C : World → Prop, (∀ w', w.heap.size + 2 ≤ w'.heap.size ∧ IsGr w w' ∧ (w'.cell? ⟨w.heap.size, 0, none⟩ = some (.int .u64 (wd0 n)) ∧ w'.cell? ⟨w.heap.size, 1, none⟩ = some (.int .u64 (wd1 n)) ∧ w'.cell? ⟨w.heap.size, 2, none⟩ = some (.int .u64 (wd2 n)) ∧ w'.cell? ⟨w.heap.size, 3, none⟩ = some (.int .u64 (wd3 n))) ∧ (w'.cell? ⟨w.heap.size + 1, 0, none⟩ = some (.int .u64 (wd0 r)) ∧ w'.cell? ⟨w.heap.size + 1, 1, none⟩ = some (.int .u64 (wd1 r)) ∧ w'.cell? ⟨w.heap.size + 1, 2, none⟩ = some (.int .u64 (wd2 r)) ∧ w'.cell? ⟨w.heap.size + 1, 3, none⟩ = some (.int .u64 (wd3 r))) → C w') ∧ (∀ u u', C u → IsGr u u' → C u') ∧ (∀ w', C w' → (w'.cell? ⟨w.heap.size, 0, none⟩ = some (.int .u64 (wd0 n)) ∧ w'.cell? ⟨w.heap.size, 1, none⟩ = some (.int .u64 (wd1 n)) ∧ w'.cell? ⟨w.heap.size, 2, none⟩ = some (.int .u64 (wd2 n)) ∧ w'.cell? ⟨w.heap.size, 3, none⟩ = some (.int .u64 (wd3 n))) ∧ (w'.cell? ⟨w.heap.size + 1, 0, none⟩ = some (.int .u64 (wd0 r)) ∧ w'.cell? ⟨w.heap.size + 1, 1, none⟩ = some (.int .u64 (wd1 r)) ∧ w'.cell? ⟨w.heap.size + 1, 2, none⟩ = some (.int .u64 (wd2 r)) ∧ w'.cell? ⟨w.heap.size + 1, 3, none⟩ = some (.int .u64 (wd3 r)))) ∧ (∀ w', C w' → IsGr w w' ∧ w.heap.size + 2 ≤ w'.heap.size) := by
      refine ⟨fun w' => w.heap.size + 2 ≤ w'.heap.size ∧ IsGr w w' ∧ (w'.cell? ⟨w.heap.size, 0, none⟩ = some (.int .u64 (wd0 n)) ∧ w'.cell? ⟨w.heap.size, 1, none⟩ = some (.int .u64 (wd1 n)) ∧ w'.cell? ⟨w.heap.size, 2, none⟩ = some (.int .u64 (wd2 n)) ∧ w'.cell? ⟨w.heap.size, 3, none⟩ = some (.int .u64 (wd3 n))) ∧ (w'.cell? ⟨w.heap.size + 1, 0, none⟩ = some (.int .u64 (wd0 r)) ∧ w'.cell? ⟨w.heap.size + 1, 1, none⟩ = some (.int .u64 (wd1 r)) ∧ w'.cell? ⟨w.heap.size + 1, 2, none⟩ = some (.int .u64 (wd2 r)) ∧ w'.cell? ⟨w.heap.size + 1, 3, none⟩ = some (.int .u64 (wd3 r))), fun w' h => h, ?_, fun w' h => h.2.2, fun w' h => ⟨h.2.1, h.1⟩⟩
      rintro u u' ⟨h0, h1, h2⟩ hg
      refine ⟨Nat.le_trans h0 hg.size, h1.trans hg, ?_⟩
      exact ⟨⟨hg.cell_at (by omega) h2.1.1, hg.cell_at (by omega) h2.1.2.1, hg.cell_at (by omega) h2.1.2.2.1, hg.cell_at (by omega) h2.1.2.2.2⟩, ⟨hg.cell_at (by omega) h2.2.1, hg.cell_at (by omega) h2.2.2.1, hg.cell_at (by omega) h2.2.2.2.1, hg.cell_at (by omega) h2.2.2.2.2⟩⟩
    refine wp_region_quietV C (by kernel_rfl) (by kernel_rfl) (hin _ ⟨by first | omega | (simp; done) | (simp; omega) | (simp [Gr.size]; done) | (simp [Gr.size]; omega), (by with_reducible repeat (first | exact IsGr.refl _ | refine IsGr.gr ?_ _ _ | refine IsGr.alloc ?_ _ | refine IsGr.drew ?_ | refine IsGr.drewN ?_ _)), by simp [go_sem]⟩) (fun K HK => ?_)
    refine QK.take HK ?_ (by rfl) ?_ ?_
    rotate_left
    · (intro w hw; (try have hcs := hcells w hw); (try go_split_ands); go_simp <;> with_reducible rfl)
    (try simp only [Act.put, qA, qB, qC])
    refine QK.take HK ?_ (by rfl) ?_ ?_
    rotate_left
    · (intro w hw; (try have hcs := hcells w hw); (try go_split_ands); go_simp <;> with_reducible rfl)
    (try simp only [Act.put, qA, qB, qC])
    refine QK.call HK 96 #[.agg #[.int .u64 (wd0 n), .int .u64 (wd1 n), .int .u64 (wd2 n), .int .u64 (wd3 n)], .agg #[.int .u64 (wd0 r), .int .u64 (wd1 r), .int .u64 (wd2 r), .int .u64 (wd3 r)]] (.int .i64 (-1)) hcl (by rfl) (fun w => by go_simp) C1 ?_
    (try simp only [Act.put, qA, qB, qC])
    refine QK.take HK ?_ (by rfl) ?_ ?_
    rotate_left
    · (intro w hw; (try have hcs := hcells w hw); (try go_split_ands); go_simp <;> with_reducible rfl)
    (try simp only [Act.put, qA, qB, qC])
    refine QK.take HK ?_ (by rfl) ?_ ?_
    rotate_left
    · (intro w hw; (try have hcs := hcells w hw); (try go_split_ands); go_simp <;> with_reducible rfl)
    (try simp only [Act.put, qA, qB, qC])
    refine QK.take HK ?_ (by rfl) ?_ ?_
    rotate_left
    · (intro w hw; (try have hcs := hcells w hw); (try go_split_ands); go_simp <;> with_reducible rfl)
    (try simp only [Act.put, qA, qB, qC])
    refine QK.take HK ?_ (by rfl) ?_ ?_
    rotate_left
    · (intro w hw; (try have hcs := hcells w hw); (try go_split_ands); go_simp <;> with_reducible rfl)
    (try simp only [Act.put, qA, qB, qC])
    refine QK.call HK 91 #[.agg #[.int .u64 (wd0 r), .int .u64 (wd1 r), .int .u64 (wd2 r), .int .u64 (wd3 r)]] (.agg #[.int .u64 (wd0 m), .int .u64 (wd1 m), .int .u64 (wd2 m), .int .u64 (wd3 m)]) hcl (by rfl) (fun w => by go_simp) C2 ?_
    (try simp only [Act.put, qA, qB, qC])
    refine QK.call HK 96 #[.agg #[.int .u64 (wd0 n), .int .u64 (wd1 n), .int .u64 (wd2 n), .int .u64 (wd3 n)], .agg #[.int .u64 (wd0 m), .int .u64 (wd1 m), .int .u64 (wd2 m), .int .u64 (wd3 m)]] (.int .i64 Y) hcl (by rfl) (fun w => by go_simp) C3 ?_
    (try simp only [Act.put, qA, qB, qC])
    refine QK.take HK ?_ (by rfl) ?_ ?_
    rotate_left
    · (intro w hw; (try have hcs := hcells w hw); (try go_split_ands); go_simp <;> with_reducible rfl)
    (try simp only [Act.put, qA, qB, qC])
    refine QK.take HK ?_ (by rfl) ?_ ?_
    rotate_left
    · (intro w hw; (try have hcs := hcells w hw); (try go_split_ands); go_simp <;> with_reducible rfl)
    (try simp only [Act.put, qA, qB, qC])
    refine QK.take HK ?_ (by rfl) ?_ ?_
    rotate_left
    · (intro w hw; (try have hcs := hcells w hw); (try go_split_ands); go_simp <;> with_reducible rfl)
    (try simp only [Act.put, qA, qB, qC])
    refine QK.nil HK ?_
    clear HK K
    intro wq hq
    have hg := (hgr wq hq).1
    clear hcells hin hcl hgr hq
    go_wp2
    go_ret
    exact ⟨ret_bool HR.out, hg⟩
  · rw [e1] at C1
    have HR : Hid (decide (0 ≤ Y) = withinI n r) := by
      unfold Hid withinI
      rcases cmpI_cases n m with ⟨e2, g2⟩ | ⟨e2, g2⟩ | ⟨e2, g2⟩ <;> (try rw [e2] at hY) <;> (try rw [hY]) <;> rw [Bool.eq_iff_iff] <;> simp <;> omega
    clear hY g1 hm
    go_enter Try.func75, Try.ntmps75
    go_upto_region 1 with fail
    obtain ⟨C, hin, hcl, hcells, hgr⟩ : ∃ C : World → Prop, (∀ w', w.heap.size + 2 ≤ w'.heap.size ∧ IsGr w w' ∧ (w'.cell? ⟨w.heap.size, 0, none⟩ = some (.int .u64 (wd0 n)) ∧ w'.cell? ⟨w.heap.size, 1, none⟩ = some (.int .u64 (wd1 n)) ∧ w'.cell? ⟨w.heap.size, 2, none⟩ = some (.int .u64 (wd2 n)) ∧ w'.cell? ⟨w.heap.size, 3, none⟩ = some (.int .u64 (wd3 n))) ∧ (w'.cell? ⟨w.heap.size + 1, 0, none⟩ = some (.int .u64 (wd0 r)) ∧ w'.cell? ⟨w.heap.size + 1, 1, none⟩ = some (.int .u64 (wd1 r)) ∧ w'.cell? ⟨w.heap.size + 1, 2, none⟩ = some (.int .u64 (wd2 r)) ∧ w'.cell? ⟨w.heap.size + 1, 3, none⟩ = some (.int .u64 (wd3 r))) → C w') ∧ (∀ u u', C u → IsGr u u' → C u') ∧ (∀ w', C w' → (w'.cell? ⟨w.heap.size, 0, none⟩ = some (.int .u64 (wd0 n)) ∧ w'.cell? ⟨w.heap.size, 1, none⟩ = some (.int .u64 (wd1 n)) ∧ w'.cell? ⟨w.heap.size, 2, none⟩ = some (.int .u64 (wd2 n)) ∧ w'.cell? ⟨w.heap.size, 3, none⟩ = some (.int .u64 (wd3 n))) ∧ (w'.cell? ⟨w.heap.size + 1, 0, none⟩ = some (.int .u64 (wd0 r)) ∧ w'.cell? ⟨w.heap.size + 1, 1, none⟩ = some (.int .u64 (wd1 r)) ∧ w'.cell? ⟨w.heap.size + 1, 2, none⟩ = some (.int .u64 (wd2 r)) ∧ w'.cell? ⟨w.heap.size + 1, 3, none⟩ = some (.int .u64 (wd3 r)))) ∧ (∀ w', C w' → IsGr w w' ∧ w.heap.size + 2 ≤ w'.heap.size) := by
      refine ⟨fun w' => w.heap.size + 2 ≤ w'.heap.size ∧ IsGr w w' ∧ (w'.cell? ⟨w.heap.size, 0, none⟩ = some (.int .u64 (wd0 n)) ∧ w'.cell? ⟨w.heap.size, 1, none⟩ = some (.int .u64 (wd1 n)) ∧ w'.cell? ⟨w.heap.size, 2, none⟩ = some (.int .u64 (wd2 n)) ∧ w'.cell? ⟨w.heap.size, 3, none⟩ = some (.int .u64 (wd3 n))) ∧ (w'.cell? ⟨w.heap.size + 1, 0, none⟩ = some (.int .u64 (wd0 r)) ∧ w'.cell? ⟨w.heap.size + 1, 1, none⟩ = some (.int .u64 (wd1 r)) ∧ w'.cell? ⟨w.heap.size + 1, 2, none⟩ = some (.int .u64 (wd2 r)) ∧ w'.cell? ⟨w.heap.size + 1, 3, none⟩ = some (.int .u64 (wd3 r))), fun w' h => h, ?_, fun w' h => h.2.2, fun w' h => ⟨h.2.1, h.1⟩⟩
      rintro u u' ⟨h0, h1, h2⟩ hg
      refine ⟨Nat.le_trans h0 hg.size, h1.trans hg, ?_⟩
      exact ⟨⟨hg.cell_at (by omega) h2.1.1, hg.cell_at (by omega) h2.1.2.1, hg.cell_at (by omega) h2.1.2.2.1, hg.cell_at (by omega) h2.1.2.2.2⟩, ⟨hg.cell_at (by omega) h2.2.1, hg.cell_at (by omega) h2.2.2.1, hg.cell_at (by omega) h2.2.2.2.1, hg.cell_at (by omega) h2.2.2.2.2⟩⟩
    refine wp_region_quietV C (by kernel_rfl) (by kernel_rfl) (hin _ ⟨by first | omega | (simp; done) | (simp; omega) | (simp [Gr.size]; done) | (simp [Gr.size]; omega), (by with_reducible repeat (first | exact IsGr.refl _ | refine IsGr.gr ?_ _ _ | refine IsGr.alloc ?_ _ | refine IsGr.drew ?_ | refine IsGr.drewN ?_ _)), by simp [go_sem]⟩) (fun K HK => ?_)
    refine QK.take HK ?_ (by rfl) ?_ ?_
    rotate_left
    · (intro w hw; (try have hcs := hcells w hw); (try go_split_ands); go_simp <;> with_reducible rfl)
    (try simp only [Act.put, qA, qB, qC])
    refine QK.take HK ?_ (by rfl) ?_ ?_
    rotate_left
    · (intro w hw; (try have hcs := hcells w hw); (try go_split_ands); go_simp <;> with_reducible rfl)
    (try simp only [Act.put, qA, qB, qC])
    refine QK.call HK 96 #[.agg #[.int .u64 (wd0 n), .int .u64 (wd1 n), .int .u64 (wd2 n), .int .u64 (wd3 n)], .agg #[.int .u64 (wd0 r), .int .u64 (wd1 r), .int .u64 (wd2 r), .int .u64 (wd3 r)]] (.int .i64 (0)) hcl (by rfl) (fun w => by go_simp) C1 ?_
    (try simp only [Act.put, qA, qB, qC])
    refine QK.take HK ?_ (by rfl) ?_ ?_
    rotate_left
    · (intro w hw; (try have hcs := hcells w hw); (try go_split_ands); go_simp <;> with_reducible rfl)
    (try simp only [Act.put, qA, qB, qC])
    refine QK.take HK ?_ (by rfl) ?_ ?_
    rotate_left
    · (intro w hw; (try have hcs := hcells w hw); (try go_split_ands); go_simp <;> with_reducible rfl)
    (try simp only [Act.put, qA, qB, qC])
    refine QK.take HK ?_ (by rfl) ?_ ?_
    rotate_left
    · (intro w hw; (try have hcs := hcells w hw); (try go_split_ands); go_simp <;> with_reducible rfl)
    (try simp only [Act.put, qA, qB, qC])
    refine QK.take HK ?_ (by rfl) ?_ ?_
    rotate_left
    · (intro w hw; (try have hcs := hcells w hw); (try go_split_ands); go_simp <;> with_reducible rfl)
    (try simp only [Act.put, qA, qB, qC])
    refine QK.call HK 91 #[.agg #[.int .u64 (wd0 r), .int .u64 (wd1 r), .int .u64 (wd2 r), .int .u64 (wd3 r)]] (.agg #[.int .u64 (wd0 m), .int .u64 (wd1 m), .int .u64 (wd2 m), .int .u64 (wd3 m)]) hcl (by rfl) (fun w => by go_simp) C2 ?_
    (try simp only [Act.put, qA, qB, qC])
    refine QK.call HK 96 #[.agg #[.int .u64 (wd0 n), .int .u64 (wd1 n), .int .u64 (wd2 n), .int .u64 (wd3 n)], .agg #[.int .u64 (wd0 m), .int .u64 (wd1 m), .int .u64 (wd2 m), .int .u64 (wd3 m)]] (.int .i64 Y) hcl (by rfl) (fun w => by go_simp) C3 ?_
    (try simp only [Act.put, qA, qB, qC])
    refine QK.take HK ?_ (by rfl) ?_ ?_
    rotate_left
    · (intro w hw; (try have hcs := hcells w hw); (try go_split_ands); go_simp <;> with_reducible rfl)
    (try simp only [Act.put, qA, qB, qC])
    refine QK.take HK ?_ (by rfl) ?_ ?_
    rotate_left
    · (intro w hw; (try have hcs := hcells w hw); (try go_split_ands); go_simp <;> with_reducible rfl)
    (try simp only [Act.put, qA, qB, qC])
    refine QK.take HK ?_ (by rfl) ?_ ?_
    rotate_left
    · (intro w hw; (try have hcs := hcells w hw); (try go_split_ands); go_simp <;> with_reducible rfl)
    (try simp only [Act.put, qA, qB, qC])
    refine QK.nil HK ?_
    clear HK K
    intro wq hq
    have hg := (hgr wq hq).1
    clear hcells hin hcl hgr hq
    go_wp2
    go_ret
    exact ⟨ret_bool HR.out, hg⟩
  · rw [e1] at C1
    have HR : Hid (false = withinI n r) := by unfold Hid withinI; rw [Bool.eq_iff_iff]; simp; omega
    clear hY g1 hm
    go_enter Try.func75, Try.ntmps75
    go_upto_region 1 with fail
    obtain ⟨C, hin, hcl, hcells, hgr⟩ : ∃ C : World → Prop, (∀ w', w.heap.size + 2 ≤ w'.heap.size ∧ IsGr w w' ∧ (w'.cell? ⟨w.heap.size, 0, none⟩ = some (.int .u64 (wd0 n)) ∧ w'.cell? ⟨w.heap.size, 1, none⟩ = some (.int .u64 (wd1 n)) ∧ w'.cell? ⟨w.heap.size, 2, none⟩ = some (.int .u64 (wd2 n)) ∧ w'.cell? ⟨w.heap.size, 3, none⟩ = some (.int .u64 (wd3 n))) ∧ (w'.cell? ⟨w.heap.size + 1, 0, none⟩ = some (.int .u64 (wd0 r)) ∧ w'.cell? ⟨w.heap.size + 1, 1, none⟩ = some (.int .u64 (wd1 r)) ∧ w'.cell? ⟨w.heap.size + 1, 2, none⟩ = some (.int .u64 (wd2 r)) ∧ w'.cell? ⟨w.heap.size + 1, 3, none⟩ = some (.int .u64 (wd3 r))) → C w') ∧ (∀ u u', C u → IsGr u u' → C u') ∧ (∀ w', C w' → (w'.cell? ⟨w.heap.size, 0, none⟩ = some (.int .u64 (wd0 n)) ∧ w'.cell? ⟨w.heap.size, 1, none⟩ = some (.int .u64 (wd1 n)) ∧ w'.cell? ⟨w.heap.size, 2, none⟩ = some (.int .u64 (wd2 n)) ∧ w'.cell? ⟨w.heap.size, 3, none⟩ = some (.int .u64 (wd3 n))) ∧ (w'.cell? ⟨w.heap.size + 1, 0, none⟩ = some (.int .u64 (wd0 r)) ∧ w'.cell? ⟨w.heap.size + 1, 1, none⟩ = some (.int .u64 (wd1 r)) ∧ w'.cell? ⟨w.heap.size + 1, 2, none⟩ = some (.int .u64 (wd2 r)) ∧ w'.cell? ⟨w.heap.size + 1, 3, none⟩ = some (.int .u64 (wd3 r)))) ∧ (∀ w', C w' → IsGr w w' ∧ w.heap.size + 2 ≤ w'.heap.size) := by
      refine ⟨fun w' => w.heap.size + 2 ≤ w'.heap.size ∧ IsGr w w' ∧ (w'.cell? ⟨w.heap.size, 0, none⟩ = some (.int .u64 (wd0 n)) ∧ w'.cell? ⟨w.heap.size, 1, none⟩ = some (.int .u64 (wd1 n)) ∧ w'.cell? ⟨w.heap.size, 2, none⟩ = some (.int .u64 (wd2 n)) ∧ w'.cell? ⟨w.heap.size, 3, none⟩ = some (.int .u64 (wd3 n))) ∧ (w'.cell? ⟨w.heap.size + 1, 0, none⟩ = some (.int .u64 (wd0 r)) ∧ w'.cell? ⟨w.heap.size + 1, 1, none⟩ = some (.int .u64 (wd1 r)) ∧ w'.cell? ⟨w.heap.size + 1, 2, none⟩ = some (.int .u64 (wd2 r)) ∧ w'.cell? ⟨w.heap.size + 1, 3, none⟩ = some (.int .u64 (wd3 r))), fun w' h => h, ?_, fun w' h => h.2.2, fun w' h => ⟨h.2.1, h.1⟩⟩
      rintro u u' ⟨h0, h1, h2⟩ hg
      refine ⟨Nat.le_trans h0 hg.size, h1.trans hg, ?_⟩
      exact ⟨⟨hg.cell_at (by omega) h2.1.1, hg.cell_at (by omega) h2.1.2.1, hg.cell_at (by omega) h2.1.2.2.1, hg.cell_at (by omega) h2.1.2.2.2⟩, ⟨hg.cell_at (by omega) h2.2.1, hg.cell_at (by omega) h2.2.2.1, hg.cell_at (by omega) h2.2.2.2.1, hg.cell_at (by omega) h2.2.2.2.2⟩⟩
    refine wp_region_quietV C (by kernel_rfl) (by kernel_rfl) (hin _ ⟨by first | omega | (simp; done) | (simp; omega) | (simp [Gr.size]; done) | (simp [Gr.size]; omega), (by with_reducible repeat (first | exact IsGr.refl _ | refine IsGr.gr ?_ _ _ | refine IsGr.alloc ?_ _ | refine IsGr.drew ?_ | refine IsGr.drewN ?_ _)), by simp [go_sem]⟩) (fun K HK => ?_)
    refine QK.take HK ?_ (by rfl) ?_ ?_
    rotate_left
    · (intro w hw; (try have hcs := hcells w hw); (try go_split_ands); go_simp <;> with_reducible rfl)
    (try simp only [Act.put, qA, qB, qC])
    refine QK.take HK ?_ (by rfl) ?_ ?_
    rotate_left
    · (intro w hw; (try have hcs := hcells w hw); (try go_split_ands); go_simp <;> with_reducible rfl)
    (try simp only [Act.put, qA, qB, qC])
    refine QK.call HK 96 #[.agg #[.int .u64 (wd0 n), .int .u64 (wd1 n), .int .u64 (wd2 n), .int .u64 (wd3 n)], .agg #[.int .u64 (wd0 r), .int .u64 (wd1 r), .int .u64 (wd2 r), .int .u64 (wd3 r)]] (.int .i64 (1)) hcl (by rfl) (fun w => by go_simp) C1 ?_
    (try simp only [Act.put, qA, qB, qC])
    refine QK.take HK ?_ (by rfl) ?_ ?_
    rotate_left
    · (intro w hw; (try have hcs := hcells w hw); (try go_split_ands); go_simp <;> with_reducible rfl)
    (try simp only [Act.put, qA, qB, qC])
    refine QK.take HK ?_ (by rfl) ?_ ?_
    rotate_left
    · (intro w hw; (try have hcs := hcells w hw); (try go_split_ands); go_simp <;> with_reducible rfl)
    (try simp only [Act.put, qA, qB, qC])
    refine QK.skip HK (by rfl) ?_
    (try simp only [Act.put, qA, qB, qC])
    refine QK.skip HK (by rfl) ?_
    (try simp only [Act.put, qA, qB, qC])
    refine QK.skip HK (by rfl) ?_
    (try simp only [Act.put, qA, qB, qC])
    refine QK.skip HK (by rfl) ?_
    (try simp only [Act.put, qA, qB, qC])
    refine QK.skip HK (by rfl) ?_
    (try simp only [Act.put, qA, qB, qC])
    refine QK.take HK ?_ (by rfl) ?_ ?_
    rotate_left
    · (intro w hw; (try have hcs := hcells w hw); (try go_split_ands); go_simp <;> with_reducible rfl)
    (try simp only [Act.put, qA, qB, qC])
    refine QK.take HK ?_ (by rfl) ?_ ?_
    rotate_left
    · (intro w hw; (try have hcs := hcells w hw); (try go_split_ands); go_simp <;> with_reducible rfl)
    (try simp only [Act.put, qA, qB, qC])
    refine QK.nil HK ?_
    clear HK K
    intro wq hq
    have hg := (hgr wq hq).1
    clear hcells hin hcl hgr hq
    go_wp2
    go_ret
    exact ⟨ret_bool HR.out, hg⟩

set_option maxRecDepth 20000 in set_option maxHeartbeats 2000000 in
theorem SpRight_any (x y z : Int) (hx : Fit x) (hy : Fit y) (hz : Fit z) (w : World) : Calls Try.prog 31 #[.agg #[.int .u64 (wd0 x), .int .u64 (wd1 x), .int .u64 (wd2 x), .int .u64 (wd3 x), .int .u64 (wd0 y), .int .u64 (wd1 y), .int .u64 (wd2 y), .int .u64 (wd3 y), .int .u64 (wd0 z), .int .u64 (wd1 z), .int .u64 (wd2 z), .int .u64 (wd3 z)]] w fun e w' => e = .returned (.bool (spotR x y z)) ∧ IsGr w w' := by
  have C1 := fun w => fSign z hz w
  rcases cmpI_cases z 0 with ⟨e1, g1⟩ | ⟨e1, g1⟩ | ⟨e1, g1⟩
  · rw [e1] at C1
    have HR : Hid (false = spotR x y z) := by
      unfold Hid spotR
      rw [show decide (1 ≤ z ∧ z ≤ 1237940039285380274899124224) = false by simp; omega]
      rfl
    clear g1 hx hy hz
    go_enter Try.func31, Try.ntmps31
    go_upto_region 1 with fail
    obtain ⟨C, hin, hcl, hcells, hgr⟩ : ∃ C : World → Prop, (∀ w', w.heap.size + 1 ≤ w'.heap.size ∧ IsGr w w' ∧ (w'.cell? ⟨w.heap.size, 0, none⟩ = some (.int .u64 (wd0 x)) ∧ w'.cell? ⟨w.heap.size, 1, none⟩ = some (.int .u64 (wd1 x)) ∧ w'.cell? ⟨w.heap.size, 2, none⟩ = some (.int .u64 (wd2 x)) ∧ w'.cell? ⟨w.heap.size, 3, none⟩ = some (.int .u64 (wd3 x)) ∧ w'.cell? ⟨w.heap.size, 4, none⟩ = some (.int .u64 (wd0 y)) ∧ w'.cell? ⟨w.heap.size, 5, none⟩ = some (.int .u64 (wd1 y)) ∧ w'.cell? ⟨w.heap.size, 6, none⟩ = some (.int .u64 (wd2 y)) ∧ w'.cell? ⟨w.heap.size, 7, none⟩ = some (.int .u64 (wd3 y)) ∧ w'.cell? ⟨w.heap.size, 8, none⟩ = some (.int .u64 (wd0 z)) ∧ w'.cell? ⟨w.heap.size, 9, none⟩ = some (.int .u64 (wd1 z)) ∧ w'.cell? ⟨w.heap.size, 10, none⟩ = some (.int .u64 (wd2 z)) ∧ w'.cell? ⟨w.heap.size, 11, none⟩ = some (.int .u64 (wd3 z))) → C w') ∧ (∀ u u', C u → IsGr u u' → C u') ∧ (∀ w', C w' → (w'.cell? ⟨w.heap.size, 0, none⟩ = some (.int .u64 (wd0 x)) ∧ w'.cell? ⟨w.heap.size, 1, none⟩ = some (.int .u64 (wd1 x)) ∧ w'.cell? ⟨w.heap.size, 2, none⟩ = some (.int .u64 (wd2 x)) ∧ w'.cell? ⟨w.heap.size, 3, none⟩ = some (.int .u64 (wd3 x)) ∧ w'.cell? ⟨w.heap.size, 4, none⟩ = some (.int .u64 (wd0 y)) ∧ w'.cell? ⟨w.heap.size, 5, none⟩ = some (.int .u64 (wd1 y)) ∧ w'.cell? ⟨w.heap.size, 6, none⟩ = some (.int .u64 (wd2 y)) ∧ w'.cell? ⟨w.heap.size, 7, none⟩ = some (.int .u64 (wd3 y)) ∧ w'.cell? ⟨w.heap.size, 8, none⟩ = some (.int .u64 (wd0 z)) ∧ w'.cell? ⟨w.heap.size, 9, none⟩ = some (.int .u64 (wd1 z)) ∧ w'.cell? ⟨w.heap.size, 10, none⟩ = some (.int .u64 (wd2 z)) ∧ w'.cell? ⟨w.heap.size, 11, none⟩ = some (.int .u64 (wd3 z)))) ∧ (∀ w', C w' → IsGr w w' ∧ w.heap.size + 1 ≤ w'.heap.size) := by
      refine ⟨fun w' => w.heap.size + 1 ≤ w'.heap.size ∧ IsGr w w' ∧ (w'.cell? ⟨w.heap.size, 0, none⟩ = some (.int .u64 (wd0 x)) ∧ w'.cell? ⟨w.heap.size, 1, none⟩ = some (.int .u64 (wd1 x)) ∧ w'.cell? ⟨w.heap.size, 2, none⟩ = some (.int .u64 (wd2 x)) ∧ w'.cell? ⟨w.heap.size, 3, none⟩ = some (.int .u64 (wd3 x)) ∧ w'.cell? ⟨w.heap.size, 4, none⟩ = some (.int .u64 (wd0 y)) ∧ w'.cell? ⟨w.heap.size, 5, none⟩ = some (.int .u64 (wd1 y)) ∧ w'.cell? ⟨w.heap.size, 6, none⟩ = some (.int .u64 (wd2 y)) ∧ w'.cell? ⟨w.heap.size, 7, none⟩ = some (.int .u64 (wd3 y)) ∧ w'.cell? ⟨w.heap.size, 8, none⟩ = some (.int .u64 (wd0 z)) ∧ w'.cell? ⟨w.heap.size, 9, none⟩ = some (.int .u64 (wd1 z)) ∧ w'.cell? ⟨w.heap.size, 10, none⟩ = some (.int .u64 (wd2 z)) ∧ w'.cell? ⟨w.heap.size, 11, none⟩ = some (.int .u64 (wd3 z))), fun w' h => h, ?_, fun w' h => h.2.2, fun w' h => ⟨h.2.1, h.1⟩⟩
      rintro u u' ⟨h0, h1, h2⟩ hg
      refine ⟨Nat.le_trans h0 hg.size, h1.trans hg, ?_⟩
      exact ⟨hg.cell_at (by omega) h2.1, hg.cell_at (by omega) h2.2.1, hg.cell_at (by omega) h2.2.2.1, hg.cell_at (by omega) h2.2.2.2.1, hg.cell_at (by omega) h2.2.2.2.2.1, hg.cell_at (by omega) h2.2.2.2.2.2.1, hg.cell_at (by omega) h2.2.2.2.2.2.2.1, hg.cell_at (by omega) h2.2.2.2.2.2.2.2.1, hg.cell_at (by omega) h2.2.2.2.2.2.2.2.2.1, hg.cell_at (by omega) h2.2.2.2.2.2.2.2.2.2.1, hg.cell_at (by omega) h2.2.2.2.2.2.2.2.2.2.2.1, hg.cell_at (by omega) h2.2.2.2.2.2.2.2.2.2.2.2⟩
    refine wp_region_quietV C (by kernel_rfl) (by kernel_rfl) (hin _ ⟨by first | omega | (simp; done) | (simp; omega) | (simp [Gr.size]; done) | (simp [Gr.size]; omega), (by with_reducible repeat (first | exact IsGr.refl _ | refine IsGr.gr ?_ _ _ | refine IsGr.alloc ?_ _ | refine IsGr.drew ?_ | refine IsGr.drewN ?_ _)), by simp [go_sem]⟩) (fun K HK => ?_)
    refine QK.take HK ?_ (by rfl) ?_ ?_
    rotate_left
    · (intro w hw; (try have hcs := hcells w hw); (try go_split_ands); go_simp <;> with_reducible rfl)
    (try simp only [Act.put, qA, qB, qC])
    refine QK.take HK ?_ (by rfl) ?_ ?_
    rotate_left
    · (intro w hw; (try have hcs := hcells w hw); (try go_split_ands); go_simp <;> with_reducible rfl)
    (try simp only [Act.put, qA, qB, qC])
    refine QK.call HK 73 #[.agg #[.int .u64 (wd0 z), .int .u64 (wd1 z), .int .u64 (wd2 z), .int .u64 (wd3 z)]] (.int .i64 (-1)) hcl (by rfl) (fun w => by go_simp) C1 ?_
    (try simp only [Act.put, qA, qB, qC])
    refine QK.take HK ?_ (by rfl) ?_ ?_
    rotate_left
    · (intro w hw; (try have hcs := hcells w hw); (try go_split_ands); go_simp <;> with_reducible rfl)
    (try simp only [Act.put, qA, qB, qC])
    refine QK.take HK ?_ (by rfl) ?_ ?_
    rotate_left
    · (intro w hw; (try have hcs := hcells w hw); (try go_split_ands); go_simp <;> with_reducible rfl)
    (try simp only [Act.put, qA, qB, qC])
    refine QK.skip HK (by rfl) ?_
    (try simp only [Act.put, qA, qB, qC])
    refine QK.skip HK (by rfl) ?_
    (try simp only [Act.put, qA, qB, qC])
    refine QK.skip HK (by rfl) ?_
    (try simp only [Act.put, qA, qB, qC])
    refine QK.skip HK (by rfl) ?_
    (try simp only [Act.put, qA, qB, qC])
    refine QK.skip HK (by rfl) ?_
    (try simp only [Act.put, qA, qB, qC])
    refine QK.skip HK (by rfl) ?_
    (try simp only [Act.put, qA, qB, qC])
    refine QK.take HK ?_ (by rfl) ?_ ?_
    rotate_left
    · (intro w hw; (try have hcs := hcells w hw); (try go_split_ands); go_simp <;> with_reducible rfl)
    (try simp only [Act.put, qA, qB, qC])
    refine QK.nil HK ?_
    clear HK K
    intro wq hq
    have hg := (hgr wq hq).1
    clear hcells hin hcl hgr hq
    go_wp2
    go_ret
    exact ⟨ret_bool HR.out, hg⟩
  · rw [e1] at C1
    have HR : Hid (false = spotR x y z) := by
      unfold Hid spotR
      rw [show decide (1 ≤ z ∧ z ≤ 1237940039285380274899124224) = false by simp; omega]
      rfl
    clear g1 hx hy hz
    go_enter Try.func31, Try.ntmps31
    go_upto_region 1 with fail
    obtain ⟨C, hin, hcl, hcells, hgr⟩ : ∃ C : World → Prop, (∀ w', w.heap.size + 1 ≤ w'.heap.size ∧ IsGr w w' ∧ (w'.cell? ⟨w.heap.size, 0, none⟩ = some (.int .u64 (wd0 x)) ∧ w'.cell? ⟨w.heap.size, 1, none⟩ = some (.int .u64 (wd1 x)) ∧ w'.cell? ⟨w.heap.size, 2, none⟩ = some (.int .u64 (wd2 x)) ∧ w'.cell? ⟨w.heap.size, 3, none⟩ = some (.int .u64 (wd3 x)) ∧ w'.cell? ⟨w.heap.size, 4, none⟩ = some (.int .u64 (wd0 y)) ∧ w'.cell? ⟨w.heap.size, 5, none⟩ = some (.int .u64 (wd1 y)) ∧ w'.cell? ⟨w.heap.size, 6, none⟩ = some (.int .u64 (wd2 y)) ∧ w'.cell? ⟨w.heap.size, 7, none⟩ = some (.int .u64 (wd3 y)) ∧ w'.cell? ⟨w.heap.size, 8, none⟩ = some (.int .u64 (wd0 z)) ∧ w'.cell? ⟨w.heap.size, 9, none⟩ = some (.int .u64 (wd1 z)) ∧ w'.cell? ⟨w.heap.size, 10, none⟩ = some (.int .u64 (wd2 z)) ∧ w'.cell? ⟨w.heap.size, 11, none⟩ = some (.int .u64 (wd3 z))) → C w') ∧ (∀ u u', C u → IsGr u u' → C u') ∧ (∀ w', C w' → (w'.cell? ⟨w.heap.size, 0, none⟩ = some (.int .u64 (wd0 x)) ∧ w'.cell? ⟨w.heap.size, 1, none⟩ = some (.int .u64 (wd1 x)) ∧ w'.cell? ⟨w.heap.size, 2, none⟩ = some (.int .u64 (wd2 x)) ∧ w'.cell? ⟨w.heap.size, 3, none⟩ = some (.int .u64 (wd3 x)) ∧ w'.cell? ⟨w.heap.size, 4, none⟩ = some (.int .u64 (wd0 y)) ∧ w'.cell? ⟨w.heap.size, 5, none⟩ = some (.int .u64 (wd1 y)) ∧ w'.cell? ⟨w.heap.size, 6, none⟩ = some (.int .u64 (wd2 y)) ∧ w'.cell? ⟨w.heap.size, 7, none⟩ = some (.int .u64 (wd3 y)) ∧ w'.cell? ⟨w.heap.size, 8, none⟩ = some (.int .u64 (wd0 z)) ∧ w'.cell? ⟨w.heap.size, 9, none⟩ = some (.int .u64 (wd1 z)) ∧ w'.cell? ⟨w.heap.size, 10, none⟩ = some (.int .u64 (wd2 z)) ∧ w'.cell? ⟨w.heap.size, 11, none⟩ = some (.int .u64 (wd3 z)))) ∧ (∀ w', C w' → IsGr w w' ∧ w.heap.size + 1 ≤ w'.heap.size) := by
      refine ⟨fun w' => w.heap.size + 1 ≤ w'.heap.size ∧ IsGr w w' ∧ (w'.cell? ⟨w.heap.size, 0, none⟩ = some (.int .u64 (wd0 x)) ∧ w'.cell? ⟨w.heap.size, 1, none⟩ = some (.int .u64 (wd1 x)) ∧ w'.cell? ⟨w.heap.size, 2, none⟩ = some (.int .u64 (wd2 x)) ∧ w'.cell? ⟨w.heap.size, 3, none⟩ = some (.int .u64 (wd3 x)) ∧ w'.cell? ⟨w.heap.size, 4, none⟩ = some (.int .u64 (wd0 y)) ∧ w'.cell? ⟨w.heap.size, 5, none⟩ = some (.int .u64 (wd1 y)) ∧ w'.cell? ⟨w.heap.size, 6, none⟩ = some (.int .u64 (wd2 y)) ∧ w'.cell? ⟨w.heap.size, 7, none⟩ = some (.int .u64 (wd3 y)) ∧ w'.cell? ⟨w.heap.size, 8, none⟩ = some (.int .u64 (wd0 z)) ∧ w'.cell? ⟨w.heap.size, 9, none⟩ = some (.int .u64 (wd1 z)) ∧ w'.cell? ⟨w.heap.size, 10, none⟩ = some (.int .u64 (wd2 z)) ∧ w'.cell? ⟨w.heap.size, 11, none⟩ = some (.int .u64 (wd3 z))), fun w' h => h, ?_, fun w' h => h.2.2, fun w' h => ⟨h.2.1, h.1⟩⟩
      rintro u u' ⟨h0, h1, h2⟩ hg
      refine ⟨Nat.le_trans h0 hg.size, h1.trans hg, ?_⟩
      exact ⟨hg.cell_at (by omega) h2.1, hg.cell_at (by omega) h2.2.1, hg.cell_at (by omega) h2.2.2.1, hg.cell_at (by omega) h2.2.2.2.1, hg.cell_at (by omega) h2.2.2.2.2.1, hg.cell_at (by omega) h2.2.2.2.2.2.1, hg.cell_at (by omega) h2.2.2.2.2.2.2.1, hg.cell_at (by omega) h2.2.2.2.2.2.2.2.1, hg.cell_at (by omega) h2.2.2.2.2.2.2.2.2.1, hg.cell_at (by omega) h2.2.2.2.2.2.2.2.2.2.1, hg.cell_at (by omega) h2.2.2.2.2.2.2.2.2.2.2.1, hg.cell_at (by omega) h2.2.2.2.2.2.2.2.2.2.2.2⟩
    refine wp_region_quietV C (by kernel_rfl) (by kernel_rfl) (hin _ ⟨by first | omega | (simp; done) | (simp; omega) | (simp [Gr.size]; done) | (simp [Gr.size]; omega), (by with_reducible repeat (first | exact IsGr.refl _ | refine IsGr.gr ?_ _ _ | refine IsGr.alloc ?_ _ | refine IsGr.drew ?_ | refine IsGr.drewN ?_ _)), by simp [go_sem]⟩) (fun K HK => ?_)
    refine QK.take HK ?_ (by rfl) ?_ ?_
    rotate_left
    · (intro w hw; (try have hcs := hcells w hw); (try go_split_ands); go_simp <;> with_reducible rfl)
    (try simp only [Act.put, qA, qB, qC])
    refine QK.take HK ?_ (by rfl) ?_ ?_
    rotate_left
    · (intro w hw; (try have hcs := hcells w hw); (try go_split_ands); go_simp <;> with_reducible rfl)
    (try simp only [Act.put, qA, qB, qC])
    refine QK.call HK 73 #[.agg #[.int .u64 (wd0 z), .int .u64 (wd1 z), .int .u64 (wd2 z), .int .u64 (wd3 z)]] (.int .i64 (0)) hcl (by rfl) (fun w => by go_simp) C1 ?_
    (try simp only [Act.put, qA, qB, qC])
    refine QK.take HK ?_ (by rfl) ?_ ?_
    rotate_left
    · (intro w hw; (try have hcs := hcells w hw); (try go_split_ands); go_simp <;> with_reducible rfl)
    (try simp only [Act.put, qA, qB, qC])
    refine QK.take HK ?_ (by rfl) ?_ ?_
    rotate_left
    · (intro w hw; (try have hcs := hcells w hw); (try go_split_ands); go_simp <;> with_reducible rfl)
    (try simp only [Act.put, qA, qB, qC])
    refine QK.skip HK (by rfl) ?_
    (try simp only [Act.put, qA, qB, qC])
    refine QK.skip HK (by rfl) ?_
    (try simp only [Act.put, qA, qB, qC])
    refine QK.skip HK (by rfl) ?_
    (try simp only [Act.put, qA, qB, qC])
    refine QK.skip HK (by rfl) ?_
    (try simp only [Act.put, qA, qB, qC])
    refine QK.skip HK (by rfl) ?_
    (try simp only [Act.put, qA, qB, qC])
    refine QK.skip HK (by rfl) ?_
    (try simp only [Act.put, qA, qB, qC])
    refine QK.take HK ?_ (by rfl) ?_ ?_
    rotate_left
    · (intro w hw; (try have hcs := hcells w hw); (try go_split_ands); go_simp <;> with_reducible rfl)
    (try simp only [Act.put, qA, qB, qC])
    refine QK.nil HK ?_
    clear HK K
    intro wq hq
    have hg := (hgr wq hq).1
    clear hcells hin hcl hgr hq
    go_wp2
    go_ret
    exact ⟨ret_bool HR.out, hg⟩
  · rw [e1] at C1
    have C2 := fun w => fOf 1 (by omega) (by omega) w
    obtain ⟨z1, hz1⟩ : ∃ z1, z1 = z - 1 := ⟨_, rfl⟩
    have C3 := fun w => xdifference z 1 hz (by unfold Fit; omega) (by unfold Fit at *; omega) w
    rw [← hz1] at C3
    have C4 := fun w => fBits z1 (by unfold Fit at *; omega) w
    have hb := bits_le (w := z) g1
    rw [← hz1] at hb
    generalize bitsI z1 = L at C4 hb
    by_cases hL : L ≤ 90
    · have hz90 := hb.1 hL
      have C5 := fun w => fOf 2199023255552 (by omega) (by omega) w
      obtain ⟨r, hr⟩ : ∃ r, r = 2199023255552 * z := ⟨_, rfl⟩
      have C6 := fun w => xproduct 2199023255552 z (by unfold Fit; omega) hz (by unfold Fit; omega) w
      rw [← hr] at C6
      have C7 := fun w => within_any x r hx (by unfold Fit; omega) (by unfold Fit; omega) w
      have C8 := fun w => within_any y r hy (by unfold Fit; omega) (by unfold Fit; omega) w
      have HR : Hid ((withinI x r && withinI y r) = spotR x y z) := by
        unfold Hid spotR
        rw [hr, show decide (1 ≤ z ∧ z ≤ 1237940039285380274899124224) = true by simp; omega]
        rfl
      generalize withinI x r = X at C7 HR
      generalize withinI y r = Y at C8 HR
      clear hx hy hz hb g1 hz90 hr hz1 e1
      go_enter Try.func31, Try.ntmps31
      go_upto_region 1 with fail
      obtain ⟨C, hin, hcl, hcells, hgr⟩ : ∃ C : World → Prop, (∀ w', w.heap.size + 1 ≤ w'.heap.size ∧ IsGr w w' ∧ (w'.cell? ⟨w.heap.size, 0, none⟩ = some (.int .u64 (wd0 x)) ∧ w'.cell? ⟨w.heap.size, 1, none⟩ = some (.int .u64 (wd1 x)) ∧ w'.cell? ⟨w.heap.size, 2, none⟩ = some (.int .u64 (wd2 x)) ∧ w'.cell? ⟨w.heap.size, 3, none⟩ = some (.int .u64 (wd3 x)) ∧ w'.cell? ⟨w.heap.size, 4, none⟩ = some (.int .u64 (wd0 y)) ∧ w'.cell? ⟨w.heap.size, 5, none⟩ = some (.int .u64 (wd1 y)) ∧ w'.cell? ⟨w.heap.size, 6, none⟩ = some (.int .u64 (wd2 y)) ∧ w'.cell? ⟨w.heap.size, 7, none⟩ = some (.int .u64 (wd3 y)) ∧ w'.cell? ⟨w.heap.size, 8, none⟩ = some (.int .u64 (wd0 z)) ∧ w'.cell? ⟨w.heap.size, 9, none⟩ = some (.int .u64 (wd1 z)) ∧ w'.cell? ⟨w.heap.size, 10, none⟩ = some (.int .u64 (wd2 z)) ∧ w'.cell? ⟨w.heap.size, 11, none⟩ = some (.int .u64 (wd3 z))) → C w') ∧ (∀ u u', C u → IsGr u u' → C u') ∧ (∀ w', C w' → (w'.cell? ⟨w.heap.size, 0, none⟩ = some (.int .u64 (wd0 x)) ∧ w'.cell? ⟨w.heap.size, 1, none⟩ = some (.int .u64 (wd1 x)) ∧ w'.cell? ⟨w.heap.size, 2, none⟩ = some (.int .u64 (wd2 x)) ∧ w'.cell? ⟨w.heap.size, 3, none⟩ = some (.int .u64 (wd3 x)) ∧ w'.cell? ⟨w.heap.size, 4, none⟩ = some (.int .u64 (wd0 y)) ∧ w'.cell? ⟨w.heap.size, 5, none⟩ = some (.int .u64 (wd1 y)) ∧ w'.cell? ⟨w.heap.size, 6, none⟩ = some (.int .u64 (wd2 y)) ∧ w'.cell? ⟨w.heap.size, 7, none⟩ = some (.int .u64 (wd3 y)) ∧ w'.cell? ⟨w.heap.size, 8, none⟩ = some (.int .u64 (wd0 z)) ∧ w'.cell? ⟨w.heap.size, 9, none⟩ = some (.int .u64 (wd1 z)) ∧ w'.cell? ⟨w.heap.size, 10, none⟩ = some (.int .u64 (wd2 z)) ∧ w'.cell? ⟨w.heap.size, 11, none⟩ = some (.int .u64 (wd3 z)))) ∧ (∀ w', C w' → IsGr w w' ∧ w.heap.size + 1 ≤ w'.heap.size) := by
        refine ⟨fun w' => w.heap.size + 1 ≤ w'.heap.size ∧ IsGr w w' ∧ (w'.cell? ⟨w.heap.size, 0, none⟩ = some (.int .u64 (wd0 x)) ∧ w'.cell? ⟨w.heap.size, 1, none⟩ = some (.int .u64 (wd1 x)) ∧ w'.cell? ⟨w.heap.size, 2, none⟩ = some (.int .u64 (wd2 x)) ∧ w'.cell? ⟨w.heap.size, 3, none⟩ = some (.int .u64 (wd3 x)) ∧ w'.cell? ⟨w.heap.size, 4, none⟩ = some (.int .u64 (wd0 y)) ∧ w'.cell? ⟨w.heap.size, 5, none⟩ = some (.int .u64 (wd1 y)) ∧ w'.cell? ⟨w.heap.size, 6, none⟩ = some (.int .u64 (wd2 y)) ∧ w'.cell? ⟨w.heap.size, 7, none⟩ = some (.int .u64 (wd3 y)) ∧ w'.cell? ⟨w.heap.size, 8, none⟩ = some (.int .u64 (wd0 z)) ∧ w'.cell? ⟨w.heap.size, 9, none⟩ = some (.int .u64 (wd1 z)) ∧ w'.cell? ⟨w.heap.size, 10, none⟩ = some (.int .u64 (wd2 z)) ∧ w'.cell? ⟨w.heap.size, 11, none⟩ = some (.int .u64 (wd3 z))), fun w' h => h, ?_, fun w' h => h.2.2, fun w' h => ⟨h.2.1, h.1⟩⟩
        rintro u u' ⟨h0, h1, h2⟩ hg
        refine ⟨Nat.le_trans h0 hg.size, h1.trans hg, ?_⟩
        exact ⟨hg.cell_at (by omega) h2.1, hg.cell_at (by omega) h2.2.1, hg.cell_at (by omega) h2.2.2.1, hg.cell_at (by omega) h2.2.2.2.1, hg.cell_at (by omega) h2.2.2.2.2.1, hg.cell_at (by omega) h2.2.2.2.2.2.1, hg.cell_at (by omega) h2.2.2.2.2.2.2.1, hg.cell_at (by omega) h2.2.2.2.2.2.2.2.1, hg.cell_at (by omega) h2.2.2.2.2.2.2.2.2.1, hg.cell_at (by omega) h2.2.2.2.2.2.2.2.2.2.1, hg.cell_at (by omega) h2.2.2.2.2.2.2.2.2.2.2.1, hg.cell_at (by omega) h2.2.2.2.2.2.2.2.2.2.2.2⟩
      refine wp_region_quietV C (by kernel_rfl) (by kernel_rfl) (hin _ ⟨by first | omega | (simp; done) | (simp; omega) | (simp [Gr.size]; done) | (simp [Gr.size]; omega), (by with_reducible repeat (first | exact IsGr.refl _ | refine IsGr.gr ?_ _ _ | refine IsGr.alloc ?_ _ | refine IsGr.drew ?_ | refine IsGr.drewN ?_ _)), by simp [go_sem]⟩) (fun K HK => ?_)
      refine QK.take HK ?_ (by rfl) ?_ ?_
      rotate_left
      · (intro w hw; (try have hcs := hcells w hw); (try go_split_ands); go_simp <;> with_reducible rfl)
      (try simp only [Act.put, qA, qB, qC])
      refine QK.take HK ?_ (by rfl) ?_ ?_
      rotate_left
      · (intro w hw; (try have hcs := hcells w hw); (try go_split_ands); go_simp <;> with_reducible rfl)
      (try simp only [Act.put, qA, qB, qC])
      refine QK.call HK 73 #[.agg #[.int .u64 (wd0 z), .int .u64 (wd1 z), .int .u64 (wd2 z), .int .u64 (wd3 z)]] (.int .i64 (1)) hcl (by rfl) (fun w => by go_simp) C1 ?_
      (try simp only [Act.put, qA, qB, qC])
      refine QK.take HK ?_ (by rfl) ?_ ?_
      rotate_left
      · (intro w hw; (try have hcs := hcells w hw); (try go_split_ands); go_simp <;> with_reducible rfl)
      (try simp only [Act.put, qA, qB, qC])
      refine QK.take HK ?_ (by rfl) ?_ ?_
      rotate_left
      · (intro w hw; (try have hcs := hcells w hw); (try go_split_ands); go_simp <;> with_reducible rfl)
      (try simp only [Act.put, qA, qB, qC])
      refine QK.take HK ?_ (by rfl) ?_ ?_
      rotate_left
      · (intro w hw; (try have hcs := hcells w hw); (try go_split_ands); go_simp <;> with_reducible rfl)
      (try simp only [Act.put, qA, qB, qC])
      refine QK.take HK ?_ (by rfl) ?_ ?_
      rotate_left
      · (intro w hw; (try have hcs := hcells w hw); (try go_split_ands); go_simp <;> with_reducible rfl)
      (try simp only [Act.put, qA, qB, qC])
      refine QK.call HK 38 #[.int .i64 1] (.agg #[.int .u64 (wd0 (1)), .int .u64 (wd1 (1)), .int .u64 (wd2 (1)), .int .u64 (wd3 (1))]) hcl (by rfl) (fun w => by go_simp) C2 ?_
      (try simp only [Act.put, qA, qB, qC])
      refine QK.call HK 69 #[.agg #[.int .u64 (wd0 z), .int .u64 (wd1 z), .int .u64 (wd2 z), .int .u64 (wd3 z)], .agg #[.int .u64 (wd0 (1)), .int .u64 (wd1 (1)), .int .u64 (wd2 (1)), .int .u64 (wd3 (1))]] (.agg #[.int .u64 (wd0 z1), .int .u64 (wd1 z1), .int .u64 (wd2 z1), .int .u64 (wd3 z1)]) hcl (by rfl) (fun w => by go_simp) C3 ?_
      (try simp only [Act.put, qA, qB, qC])
      refine QK.call HK 74 #[.agg #[.int .u64 (wd0 z1), .int .u64 (wd1 z1), .int .u64 (wd2 z1), .int .u64 (wd3 z1)]] (.int .i64 L) hcl (by rfl) (fun w => by go_simp) C4 ?_
      (try simp only [Act.put, qA, qB, qC])
      refine QK.take HK ?_ (by rfl) ?_ ?_
      rotate_left
      · (intro w hw; (try have hcs := hcells w hw); (try go_split_ands); go_simp <;> with_reducible rfl)
      (try simp only [Act.put, qA, qB, qC])
      refine QK.take HK ?_ (by rfl) ?_ ?_
      rotate_left
      · (intro w hw; (try have hcs := hcells w hw); (try go_split_ands); go_simp <;> with_reducible rfl)
      (try simp only [Act.put, qA, qB, qC])
      refine QK.nil HK ?_
      clear HK K
      intro wq hq
      obtain ⟨hg, hs⟩ := hgr wq hq
      have hcs := hcells wq hq
      have hSO := fun w' (hg9 : IsGr wq w') => hcells w' (hcl wq w' hq hg9)
      clear hcells hin hcl hgr hq
      have kz : w.heap.size < wq.heap.size := by omega
      clear hs
      go_upto_region 3 with fail
      refine wp_region_held_drew (S := (fun w' => (w'.cell? ⟨w.heap.size, 0, none⟩ = some (.int .u64 (wd0 x)) ∧ w'.cell? ⟨w.heap.size, 1, none⟩ = some (.int .u64 (wd1 x)) ∧ w'.cell? ⟨w.heap.size, 2, none⟩ = some (.int .u64 (wd2 x)) ∧ w'.cell? ⟨w.heap.size, 3, none⟩ = some (.int .u64 (wd3 x)) ∧ w'.cell? ⟨w.heap.size, 4, none⟩ = some (.int .u64 (wd0 y)) ∧ w'.cell? ⟨w.heap.size, 5, none⟩ = some (.int .u64 (wd1 y)) ∧ w'.cell? ⟨w.heap.size, 6, none⟩ = some (.int .u64 (wd2 y)) ∧ w'.cell? ⟨w.heap.size, 7, none⟩ = some (.int .u64 (wd3 y)) ∧ w'.cell? ⟨w.heap.size, 8, none⟩ = some (.int .u64 (wd0 z)) ∧ w'.cell? ⟨w.heap.size, 9, none⟩ = some (.int .u64 (wd1 z)) ∧ w'.cell? ⟨w.heap.size, 10, none⟩ = some (.int .u64 (wd2 z)) ∧ w'.cell? ⟨w.heap.size, 11, none⟩ = some (.int .u64 (wd3 z))))) (by kernel_rfl) (by (try dsimp only); exact hSO _ (by with_reducible repeat (first | exact IsGr.refl _ | refine IsGr.gr ?_ _ _ | refine IsGr.alloc ?_ _ | refine IsGr.drew ?_ | refine IsGr.drewN ?_ _))) (fun hHeld => ?_)
      refine wpAnyH_take (i := 1) (oi := { dst := some 17, op := Op.fieldAddr 46 (Operand.tmp 1) 2, type := 0, pos := "spot.go:52", after := #[], guard := none }) (v := ?_) rfl (by kernel_rfl) (by kernel_rfl) (by kernel_rfl) (fun _ _ _ h => h) (Or.inl ⟨by rfl, ?_⟩) (by assumption) ?_
      rotate_left
      · (intro w hSw; (try dsimp only at hSw); go_simp <;> with_reducible rfl)
      (try simp only [Act.put, qA, qB, qC])
      refine wpAnyH_take (i := 2) (oi := { dst := some 18, op := Op.load 44 (Operand.tmp 17), type := 44, pos := "spot.go:52", after := #[{ on := 1, ground := Ground.data }], guard := none }) (v := ?_) rfl (by kernel_rfl) (by kernel_rfl) (by kernel_rfl) (fun _ _ _ h => h) (Or.inl ⟨by rfl, ?_⟩) (by assumption) ?_
      rotate_left
      · (intro w hSw; (try dsimp only at hSw); go_simp <;> with_reducible rfl)
      (try simp only [Act.put, qA, qB, qC])
      refine wpAnyH_ready (rs := [0, 4]) (by kernel_rfl) (by simp) ?_
      refine AllReadyH.cons (o := { dst := some 16, op := Op.call { callee := Callee.value (Operand.func 38), args := #[Operand.const (Value.int IntKind.i64 2199023255552)], argTypes := #[3] }, type := 44, pos := "spot.go:52", after := #[], guard := none }) rfl (fun K hK => ?_) ?_
      · go_simp
        refine (C5 _).mono ?_
        rintro e w1 ⟨rfl, os5, m5, rfl⟩
        (try go_wp2_with fail)
        refine hK.out _ _ (by (try dsimp only); exact hSO _ (by with_reducible repeat (first | exact IsGr.refl _ | refine IsGr.gr ?_ _ _ | refine IsGr.alloc ?_ _ | refine IsGr.drew ?_ | refine IsGr.drewN ?_ _))) (fun hHeld2 => ?_)
        clear hK K hHeld
        have hHeld := hHeld2
        clear hHeld2
        (try simp only [Act.put, qA, qB, qC])
        refine wpAnyH_ready (rs := [3, 4]) (by kernel_rfl) (by simp) ?_
        refine AllReadyH.cons (o := { dst := some 19, op := Op.call { callee := Callee.value (Operand.func 70), args := #[Operand.tmp 16, Operand.tmp 18], argTypes := #[44, 44] }, type := 44, pos := "spot.go:52", after := #[{ on := 0, ground := Ground.data }, { on := 2, ground := Ground.data }, { on := 0, ground := Ground.chain }], guard := none }) rfl (fun K hK => ?_) ?_
        · go_simp
          refine (C6 _).mono ?_
          rintro e w1 ⟨rfl, os6, m6, rfl⟩
          (try go_wp2_with fail)
          refine hK.out _ _ (by (try dsimp only); exact hSO _ (by with_reducible repeat (first | exact IsGr.refl _ | refine IsGr.gr ?_ _ _ | refine IsGr.alloc ?_ _ | refine IsGr.drew ?_ | refine IsGr.drewN ?_ _))) (fun hHeld2 => ?_)
          clear hK K hHeld
          have hHeld := hHeld2
          clear hHeld2
          (try simp only [Act.put, qA, qB, qC])
          refine wpAnyH_ready (rs := [4]) (by kernel_rfl) (by simp) ?_
          refine AllReadyH.cons (o := { dst := some 3, op := Op.alloc 44, type := 0, pos := "spot.go:52", after := #[], guard := none }) rfl (fun K hK => ?_) ?_
          · go_simp
            refine hK.out _ _ (by (try dsimp only); exact hSO _ (by with_reducible repeat (first | exact IsGr.refl _ | refine IsGr.gr ?_ _ _ | refine IsGr.alloc ?_ _ | refine IsGr.drew ?_ | refine IsGr.drewN ?_ _))) (fun hHeld2 => ?_)
            clear hK K hHeld
            have hHeld := hHeld2
            clear hHeld2
            (try simp only [Act.put, qA, qB, qC])
            refine wpAnyH_ready (rs := [5]) (by kernel_rfl) (by simp) ?_
            refine AllReadyH.cons (o := { dst := none, op := Op.store 44 (Operand.tmp 3) (Operand.tmp 19), type := 0, pos := "spot.go:52", after := #[{ on := 4, ground := Ground.data }, { on := 3, ground := Ground.data }, { on := 3, ground := Ground.chain }, { on := 0, ground := Ground.phase }, { on := 1, ground := Ground.phase }, { on := 2, ground := Ground.phase }, { on := 3, ground := Ground.phase }, { on := 4, ground := Ground.phase }], guard := none }) rfl (fun K hK => ?_) ?_
            · go_simp
              refine hK.out _ _ (by (try dsimp only); exact hSO _ (by with_reducible repeat (first | exact IsGr.refl _ | refine IsGr.gr ?_ _ _ | refine IsGr.alloc ?_ _ | refine IsGr.drew ?_ | refine IsGr.drewN ?_ _))) (fun hHeld2 => ?_)
              clear hK K hHeld
              have hHeld := hHeld2
              clear hHeld2
              (try simp only [Act.put, qA, qB, qC])
              refine wpAnyH_done (by kernel_rfl) ?_ _
              go_wp2_with fail
              refine (C7 _).mono ?_
              rintro e w1 ⟨rfl, os7, m7, rfl⟩
              cases X
              · go_wp2
                go_ret
                exact ⟨ret_bool HR.out, hg.trans (by with_reducible repeat (first | exact IsGr.refl _ | refine IsGr.gr ?_ _ _ | refine IsGr.alloc ?_ _ | refine IsGr.drew ?_ | refine IsGr.drewN ?_ _))⟩
              · go_wp2_with fail
                refine (C8 _).mono ?_
                rintro e w1 ⟨rfl, os8, m8, rfl⟩
                go_wp2
                go_ret
                exact ⟨ret_bool HR.out, hg.trans (by with_reducible repeat (first | exact IsGr.refl _ | refine IsGr.gr ?_ _ _ | refine IsGr.alloc ?_ _ | refine IsGr.drew ?_ | refine IsGr.drewN ?_ _))⟩
            exact AllReadyH.nil
          exact AllReadyH.nil
        refine AllReadyH.cons (o := { dst := some 3, op := Op.alloc 44, type := 0, pos := "spot.go:52", after := #[], guard := none }) rfl (fun K hK => ?_) ?_
        · go_simp
          refine hK.out _ _ (by (try dsimp only); exact hSO _ (by with_reducible repeat (first | exact IsGr.refl _ | refine IsGr.gr ?_ _ _ | refine IsGr.alloc ?_ _ | refine IsGr.drew ?_ | refine IsGr.drewN ?_ _))) (fun hHeld2 => ?_)
          clear hK K hHeld
          have hHeld := hHeld2
          clear hHeld2
          (try simp only [Act.put, qA, qB, qC])
          refine wpAnyH_ready (rs := [3]) (by kernel_rfl) (by simp) ?_
          refine AllReadyH.cons (o := { dst := some 19, op := Op.call { callee := Callee.value (Operand.func 70), args := #[Operand.tmp 16, Operand.tmp 18], argTypes := #[44, 44] }, type := 44, pos := "spot.go:52", after := #[{ on := 0, ground := Ground.data }, { on := 2, ground := Ground.data }, { on := 0, ground := Ground.chain }], guard := none }) rfl (fun K hK => ?_) ?_
          · go_simp
            refine (C6 _).mono ?_
            rintro e w1 ⟨rfl, os6, m6, rfl⟩
            (try go_wp2_with fail)
            refine hK.out _ _ (by (try dsimp only); exact hSO _ (by with_reducible repeat (first | exact IsGr.refl _ | refine IsGr.gr ?_ _ _ | refine IsGr.alloc ?_ _ | refine IsGr.drew ?_ | refine IsGr.drewN ?_ _))) (fun hHeld2 => ?_)
            clear hK K hHeld
            have hHeld := hHeld2
            clear hHeld2
            (try simp only [Act.put, qA, qB, qC])
            refine wpAnyH_ready (rs := [5]) (by kernel_rfl) (by simp) ?_
            refine AllReadyH.cons (o := { dst := none, op := Op.store 44 (Operand.tmp 3) (Operand.tmp 19), type := 0, pos := "spot.go:52", after := #[{ on := 4, ground := Ground.data }, { on := 3, ground := Ground.data }, { on := 3, ground := Ground.chain }, { on := 0, ground := Ground.phase }, { on := 1, ground := Ground.phase }, { on := 2, ground := Ground.phase }, { on := 3, ground := Ground.phase }, { on := 4, ground := Ground.phase }], guard := none }) rfl (fun K hK => ?_) ?_
            · go_simp
              refine hK.out _ _ (by (try dsimp only); exact hSO _ (by with_reducible repeat (first | exact IsGr.refl _ | refine IsGr.gr ?_ _ _ | refine IsGr.alloc ?_ _ | refine IsGr.drew ?_ | refine IsGr.drewN ?_ _))) (fun hHeld2 => ?_)
              clear hK K hHeld
              have hHeld := hHeld2
              clear hHeld2
              (try simp only [Act.put, qA, qB, qC])
              refine wpAnyH_done (by kernel_rfl) ?_ _
              go_wp2_with fail
              refine (C7 _).mono ?_
              rintro e w1 ⟨rfl, os7, m7, rfl⟩
              cases X
              · go_wp2
                go_ret
                exact ⟨ret_bool HR.out, hg.trans (by with_reducible repeat (first | exact IsGr.refl _ | refine IsGr.gr ?_ _ _ | refine IsGr.alloc ?_ _ | refine IsGr.drew ?_ | refine IsGr.drewN ?_ _))⟩
              · go_wp2_with fail
                refine (C8 _).mono ?_
                rintro e w1 ⟨rfl, os8, m8, rfl⟩
                go_wp2
                go_ret
                exact ⟨ret_bool HR.out, hg.trans (by with_reducible repeat (first | exact IsGr.refl _ | refine IsGr.gr ?_ _ _ | refine IsGr.alloc ?_ _ | refine IsGr.drew ?_ | refine IsGr.drewN ?_ _))⟩
            exact AllReadyH.nil
          exact AllReadyH.nil
        exact AllReadyH.nil
      refine AllReadyH.cons (o := { dst := some 3, op := Op.alloc 44, type := 0, pos := "spot.go:52", after := #[], guard := none }) rfl (fun K hK => ?_) ?_
      · go_simp
        refine hK.out _ _ (by (try dsimp only); exact hSO _ (by with_reducible repeat (first | exact IsGr.refl _ | refine IsGr.gr ?_ _ _ | refine IsGr.alloc ?_ _ | refine IsGr.drew ?_ | refine IsGr.drewN ?_ _))) (fun hHeld2 => ?_)
        clear hK K hHeld
        have hHeld := hHeld2
        clear hHeld2
        (try simp only [Act.put, qA, qB, qC])
        refine wpAnyH_ready (rs := [0]) (by kernel_rfl) (by simp) ?_
        refine AllReadyH.cons (o := { dst := some 16, op := Op.call { callee := Callee.value (Operand.func 38), args := #[Operand.const (Value.int IntKind.i64 2199023255552)], argTypes := #[3] }, type := 44, pos := "spot.go:52", after := #[], guard := none }) rfl (fun K hK => ?_) ?_
        · go_simp
          refine (C5 _).mono ?_
          rintro e w1 ⟨rfl, os5, m5, rfl⟩
          (try go_wp2_with fail)
          refine hK.out _ _ (by (try dsimp only); exact hSO _ (by with_reducible repeat (first | exact IsGr.refl _ | refine IsGr.gr ?_ _ _ | refine IsGr.alloc ?_ _ | refine IsGr.drew ?_ | refine IsGr.drewN ?_ _))) (fun hHeld2 => ?_)
          clear hK K hHeld
          have hHeld := hHeld2
          clear hHeld2
          (try simp only [Act.put, qA, qB, qC])
          refine wpAnyH_ready (rs := [3]) (by kernel_rfl) (by simp) ?_
          refine AllReadyH.cons (o := { dst := some 19, op := Op.call { callee := Callee.value (Operand.func 70), args := #[Operand.tmp 16, Operand.tmp 18], argTypes := #[44, 44] }, type := 44, pos := "spot.go:52", after := #[{ on := 0, ground := Ground.data }, { on := 2, ground := Ground.data }, { on := 0, ground := Ground.chain }], guard := none }) rfl (fun K hK => ?_) ?_
          · go_simp
            refine (C6 _).mono ?_
            rintro e w1 ⟨rfl, os6, m6, rfl⟩
            (try go_wp2_with fail)
            refine hK.out _ _ (by (try dsimp only); exact hSO _ (by with_reducible repeat (first | exact IsGr.refl _ | refine IsGr.gr ?_ _ _ | refine IsGr.alloc ?_ _ | refine IsGr.drew ?_ | refine IsGr.drewN ?_ _))) (fun hHeld2 => ?_)
            clear hK K hHeld
            have hHeld := hHeld2
            clear hHeld2
            (try simp only [Act.put, qA, qB, qC])
            refine wpAnyH_ready (rs := [5]) (by kernel_rfl) (by simp) ?_
            refine AllReadyH.cons (o := { dst := none, op := Op.store 44 (Operand.tmp 3) (Operand.tmp 19), type := 0, pos := "spot.go:52", after := #[{ on := 4, ground := Ground.data }, { on := 3, ground := Ground.data }, { on := 3, ground := Ground.chain }, { on := 0, ground := Ground.phase }, { on := 1, ground := Ground.phase }, { on := 2, ground := Ground.phase }, { on := 3, ground := Ground.phase }, { on := 4, ground := Ground.phase }], guard := none }) rfl (fun K hK => ?_) ?_
            · go_simp
              refine hK.out _ _ (by (try dsimp only); exact hSO _ (by with_reducible repeat (first | exact IsGr.refl _ | refine IsGr.gr ?_ _ _ | refine IsGr.alloc ?_ _ | refine IsGr.drew ?_ | refine IsGr.drewN ?_ _))) (fun hHeld2 => ?_)
              clear hK K hHeld
              have hHeld := hHeld2
              clear hHeld2
              (try simp only [Act.put, qA, qB, qC])
              refine wpAnyH_done (by kernel_rfl) ?_ _
              go_wp2_with fail
              refine (C7 _).mono ?_
              rintro e w1 ⟨rfl, os7, m7, rfl⟩
              cases X
              · go_wp2
                go_ret
                exact ⟨ret_bool HR.out, hg.trans (by with_reducible repeat (first | exact IsGr.refl _ | refine IsGr.gr ?_ _ _ | refine IsGr.alloc ?_ _ | refine IsGr.drew ?_ | refine IsGr.drewN ?_ _))⟩
              · go_wp2_with fail
                refine (C8 _).mono ?_
                rintro e w1 ⟨rfl, os8, m8, rfl⟩
                go_wp2
                go_ret
                exact ⟨ret_bool HR.out, hg.trans (by with_reducible repeat (first | exact IsGr.refl _ | refine IsGr.gr ?_ _ _ | refine IsGr.alloc ?_ _ | refine IsGr.drew ?_ | refine IsGr.drewN ?_ _))⟩
            exact AllReadyH.nil
          exact AllReadyH.nil
        exact AllReadyH.nil
      exact AllReadyH.nil
    · have HR : Hid (false = spotR x y z) := by
        unfold Hid spotR
        rw [show decide (1 ≤ z ∧ z ≤ 1237940039285380274899124224) = false by simp; omega]
        rfl
      clear hx hy hz hb g1 hz1 e1
      go_enter Try.func31, Try.ntmps31
      go_upto_region 1 with fail
      obtain ⟨C, hin, hcl, hcells, hgr⟩ : ∃ C : World → Prop, (∀ w', w.heap.size + 1 ≤ w'.heap.size ∧ IsGr w w' ∧ (w'.cell? ⟨w.heap.size, 0, none⟩ = some (.int .u64 (wd0 x)) ∧ w'.cell? ⟨w.heap.size, 1, none⟩ = some (.int .u64 (wd1 x)) ∧ w'.cell? ⟨w.heap.size, 2, none⟩ = some (.int .u64 (wd2 x)) ∧ w'.cell? ⟨w.heap.size, 3, none⟩ = some (.int .u64 (wd3 x)) ∧ w'.cell? ⟨w.heap.size, 4, none⟩ = some (.int .u64 (wd0 y)) ∧ w'.cell? ⟨w.heap.size, 5, none⟩ = some (.int .u64 (wd1 y)) ∧ w'.cell? ⟨w.heap.size, 6, none⟩ = some (.int .u64 (wd2 y)) ∧ w'.cell? ⟨w.heap.size, 7, none⟩ = some (.int .u64 (wd3 y)) ∧ w'.cell? ⟨w.heap.size, 8, none⟩ = some (.int .u64 (wd0 z)) ∧ w'.cell? ⟨w.heap.size, 9, none⟩ = some (.int .u64 (wd1 z)) ∧ w'.cell? ⟨w.heap.size, 10, none⟩ = some (.int .u64 (wd2 z)) ∧ w'.cell? ⟨w.heap.size, 11, none⟩ = some (.int .u64 (wd3 z))) → C w') ∧ (∀ u u', C u → IsGr u u' → C u') ∧ (∀ w', C w' → (w'.cell? ⟨w.heap.size, 0, none⟩ = some (.int .u64 (wd0 x)) ∧ w'.cell? ⟨w.heap.size, 1, none⟩ = some (.int .u64 (wd1 x)) ∧ w'.cell? ⟨w.heap.size, 2, none⟩ = some (.int .u64 (wd2 x)) ∧ w'.cell? ⟨w.heap.size, 3, none⟩ = some (.int .u64 (wd3 x)) ∧ w'.cell? ⟨w.heap.size, 4, none⟩ = some (.int .u64 (wd0 y)) ∧ w'.cell? ⟨w.heap.size, 5, none⟩ = some (.int .u64 (wd1 y)) ∧ w'.cell? ⟨w.heap.size, 6, none⟩ = some (.int .u64 (wd2 y)) ∧ w'.cell? ⟨w.heap.size, 7, none⟩ = some (.int .u64 (wd3 y)) ∧ w'.cell? ⟨w.heap.size, 8, none⟩ = some (.int .u64 (wd0 z)) ∧ w'.cell? ⟨w.heap.size, 9, none⟩ = some (.int .u64 (wd1 z)) ∧ w'.cell? ⟨w.heap.size, 10, none⟩ = some (.int .u64 (wd2 z)) ∧ w'.cell? ⟨w.heap.size, 11, none⟩ = some (.int .u64 (wd3 z)))) ∧ (∀ w', C w' → IsGr w w' ∧ w.heap.size + 1 ≤ w'.heap.size) := by
        refine ⟨fun w' => w.heap.size + 1 ≤ w'.heap.size ∧ IsGr w w' ∧ (w'.cell? ⟨w.heap.size, 0, none⟩ = some (.int .u64 (wd0 x)) ∧ w'.cell? ⟨w.heap.size, 1, none⟩ = some (.int .u64 (wd1 x)) ∧ w'.cell? ⟨w.heap.size, 2, none⟩ = some (.int .u64 (wd2 x)) ∧ w'.cell? ⟨w.heap.size, 3, none⟩ = some (.int .u64 (wd3 x)) ∧ w'.cell? ⟨w.heap.size, 4, none⟩ = some (.int .u64 (wd0 y)) ∧ w'.cell? ⟨w.heap.size, 5, none⟩ = some (.int .u64 (wd1 y)) ∧ w'.cell? ⟨w.heap.size, 6, none⟩ = some (.int .u64 (wd2 y)) ∧ w'.cell? ⟨w.heap.size, 7, none⟩ = some (.int .u64 (wd3 y)) ∧ w'.cell? ⟨w.heap.size, 8, none⟩ = some (.int .u64 (wd0 z)) ∧ w'.cell? ⟨w.heap.size, 9, none⟩ = some (.int .u64 (wd1 z)) ∧ w'.cell? ⟨w.heap.size, 10, none⟩ = some (.int .u64 (wd2 z)) ∧ w'.cell? ⟨w.heap.size, 11, none⟩ = some (.int .u64 (wd3 z))), fun w' h => h, ?_, fun w' h => h.2.2, fun w' h => ⟨h.2.1, h.1⟩⟩
        rintro u u' ⟨h0, h1, h2⟩ hg
        refine ⟨Nat.le_trans h0 hg.size, h1.trans hg, ?_⟩
        exact ⟨hg.cell_at (by omega) h2.1, hg.cell_at (by omega) h2.2.1, hg.cell_at (by omega) h2.2.2.1, hg.cell_at (by omega) h2.2.2.2.1, hg.cell_at (by omega) h2.2.2.2.2.1, hg.cell_at (by omega) h2.2.2.2.2.2.1, hg.cell_at (by omega) h2.2.2.2.2.2.2.1, hg.cell_at (by omega) h2.2.2.2.2.2.2.2.1, hg.cell_at (by omega) h2.2.2.2.2.2.2.2.2.1, hg.cell_at (by omega) h2.2.2.2.2.2.2.2.2.2.1, hg.cell_at (by omega) h2.2.2.2.2.2.2.2.2.2.2.1, hg.cell_at (by omega) h2.2.2.2.2.2.2.2.2.2.2.2⟩
      refine wp_region_quietV C (by kernel_rfl) (by kernel_rfl) (hin _ ⟨by first | omega | (simp; done) | (simp; omega) | (simp [Gr.size]; done) | (simp [Gr.size]; omega), (by with_reducible repeat (first | exact IsGr.refl _ | refine IsGr.gr ?_ _ _ | refine IsGr.alloc ?_ _ | refine IsGr.drew ?_ | refine IsGr.drewN ?_ _)), by simp [go_sem]⟩) (fun K HK => ?_)
      refine QK.take HK ?_ (by rfl) ?_ ?_
      rotate_left
      · (intro w hw; (try have hcs := hcells w hw); (try go_split_ands); go_simp <;> with_reducible rfl)
      (try simp only [Act.put, qA, qB, qC])
      refine QK.take HK ?_ (by rfl) ?_ ?_
      rotate_left
      · (intro w hw; (try have hcs := hcells w hw); (try go_split_ands); go_simp <;> with_reducible rfl)
      (try simp only [Act.put, qA, qB, qC])
      refine QK.call HK 73 #[.agg #[.int .u64 (wd0 z), .int .u64 (wd1 z), .int .u64 (wd2 z), .int .u64 (wd3 z)]] (.int .i64 (1)) hcl (by rfl) (fun w => by go_simp) C1 ?_
      (try simp only [Act.put, qA, qB, qC])
      refine QK.take HK ?_ (by rfl) ?_ ?_
      rotate_left
      · (intro w hw; (try have hcs := hcells w hw); (try go_split_ands); go_simp <;> with_reducible rfl)
      (try simp only [Act.put, qA, qB, qC])
      refine QK.take HK ?_ (by rfl) ?_ ?_
      rotate_left
      · (intro w hw; (try have hcs := hcells w hw); (try go_split_ands); go_simp <;> with_reducible rfl)
      (try simp only [Act.put, qA, qB, qC])
      refine QK.take HK ?_ (by rfl) ?_ ?_
      rotate_left
      · (intro w hw; (try have hcs := hcells w hw); (try go_split_ands); go_simp <;> with_reducible rfl)
      (try simp only [Act.put, qA, qB, qC])
      refine QK.take HK ?_ (by rfl) ?_ ?_
      rotate_left
      · (intro w hw; (try have hcs := hcells w hw); (try go_split_ands); go_simp <;> with_reducible rfl)
      (try simp only [Act.put, qA, qB, qC])
      refine QK.call HK 38 #[.int .i64 1] (.agg #[.int .u64 (wd0 (1)), .int .u64 (wd1 (1)), .int .u64 (wd2 (1)), .int .u64 (wd3 (1))]) hcl (by rfl) (fun w => by go_simp) C2 ?_
      (try simp only [Act.put, qA, qB, qC])
      refine QK.call HK 69 #[.agg #[.int .u64 (wd0 z), .int .u64 (wd1 z), .int .u64 (wd2 z), .int .u64 (wd3 z)], .agg #[.int .u64 (wd0 (1)), .int .u64 (wd1 (1)), .int .u64 (wd2 (1)), .int .u64 (wd3 (1))]] (.agg #[.int .u64 (wd0 z1), .int .u64 (wd1 z1), .int .u64 (wd2 z1), .int .u64 (wd3 z1)]) hcl (by rfl) (fun w => by go_simp) C3 ?_
      (try simp only [Act.put, qA, qB, qC])
      refine QK.call HK 74 #[.agg #[.int .u64 (wd0 z1), .int .u64 (wd1 z1), .int .u64 (wd2 z1), .int .u64 (wd3 z1)]] (.int .i64 L) hcl (by rfl) (fun w => by go_simp) C4 ?_
      (try simp only [Act.put, qA, qB, qC])
      refine QK.take HK ?_ (by rfl) ?_ ?_
      rotate_left
      · (intro w hw; (try have hcs := hcells w hw); (try go_split_ands); go_simp <;> with_reducible rfl)
      (try simp only [Act.put, qA, qB, qC])
      refine QK.take HK ?_ (by rfl) ?_ ?_
      rotate_left
      · (intro w hw; (try have hcs := hcells w hw); (try go_split_ands); go_simp <;> with_reducible rfl)
      (try simp only [Act.put, qA, qB, qC])
      refine QK.nil HK ?_
      clear HK K
      intro wq hq
      have hg := (hgr wq hq).1
      clear hcells hin hcl hgr hq
      go_wp2
      go_ret
      exact ⟨ret_bool HR.out, hg⟩

set_option maxRecDepth 20000 in set_option maxHeartbeats 2000000 in
theorem cmpParts_any (n d m e : Int) (hn : Fit n) (hd : Fit d) (hm : Fit m) (he : Fit e) (h1 : Fit (n * e)) (h2 : Fit (m * d)) (w : World) :
    Calls Try.prog 76 #[.agg #[.int .u64 (wd0 n), .int .u64 (wd1 n), .int .u64 (wd2 n), .int .u64 (wd3 n)], .agg #[.int .u64 (wd0 d), .int .u64 (wd1 d), .int .u64 (wd2 d), .int .u64 (wd3 d)], .agg #[.int .u64 (wd0 m), .int .u64 (wd1 m), .int .u64 (wd2 m), .int .u64 (wd3 m)], .agg #[.int .u64 (wd0 e), .int .u64 (wd1 e), .int .u64 (wd2 e), .int .u64 (wd3 e)]] w fun e' w' => e' = .returned (.int .i64 (cmpI (n * e) (m * d))) ∧ IsGr w w' := by
  have C1 := fun w => xproduct n e hn he h1 w
  have C2 := fun w => xproduct m d hm hd h2 w
  have C3 := fun w => fCmp (n * e) (m * d) h1 h2 w
  clear hn hd hm he h1 h2
  generalize n * e = P at *
  generalize m * d = R at *
  generalize cmpI P R = X at *
  go_enter Try.func76, Try.ntmps76
  go_upto_region 1 with fail
  obtain ⟨C, hin, hcl, hcells, hgr⟩ : ∃ C : World → Prop, (∀ w', w.heap.size + 4 ≤ w'.heap.size ∧ IsGr w w' ∧ (w'.cell? ⟨w.heap.size, 0, none⟩ = some (.int .u64 (wd0 n)) ∧ w'.cell? ⟨w.heap.size, 1, none⟩ = some (.int .u64 (wd1 n)) ∧ w'.cell? ⟨w.heap.size, 2, none⟩ = some (.int .u64 (wd2 n)) ∧ w'.cell? ⟨w.heap.size, 3, none⟩ = some (.int .u64 (wd3 n))) ∧ (w'.cell? ⟨w.heap.size + 1, 0, none⟩ = some (.int .u64 (wd0 d)) ∧ w'.cell? ⟨w.heap.size + 1, 1, none⟩ = some (.int .u64 (wd1 d)) ∧ w'.cell? ⟨w.heap.size + 1, 2, none⟩ = some (.int .u64 (wd2 d)) ∧ w'.cell? ⟨w.heap.size + 1, 3, none⟩ = some (.int .u64 (wd3 d))) ∧ (w'.cell? ⟨w.heap.size + 1 + 1, 0, none⟩ = some (.int .u64 (wd0 m)) ∧ w'.cell? ⟨w.heap.size + 1 + 1, 1, none⟩ = some (.int .u64 (wd1 m)) ∧ w'.cell? ⟨w.heap.size + 1 + 1, 2, none⟩ = some (.int .u64 (wd2 m)) ∧ w'.cell? ⟨w.heap.size + 1 + 1, 3, none⟩ = some (.int .u64 (wd3 m))) ∧ (w'.cell? ⟨w.heap.size + 1 + 1 + 1, 0, none⟩ = some (.int .u64 (wd0 e)) ∧ w'.cell? ⟨w.heap.size + 1 + 1 + 1, 1, none⟩ = some (.int .u64 (wd1 e)) ∧ w'.cell? ⟨w.heap.size + 1 + 1 + 1, 2, none⟩ = some (.int .u64 (wd2 e)) ∧ w'.cell? ⟨w.heap.size + 1 + 1 + 1, 3, none⟩ = some (.int .u64 (wd3 e))) → C w') ∧ (∀ u u', C u → IsGr u u' → C u') ∧ (∀ w', C w' → (w'.cell? ⟨w.heap.size, 0, none⟩ = some (.int .u64 (wd0 n)) ∧ w'.cell? ⟨w.heap.size, 1, none⟩ = some (.int .u64 (wd1 n)) ∧ w'.cell? ⟨w.heap.size, 2, none⟩ = some (.int .u64 (wd2 n)) ∧ w'.cell? ⟨w.heap.size, 3, none⟩ = some (.int .u64 (wd3 n))) ∧ (w'.cell? ⟨w.heap.size + 1, 0, none⟩ = some (.int .u64 (wd0 d)) ∧ w'.cell? ⟨w.heap.size + 1, 1, none⟩ = some (.int .u64 (wd1 d)) ∧ w'.cell? ⟨w.heap.size + 1, 2, none⟩ = some (.int .u64 (wd2 d)) ∧ w'.cell? ⟨w.heap.size + 1, 3, none⟩ = some (.int .u64 (wd3 d))) ∧ (w'.cell? ⟨w.heap.size + 1 + 1, 0, none⟩ = some (.int .u64 (wd0 m)) ∧ w'.cell? ⟨w.heap.size + 1 + 1, 1, none⟩ = some (.int .u64 (wd1 m)) ∧ w'.cell? ⟨w.heap.size + 1 + 1, 2, none⟩ = some (.int .u64 (wd2 m)) ∧ w'.cell? ⟨w.heap.size + 1 + 1, 3, none⟩ = some (.int .u64 (wd3 m))) ∧ (w'.cell? ⟨w.heap.size + 1 + 1 + 1, 0, none⟩ = some (.int .u64 (wd0 e)) ∧ w'.cell? ⟨w.heap.size + 1 + 1 + 1, 1, none⟩ = some (.int .u64 (wd1 e)) ∧ w'.cell? ⟨w.heap.size + 1 + 1 + 1, 2, none⟩ = some (.int .u64 (wd2 e)) ∧ w'.cell? ⟨w.heap.size + 1 + 1 + 1, 3, none⟩ = some (.int .u64 (wd3 e)))) ∧ (∀ w', C w' → IsGr w w' ∧ w.heap.size + 4 ≤ w'.heap.size) := by
    refine ⟨fun w' => w.heap.size + 4 ≤ w'.heap.size ∧ IsGr w w' ∧ (w'.cell? ⟨w.heap.size, 0, none⟩ = some (.int .u64 (wd0 n)) ∧ w'.cell? ⟨w.heap.size, 1, none⟩ = some (.int .u64 (wd1 n)) ∧ w'.cell? ⟨w.heap.size, 2, none⟩ = some (.int .u64 (wd2 n)) ∧ w'.cell? ⟨w.heap.size, 3, none⟩ = some (.int .u64 (wd3 n))) ∧ (w'.cell? ⟨w.heap.size + 1, 0, none⟩ = some (.int .u64 (wd0 d)) ∧ w'.cell? ⟨w.heap.size + 1, 1, none⟩ = some (.int .u64 (wd1 d)) ∧ w'.cell? ⟨w.heap.size + 1, 2, none⟩ = some (.int .u64 (wd2 d)) ∧ w'.cell? ⟨w.heap.size + 1, 3, none⟩ = some (.int .u64 (wd3 d))) ∧ (w'.cell? ⟨w.heap.size + 1 + 1, 0, none⟩ = some (.int .u64 (wd0 m)) ∧ w'.cell? ⟨w.heap.size + 1 + 1, 1, none⟩ = some (.int .u64 (wd1 m)) ∧ w'.cell? ⟨w.heap.size + 1 + 1, 2, none⟩ = some (.int .u64 (wd2 m)) ∧ w'.cell? ⟨w.heap.size + 1 + 1, 3, none⟩ = some (.int .u64 (wd3 m))) ∧ (w'.cell? ⟨w.heap.size + 1 + 1 + 1, 0, none⟩ = some (.int .u64 (wd0 e)) ∧ w'.cell? ⟨w.heap.size + 1 + 1 + 1, 1, none⟩ = some (.int .u64 (wd1 e)) ∧ w'.cell? ⟨w.heap.size + 1 + 1 + 1, 2, none⟩ = some (.int .u64 (wd2 e)) ∧ w'.cell? ⟨w.heap.size + 1 + 1 + 1, 3, none⟩ = some (.int .u64 (wd3 e))), fun w' h => h, ?_, fun w' h => h.2.2, fun w' h => ⟨h.2.1, h.1⟩⟩
    rintro u u' ⟨h0, h1, h2⟩ hg
    refine ⟨Nat.le_trans h0 hg.size, h1.trans hg, ?_⟩
    exact ⟨⟨hg.cell_at (by omega) h2.1.1, hg.cell_at (by omega) h2.1.2.1, hg.cell_at (by omega) h2.1.2.2.1, hg.cell_at (by omega) h2.1.2.2.2⟩, ⟨hg.cell_at (by omega) h2.2.1.1, hg.cell_at (by omega) h2.2.1.2.1, hg.cell_at (by omega) h2.2.1.2.2.1, hg.cell_at (by omega) h2.2.1.2.2.2⟩, ⟨hg.cell_at (by omega) h2.2.2.1.1, hg.cell_at (by omega) h2.2.2.1.2.1, hg.cell_at (by omega) h2.2.2.1.2.2.1, hg.cell_at (by omega) h2.2.2.1.2.2.2⟩, ⟨hg.cell_at (by omega) h2.2.2.2.1, hg.cell_at (by omega) h2.2.2.2.2.1, hg.cell_at (by omega) h2.2.2.2.2.2.1, hg.cell_at (by omega) h2.2.2.2.2.2.2⟩⟩
  refine wp_region_quietV C (by kernel_rfl) (by kernel_rfl) (hin _ ⟨by first | omega | (simp; done) | (simp; omega) | (simp [Gr.size]; done) | (simp [Gr.size]; omega), (by with_reducible repeat (first | exact IsGr.refl _ | refine IsGr.gr ?_ _ _ | refine IsGr.alloc ?_ _ | refine IsGr.drew ?_ | refine IsGr.drewN ?_ _)), by simp [go_sem]⟩) (fun K HK => ?_)
  refine QK.take HK ?_ (by rfl) ?_ ?_
  rotate_left
  · (intro w hw; (try have hcs := hcells w hw); (try go_split_ands); go_simp <;> with_reducible rfl)
  (try simp only [Act.put, qA, qB, qC])
  refine QK.take HK ?_ (by rfl) ?_ ?_
  rotate_left
  · (intro w hw; (try have hcs := hcells w hw); (try go_split_ands); go_simp <;> with_reducible rfl)
  (try simp only [Act.put, qA, qB, qC])
  refine QK.call HK 70 #[.agg #[.int .u64 (wd0 n), .int .u64 (wd1 n), .int .u64 (wd2 n), .int .u64 (wd3 n)], .agg #[.int .u64 (wd0 e), .int .u64 (wd1 e), .int .u64 (wd2 e), .int .u64 (wd3 e)]] (.agg #[.int .u64 (wd0 P), .int .u64 (wd1 P), .int .u64 (wd2 P), .int .u64 (wd3 P)]) hcl (by rfl) (fun w => by go_simp) C1 ?_
  (try simp only [Act.put, qA, qB, qC])
  refine QK.take HK ?_ (by rfl) ?_ ?_
  rotate_left
  · (intro w hw; (try have hcs := hcells w hw); (try go_split_ands); go_simp <;> with_reducible rfl)
  (try simp only [Act.put, qA, qB, qC])
  refine QK.take HK ?_ (by rfl) ?_ ?_
  rotate_left
  · (intro w hw; (try have hcs := hcells w hw); (try go_split_ands); go_simp <;> with_reducible rfl)
  (try simp only [Act.put, qA, qB, qC])
  refine QK.call HK 70 #[.agg #[.int .u64 (wd0 m), .int .u64 (wd1 m), .int .u64 (wd2 m), .int .u64 (wd3 m)], .agg #[.int .u64 (wd0 d), .int .u64 (wd1 d), .int .u64 (wd2 d), .int .u64 (wd3 d)]] (.agg #[.int .u64 (wd0 R), .int .u64 (wd1 R), .int .u64 (wd2 R), .int .u64 (wd3 R)]) hcl (by rfl) (fun w => by go_simp) C2 ?_
  (try simp only [Act.put, qA, qB, qC])
  refine QK.call HK 96 #[.agg #[.int .u64 (wd0 P), .int .u64 (wd1 P), .int .u64 (wd2 P), .int .u64 (wd3 P)], .agg #[.int .u64 (wd0 R), .int .u64 (wd1 R), .int .u64 (wd2 R), .int .u64 (wd3 R)]] (.int .i64 X) hcl (by rfl) (fun w => by go_simp) C3 ?_
  (try simp only [Act.put, qA, qB, qC])
  refine QK.take HK ?_ (by rfl) ?_ ?_
  rotate_left
  · (intro w hw; (try have hcs := hcells w hw); (try go_split_ands); go_simp <;> with_reducible rfl)
  (try simp only [Act.put, qA, qB, qC])
  refine QK.nil HK ?_
  clear HK K
  intro wq hq
  have hg := (hgr wq hq).1
  clear hcells hin hcl hgr hq
  go_wp2
  go_ret
  exact ⟨rfl, hg⟩

/-- Which of two spots comes first. -/
def spotC (x y z u v t : Int) : Int := if (spotR x y z && spotR u v t) = true then (if cmpI (x * t) (u * z) = 0 then cmpI (y * t) (v * z) else cmpI (x * t) (u * z)) else 0
theorem spot_fit {x y z : Int} (h : spotR x y z = true) : Fit x ∧ Fit y ∧ Fit z := by
  have := spotR_t h
  unfold Fit
  omega
theorem spot_prod {x y z u v t : Int} (h : spotR x y z = true) (h' : spotR u v t = true) : Fit (x * t) ∧ Fit (y * t) ∧ Fit (u * z) ∧ Fit (v * z) := by
  have a := spotR_t h
  have b := spotR_t h'
  have k : ∀ p q : Int, (-2722258935367507707706996859454145691648 ≤ p ∧ p ≤ 2722258935367507707706996859454145691648) → (1 ≤ q ∧ q ≤ 1237940039285380274899124224) → Fit (p * q) := fun p q hp hq => by
    have := mul_le_of (A := 2722258935367507707706996859454145691648) (B := 1237940039285380274899124224) hp (by omega : -1237940039285380274899124224 ≤ q ∧ q ≤ 1237940039285380274899124224)
    unfold Fit
    omega
  exact ⟨k _ _ (by omega) b.1, k _ _ (by omega) b.1, k _ _ (by omega) a.1, k _ _ (by omega) a.1⟩
set_option maxRecDepth 20000 in set_option maxHeartbeats 2000000 in
theorem SpCmp_any (x y z u v t : Int) (hx : Fit x) (hy : Fit y) (hz : Fit z) (hu : Fit u) (hv : Fit v) (ht : Fit t) (w : World) :
    Calls Try.prog 34 #[.agg #[.int .u64 (wd0 x), .int .u64 (wd1 x), .int .u64 (wd2 x), .int .u64 (wd3 x), .int .u64 (wd0 y), .int .u64 (wd1 y), .int .u64 (wd2 y), .int .u64 (wd3 y), .int .u64 (wd0 z), .int .u64 (wd1 z), .int .u64 (wd2 z), .int .u64 (wd3 z)], .agg #[.int .u64 (wd0 u), .int .u64 (wd1 u), .int .u64 (wd2 u), .int .u64 (wd3 u), .int .u64 (wd0 v), .int .u64 (wd1 v), .int .u64 (wd2 v), .int .u64 (wd3 v), .int .u64 (wd0 t), .int .u64 (wd1 t), .int .u64 (wd2 t), .int .u64 (wd3 t)]] w fun e w' => e = .returned (.int .i64 (spotC x y z u v t)) ∧ IsGr w w' := by
  have C1 := fun w => SpRight_any x y z hx hy hz w
  have C2 := fun w => SpRight_any u v t hu hv ht w
  cases h1 : spotR x y z with
  | false =>
    have HR : Hid (0 = spotC x y z u v t) := by unfold Hid spotC; rw [h1]; rfl
    rw [h1] at C1
    clear hx hy hz hu hv ht h1
    go_enter Try.func34, Try.ntmps34
    go_wp2_with fail
    refine (C1 _).mono ?_
    rintro e w1 ⟨rfl, os1, m1, rfl⟩
    go_wp2
    go_ret
    exact ⟨ret_int' HR.out, (by with_reducible repeat (first | exact IsGr.refl _ | refine IsGr.gr ?_ _ _ | refine IsGr.alloc ?_ _ | refine IsGr.drew ?_ | refine IsGr.drewN ?_ _))⟩
  | true =>
    cases h2 : spotR u v t with
    | false =>
      have HR : Hid (0 = spotC x y z u v t) := by unfold Hid spotC; rw [h1, h2]; rfl
      rw [h1] at C1
      rw [h2] at C2
      clear hx hy hz hu hv ht h1 h2
      go_enter Try.func34, Try.ntmps34
      go_wp2_with fail
      refine (C1 _).mono ?_
      rintro e w1 ⟨rfl, os1, m1, rfl⟩
      go_wp2_with fail
      refine (C2 _).mono ?_
      rintro e w1 ⟨rfl, os2, m2, rfl⟩
      go_wp2
      go_ret
      exact ⟨ret_int' HR.out, (by with_reducible repeat (first | exact IsGr.refl _ | refine IsGr.gr ?_ _ _ | refine IsGr.alloc ?_ _ | refine IsGr.drew ?_ | refine IsGr.drewN ?_ _))⟩
    | true =>
      obtain ⟨f1, f2, f3, f4⟩ := spot_prod h1 h2
      have C3 := fun w => cmpParts_any x z u t hx hz hu ht f1 f3 w
      have C4 := fun w => cmpParts_any y z v t hy hz hv ht f2 f4 w
      have HQ : Hid ((if cmpI (x * t) (u * z) = 0 then cmpI (y * t) (v * z) else cmpI (x * t) (u * z)) = spotC x y z u v t) := by unfold Hid spotC; rw [h1, h2]; rfl
      rw [h1] at C1
      rw [h2] at C2
      clear hx hy hz hu hv ht h1 h2 f1 f2 f3 f4
      generalize cmpI (x * t) (u * z) = X at *
      generalize cmpI (y * t) (v * z) = Y at *
      by_cases hX : X = 0
      · subst hX
        have HR : Hid (Y = spotC x y z u v t) := HQ.out
        clear HQ
        go_enter Try.func34, Try.ntmps34
        go_wp2_with fail
        refine (C1 _).mono ?_
        rintro e w1 ⟨rfl, os1, m1, rfl⟩
        go_wp2_with fail
        refine (C2 _).mono ?_
        rintro e w1 ⟨rfl, os2, m2, rfl⟩
        go_wp2_with fail
        refine (C3 _).mono ?_
        rintro e w1 ⟨rfl, os3, m3, rfl⟩
        go_wp2_with fail
        refine (C4 _).mono ?_
        rintro e w1 ⟨rfl, os4, m4, rfl⟩
        go_wp2
        go_ret
        exact ⟨ret_int' HR.out, (by with_reducible repeat (first | exact IsGr.refl _ | refine IsGr.gr ?_ _ _ | refine IsGr.alloc ?_ _ | refine IsGr.drew ?_ | refine IsGr.drewN ?_ _))⟩
      · have HR : Hid (X = spotC x y z u v t) := by have := HQ.out; rw [if_neg hX] at this; exact this
        have hX' : (X == 0) = false := by simp [hX]
        clear HQ
        go_enter Try.func34, Try.ntmps34
        go_wp2_with fail
        refine (C1 _).mono ?_
        rintro e w1 ⟨rfl, os1, m1, rfl⟩
        go_wp2_with fail
        refine (C2 _).mono ?_
        rintro e w1 ⟨rfl, os2, m2, rfl⟩
        go_wp2_with fail
        refine (C3 _).mono ?_
        rintro e w1 ⟨rfl, os3, m3, rfl⟩
        go_wp2
        go_ret
        exact ⟨ret_int' HR.out, (by with_reducible repeat (first | exact IsGr.refl _ | refine IsGr.gr ?_ _ _ | refine IsGr.alloc ?_ _ | refine IsGr.drew ?_ | refine IsGr.drewN ?_ _))⟩
end Go.Proofs.Ytohhlhoijanjfaa
namespace Go.Proofs.Ytohhlhoijanjfaa
open Go

section
variable {P : Program} {ops : Array Oper} {Q : Exit → Act → World → Prop} {S : World → Prop}

/-- The operations of rs that operation i waits for. -/
def needs (ops : Array Oper) (rs : List Nat) (i : Nat) : List Nat :=
  match ops[i]? with
  | none => []
  | some o => (o.after.toList.filter fun e => Region.binds .any e && rs.contains e.on).map fun e => e.on

/-- Everybody waits for earlier ones only. -/
def earlier (ops : Array Oper) : Bool :=
  (List.range ops.size).all fun i => ((ops[i]?).map fun o => o.after.all fun e => !Region.binds .any e || decide (e.on < i)).getD false

theorem earlier_spec (h : earlier ops = true) {i : Nat} {o : Oper} (ho : ops[i]? = some o) : ∀ e ∈ o.after, Region.binds .any e = true → e.on < i := by
  intro e he hb
  have hi : i < ops.size := (Array.getElem?_eq_some_iff.1 ho).1
  simp only [earlier, List.all_eq_true, List.mem_range] at h
  have := h i hi
  simp only [ho, Option.map_some, Option.getD_some, Array.all_eq_true_iff_forall_mem] at this
  have := this e he
  simp [hb] at this
  exact this

theorem all_of_ready (he : earlier ops = true) {L : Array Bool} (hs : L.size = ops.size) (hr : Region.ready .any ops L = []) : ∀ i, i < ops.size → L.getD i false = true := by
  intro i
  induction i using Nat.strongRecOn with
  | ind i ih =>
    intro hi
    cases hl : L.getD i false with
    | true => rfl
    | false =>
      exfalso
      have : i ∈ Region.ready .any ops L := by
        rw [mem_ready]
        refine ⟨?_, ops[i], Array.getElem?_eq_getElem hi, fun e h1 hb => ?_⟩
        · have hil : i < L.size := by omega
          simp [hil] at hl ⊢
          exact hl
        · have := earlier_spec he (Array.getElem?_eq_getElem hi) e h1 hb
          exact ih e.on this (by omega)
      rw [hr] at this
      cases this

/-- Operation j of rs has come up. -/
def Done (L : Array Bool) (rs : List Nat) (j : Nat) : Prop := j ∈ rs ∧ L.getD j false = true

theorem Done.set {L : Array Bool} {rs : List Nat} {i : Nat} (hi : i ∈ rs) (hl : i < L.size) : (Done (L.setIfInBounds i true) rs) = (fun j => j = i ∨ Done L rs j) := by
  funext j
  apply propext
  unfold Done
  by_cases h : j = i
  · subst h; simp [hi, hl]
  · rw [getD_set_ne false (Ne.symm h)]; simp [h]

/-- One operation's obligation. -/
def StepI (P : Program) (ops : Array Oper) (Q : Exit → Act → World → Prop) (S : World → Prop) (rs : List Nat) (F : (Nat → Prop) → Act → World → Prop) (i : Nat) : Prop :=
  ∀ (D : Nat → Prop) (a : Act) (w : World), ¬ D i → (∀ j ∈ needs ops rs i, D j) → F D a w → S w → wpOp P ops Q i (fun a' w' => S w' ∧ F (fun j => j = i ∨ D j) a' w') a w

theorem wpAnyH_inv_go (he : earlier ops = true) (rs : List Nat) (hrs : ∀ i ∈ rs, i < ops.size) (F : (Nat → Prop) → Act → World → Prop) (hstep : ∀ i ∈ rs, StepI P ops Q S rs F i)
    (hend : ∀ (D : Nat → Prop) (a : Act) (w : World), (∀ i ∈ rs, D i) → F D a w → S w → Q .normal a w) :
    ∀ (fuel : Nat) (L : Array Bool) (a : Act) (w : World), L.size = ops.size → (∀ j, j < ops.size → j ∉ rs → L.getD j false = true) → L.count false ≤ fuel → F (Done L rs) a w → S w → wpAnyH P .any ops Q S fuel L a w := by
  have fin : ∀ (L : Array Bool) (a : Act) (w : World), L.size = ops.size → F (Done L rs) a w → S w → Region.ready .any ops L = [] → Q .normal a w := fun L a w hs hF hS hr =>
    hend _ a w (fun i hi => ⟨hi, all_of_ready he hs hr i (hrs i hi)⟩) hF hS
  intro fuel
  induction fuel with
  | zero =>
    intro L a w hs hp hc hF hS
    have hr : Region.ready .any ops L = [] := by
      rw [List.eq_nil_iff_forall_not_mem]
      intro i hi
      obtain ⟨h1, o, ho, _⟩ := mem_ready.1 hi
      have hil : i < L.size := by rw [hs]; exact (Array.getElem?_eq_some_iff.1 ho).1
      simp [hil] at h1
      have : 0 < L.count false := Array.count_pos_iff.2 (h1 ▸ Array.getElem_mem hil)
      omega
    exact ⟨hr, fin L a w hs hF hS hr⟩
  | succ fuel ih =>
    intro L a w hs hp hc hF hS
    refine ⟨fin L a w hs hF hS, fun i hi => ?_⟩
    obtain ⟨h1, o, ho, h2⟩ := mem_ready.1 hi
    have hio : i < ops.size := (Array.getElem?_eq_some_iff.1 ho).1
    have hil : i < L.size := by omega
    have hir : i ∈ rs := by
      refine Classical.byContradiction fun hn => ?_
      have := hp i hio hn
      simp [hil] at this h1
      rw [h1] at this; cases this
    refine wpOp_mono (fun a' w' h' => ⟨h'.1, ih _ a' w' (by simp [hs]) (fun j hj hn => ?_) ?_ ?_ h'.1⟩) (hstep i hir (Done L rs) a w ?_ ?_ hF hS)
    · have hji : j ≠ i := fun e => hn (e ▸ hir)
      rw [getD_set_ne false (Ne.symm hji)]
      exact hp j hj hn
    · simp [hil] at h1
      have : (L.setIfInBounds i true) = L.set i true hil := by simp [Array.setIfInBounds, hil]
      rw [this, Array.count_set]
      simp [h1]
      omega
    · rw [Done.set hir hil]; exact h'.2
    · rintro ⟨_, h⟩
      simp [hil] at h h1
      rw [h1] at h; cases h
    · intro j hj
      simp only [needs, ho, List.mem_map, List.mem_filter, Array.mem_toList_iff, Bool.and_eq_true, List.contains_iff_mem] at hj
      obtain ⟨e, ⟨h3, h4, h5⟩, rfl⟩ := hj
      exact ⟨by simpa using h5, h2 e h3 h4⟩

def invOk (ops : Array Oper) (rs : List Nat) (L : Array Bool) (fuel : Nat) : Bool :=
  earlier ops && rs.all (fun i => decide (i < ops.size) && !L.getD i true) && decide (L.size = ops.size) && decide (L.count false ≤ fuel) && (List.range ops.size).all fun j => rs.contains j || L.getD j false

/-- The operations of rs are left: an invariant F over which of them have come up. -/
theorem wpAnyH_inv {fuel : Nat} {L : Array Bool} {a : Act} {w : World} (rs : List Nat) (F : (Nat → Prop) → Act → World → Prop) (hc : invOk ops rs L fuel = true) (hS : S w) (h0 : F (fun _ => False) a w)
    (hend : ∀ (D : Nat → Prop) (a : Act) (w : World), (∀ i ∈ rs, D i) → F D a w → S w → Q .normal a w) (hstep : ∀ i ∈ rs, StepI P ops Q S rs F i) : wpAnyH P .any ops Q S fuel L a w := by
  simp only [invOk, Bool.and_eq_true, decide_eq_true_eq, List.all_eq_true, List.mem_range] at hc
  obtain ⟨⟨⟨⟨h1, h2⟩, h3⟩, h4⟩, h5⟩ := hc
  refine wpAnyH_inv_go h1 rs (fun i hi => (h2 i hi).1) F hstep hend fuel L a w h3 (fun j hj hn => ?_) h4 ?_ hS
  · have := h5 j hj
    simp [hn] at this
    simpa using this
  · have : Done L rs = fun _ => False := by
      funext j
      apply propext
      refine ⟨fun ⟨h6, h7⟩ => ?_, False.elim⟩
      have := h2 j h6
      have hjl : j < L.size := by rw [h3]; exact this.1
      have h8 := this.2
      simp [hjl] at h8 h7
      rw [h8] at h7; cases h7
    rw [this]; exact h0

/-- So, with the invariant told from the activation at the start. -/
theorem wpAnyH_invA {fuel : Nat} {L : Array Bool} {a : Act} {w : World} (rs : List Nat) (F : Act → (Nat → Prop) → Act → World → Prop) (hc : invOk ops rs L fuel = true) (hS : S w) (h0 : F a (fun _ => False) a w)
    (hend : ∀ (D : Nat → Prop) (a' : Act) (w' : World), (∀ i ∈ rs, D i) → F a D a' w' → S w' → Q .normal a' w') (hstep : ∀ i ∈ rs, StepI P ops Q S rs (F a) i) : wpAnyH P .any ops Q S fuel L a w :=
  wpAnyH_inv rs (F a) hc hS h0 hend hstep

theorem StepI.nil {rs : List Nat} {F : (Nat → Prop) → Act → World → Prop} : ∀ i ∈ ([] : List Nat), StepI P ops Q S rs F i := fun _ h => by cases h
theorem StepI.cons {rs : List Nat} {F : (Nat → Prop) → Act → World → Prop} {i : Nat} {o : Oper} {ns tl : List Nat} (ho : ops[i]? = some o) (hn : needs ops rs i = ns)
    (h : ∀ (D : Nat → Prop) (a : Act) (w : World), ¬ D i → (∀ j ∈ ns, D j) → F D a w → S w → ∀ K' : Act → World → Prop, Shut (∀ a' w', S w' → (S w' → F (fun j => j = i ∨ D j) a' w') → K' a' w') →
      if Region.wanted o (yielded ops a.tmps) = true then Oper.wp P o a w K' Q else K' (a.put o.dst undef) w)
    (hs : ∀ i ∈ tl, StepI P ops Q S rs F i) : ∀ j ∈ i :: tl, StepI P ops Q S rs F j := fun j hj => by
  rcases List.mem_cons.1 hj with rfl | hj
  · intro D a w h1 h2 h3 h4
    exact wpOp_step ho (fun K' hK => h D a w h1 (hn ▸ h2) h3 h4 K' (fun a w hS hW => hK a w ⟨hS, hW hS⟩))
  · exact hs j hj
end
end Go.Proofs.Ytohhlhoijanjfaa
namespace Go.Proofs.Ytohhlhoijanjfaa
open Go

/-- v points to a box of two cells, laid behind W, whose cells are p's. -/
def Bx (W w : World) (T : TypeId) (p : Value → Value → Prop) (v : Value) : Prop := ∃ b c0 c1, v = .pointer (some ⟨b, 0, none⟩) ∧ W.heap.size ≤ b ∧ w.heap[b]? = some (.cells #[c0, c1] T) ∧ p c0 c1
/-- v points to a box that holds c0 and c1. -/
def Hx (w : World) (T : TypeId) (v c0 c1 : Value) : Prop := ∃ b, v = .pointer (some ⟨b, 0, none⟩) ∧ w.heap[b]? = some (.cells #[c0, c1] T)
/-- The cells of a Big's box. -/
def bigCells (c0 c1 : Value) : Prop := ∃ (s : Bool) (a : Option Addr) (n c : Nat), c0 = .bool s ∧ c1 = .slice a n c
section
variable {W w w' : World} {T : TypeId} {p : Value → Value → Prop} {u v : Value}
theorem IsGr.block (h : IsGr w w') {b : Nat} {o : Obj} (hb : w.heap[b]? = some o) : w'.heap[b]? = some o := by
  obtain ⟨os, n, rfl⟩ := h
  rw [Gr.heap_lt w os n b (Array.getElem?_eq_some_iff.1 hb).1]
  exact hb
theorem Bx.gr (h : Bx W w T p v) (hg : IsGr w w') : Bx W w' T p v := by
  obtain ⟨b, c0, c1, h1, h2, h3, h4⟩ := h
  exact ⟨b, c0, c1, h1, h2, hg.block h3, h4⟩
theorem Hx.gr {c0 c1 : Value} (h : Hx w T v c0 c1) (hg : IsGr w w') : Hx w' T v c0 c1 := by
  obtain ⟨b, h1, h2⟩ := h
  exact ⟨b, h1, hg.block h2⟩
theorem Bx.lay (hg : IsGr W w) {c0 c1 : Value} (h : p c0 c1) : Bx W (w.alloc (.cells #[c0, c1] T)) T p (.pointer (some ⟨w.heap.size, 0, none⟩)) :=
  ⟨w.heap.size, c0, c1, rfl, hg.size, by show (w.heap.push _)[w.heap.size]? = _; simp, h⟩
theorem Bx.ne (h : Bx W w T p v) : v ≠ .pointer (some ⟨w.heap.size, 0, none⟩) := by
  obtain ⟨b, c0, c1, h1, h2, h3, h4⟩ := h
  have := (Array.getElem?_eq_some_iff.1 h3).1
  rintro rfl
  injection h1 with h1
  injection h1 with h1
  injection h1 with h1
  omega
/-- A store into the two cells of a box. -/
def put2 (w : World) (b : Nat) (c0 c1 : Value) : World := (w.setCell ⟨b, 0, none⟩ c0).setCell ⟨b, 1, none⟩ c1
theorem put2_block {b g : Nat} {d0 d1 c0 c1 : Value} (hb : w.heap[b]? = some (.cells #[d0, d1] T)) : (put2 w b c0 c1).heap[g]? = if g = b then some (.cells #[c0, c1] T) else w.heap[g]? := by
  have hl := (Array.getElem?_eq_some_iff.1 hb).1
  have he := (Array.getElem?_eq_some_iff.1 hb).2
  unfold put2
  simp only [World.setCell, Option.isSome_none, Bool.false_eq_true, if_false]
  by_cases h : g = b
  · subst h; simp [Array.getElem?_modify, hb]
  · have : b ≠ g := Ne.symm h
    simp [Array.getElem?_modify, h, this]
theorem put2_gr {b : Nat} {c0 c1 : Value} (hg : IsGr W w) (hW : W.heap.size ≤ b) : IsGr W (put2 w b c0 c1) :=
  IsGr.of_below (Go.RowKit.Below.setCell (Go.RowKit.Below.setCell hg.below (by simpa using hW) _) (by simpa using hW) _)
theorem put2_bx {b : Nat} {d0 d1 c0 c1 : Value} (hb : w.heap[b]? = some (.cells #[d0, d1] T)) (hp : p c0 c1) (h : Bx W w T p u) : Bx W (put2 w b c0 c1) T p u := by
  obtain ⟨g, e0, e1, h1, h2, h3, h4⟩ := h
  by_cases hgb : g = b
  · exact ⟨g, c0, c1, h1, h2, by rw [put2_block hb, if_pos hgb], hp⟩
  · exact ⟨g, e0, e1, h1, h2, by rw [put2_block hb, if_neg hgb]; exact h3, h4⟩
theorem put2_new {b : Nat} {d0 d1 c0 c1 : Value} (hb : w.heap[b]? = some (.cells #[d0, d1] T)) : Hx (put2 w b c0 c1) T (.pointer (some ⟨b, 0, none⟩)) c0 c1 :=
  ⟨b, rfl, by rw [put2_block hb, if_pos rfl]⟩
theorem put2_kb {b : Nat} {d0 d1 c0 c1 : Value} (hb : w.heap[b]? = some (.cells #[d0, d1] T)) (hd : bigCells d0 d1) : Kb w (put2 w b c0 c1) := by
  refine ⟨by simp [put2], fun g o n e => ?_⟩
  have : g ≠ b := by
    rintro rfl
    obtain ⟨s, a, k, c, rfl, rfl⟩ := hd
    simp only [World.cell?, hb] at e
    match o with
    | 0 => simp at e
    | 1 => simp at e
    | m + 2 => simp at e
  simp only [World.cell?] at e ⊢
  rw [put2_block hb, if_neg this]
  exact e
theorem block_cells {b : Nat} {c0 c1 : Value} (hb : w.heap[b]? = some (.cells #[c0, c1] T)) : b < w.heap.size ∧ w.cell? ⟨b, 0, none⟩ = some c0 ∧ w.cell? ⟨b, 1, none⟩ = some c1 ∧ w.frozen? ⟨b, 0, none⟩ = false ∧ w.frozen? ⟨b, 1, none⟩ = false := by
  refine ⟨(Array.getElem?_eq_some_iff.1 hb).1, ?_, ?_, ?_, ?_⟩ <;> simp [World.cell?, World.frozen?, hb]
end
end Go.Proofs.Ytohhlhoijanjfaa
namespace Go.Proofs.Ytohhlhoijanjfaa
open Go


/-- v points to a box of 4 cells, laid behind W. -/
def Bx4 (W w : World) (T : TypeId) (v : Value) : Prop := ∃ b c0 c1 c2 c3, v = .pointer (some ⟨b, 0, none⟩) ∧ W.heap.size ≤ b ∧ w.heap[b]? = some (.cells #[c0, c1, c2, c3] T)
/-- v points to a box that holds these 4. -/
def Hx4 (w : World) (T : TypeId) (v c0 c1 c2 c3 : Value) : Prop := ∃ b, v = .pointer (some ⟨b, 0, none⟩) ∧ w.heap[b]? = some (.cells #[c0, c1, c2, c3] T)
section
variable {W w w' : World} {T : TypeId} {u v : Value}
theorem Bx4.gr (h : Bx4 W w T v) (hg : IsGr w w') : Bx4 W w' T v := by
  obtain ⟨b, c0, c1, c2, c3, h1, h2, h3⟩ := h
  exact ⟨b, c0, c1, c2, c3, h1, h2, hg.block h3⟩
theorem Hx4.gr {c0 c1 c2 c3 : Value} (h : Hx4 w T v c0 c1 c2 c3) (hg : IsGr w w') : Hx4 w' T v c0 c1 c2 c3 := by
  obtain ⟨b, h1, h2⟩ := h
  exact ⟨b, h1, hg.block h2⟩
theorem Bx4.lay (hg : IsGr W w) (c0 c1 c2 c3 : Value) : Bx4 W (w.alloc (.cells #[c0, c1, c2, c3] T)) T (.pointer (some ⟨w.heap.size, 0, none⟩)) :=
  ⟨w.heap.size, c0, c1, c2, c3, rfl, hg.size, by show (w.heap.push _)[w.heap.size]? = _; simp⟩
theorem Bx4.ne (h : Bx4 W w T v) : v ≠ .pointer (some ⟨w.heap.size, 0, none⟩) := by
  obtain ⟨b, c0, c1, c2, c3, h1, h2, h3⟩ := h
  have := (Array.getElem?_eq_some_iff.1 h3).1
  rintro rfl
  injection h1 with h1
  injection h1 with h1
  injection h1 with h1
  omega
/-- A store into the cells of a box. -/
def put4 (w : World) (b : Nat) (c0 c1 c2 c3 : Value) : World := ((((w.setCell ⟨b, 0, none⟩ c0).setCell ⟨b, 1, none⟩ c1).setCell ⟨b, 2, none⟩ c2).setCell ⟨b, 3, none⟩ c3)
theorem put4_block {b g : Nat} {d0 d1 d2 d3 c0 c1 c2 c3 : Value} (hb : w.heap[b]? = some (.cells #[d0, d1, d2, d3] T)) : (put4 w b c0 c1 c2 c3).heap[g]? = if g = b then some (.cells #[c0, c1, c2, c3] T) else w.heap[g]? := by
  unfold put4
  simp only [World.setCell, Option.isSome_none, Bool.false_eq_true, if_false]
  by_cases h : g = b
  · subst h; simp [Array.getElem?_modify, hb]
  · have : b ≠ g := Ne.symm h
    simp [Array.getElem?_modify, h, this]
theorem put4_gr {b : Nat} {c0 c1 c2 c3 : Value} (hg : IsGr W w) (hW : W.heap.size ≤ b) : IsGr W (put4 w b c0 c1 c2 c3) :=
  IsGr.of_below (Go.RowKit.Below.setCell (Go.RowKit.Below.setCell (Go.RowKit.Below.setCell (Go.RowKit.Below.setCell hg.below (by simpa using hW) _) (by simpa using hW) _) (by simpa using hW) _) (by simpa using hW) _)
theorem put4_bx {b : Nat} {d0 d1 d2 d3 c0 c1 c2 c3 : Value} (hb : w.heap[b]? = some (.cells #[d0, d1, d2, d3] T)) (h : Bx4 W w T u) : Bx4 W (put4 w b c0 c1 c2 c3) T u := by
  obtain ⟨g, e0, e1, e2, e3, h1, h2, h3⟩ := h
  by_cases hgb : g = b
  · exact ⟨g, c0, c1, c2, c3, h1, h2, by rw [put4_block hb, if_pos hgb]⟩
  · exact ⟨g, e0, e1, e2, e3, h1, h2, by rw [put4_block hb, if_neg hgb]; exact h3⟩
theorem put4_hx {b : Nat} {d0 d1 d2 d3 c0 c1 c2 c3 e0 e1 e2 e3 : Value} (hb : w.heap[b]? = some (.cells #[d0, d1, d2, d3] T)) (h : Hx4 w T u e0 e1 e2 e3) (hn : u ≠ .pointer (some ⟨b, 0, none⟩)) : Hx4 (put4 w b c0 c1 c2 c3) T u e0 e1 e2 e3 := by
  obtain ⟨g, h1, h3⟩ := h
  have hgb : g ≠ b := by rintro rfl; exact hn h1
  exact ⟨g, h1, by rw [put4_block hb, if_neg hgb]; exact h3⟩
theorem put4_new {b : Nat} {d0 d1 d2 d3 c0 c1 c2 c3 : Value} (hb : w.heap[b]? = some (.cells #[d0, d1, d2, d3] T)) : Hx4 (put4 w b c0 c1 c2 c3) T (.pointer (some ⟨b, 0, none⟩)) c0 c1 c2 c3 :=
  ⟨b, rfl, by rw [put4_block hb, if_pos rfl]⟩
theorem block_cells4 {b : Nat} {c0 c1 c2 c3 : Value} (hb : w.heap[b]? = some (.cells #[c0, c1, c2, c3] T)) : b < w.heap.size ∧ (w.cell? ⟨b, 0, none⟩ = some c0 ∧ w.cell? ⟨b, 1, none⟩ = some c1 ∧ w.cell? ⟨b, 2, none⟩ = some c2 ∧ w.cell? ⟨b, 3, none⟩ = some c3) ∧ w.frozen? ⟨b, 0, none⟩ = false ∧ w.frozen? ⟨b, 1, none⟩ = false ∧ w.frozen? ⟨b, 2, none⟩ = false ∧ w.frozen? ⟨b, 3, none⟩ = false := by
  refine ⟨(Array.getElem?_eq_some_iff.1 hb).1, ⟨?_, ?_, ?_, ?_⟩, ?_, ?_, ?_, ?_⟩ <;> simp [World.cell?, World.frozen?, hb]
end

/-- v points to a box of 8 cells, laid behind W. -/
def Bx8 (W w : World) (T : TypeId) (v : Value) : Prop := ∃ b c0 c1 c2 c3 c4 c5 c6 c7, v = .pointer (some ⟨b, 0, none⟩) ∧ W.heap.size ≤ b ∧ w.heap[b]? = some (.cells #[c0, c1, c2, c3, c4, c5, c6, c7] T)
/-- v points to a box that holds these 8. -/
def Hx8 (w : World) (T : TypeId) (v c0 c1 c2 c3 c4 c5 c6 c7 : Value) : Prop := ∃ b, v = .pointer (some ⟨b, 0, none⟩) ∧ w.heap[b]? = some (.cells #[c0, c1, c2, c3, c4, c5, c6, c7] T)
section
variable {W w w' : World} {T : TypeId} {u v : Value}
theorem Bx8.gr (h : Bx8 W w T v) (hg : IsGr w w') : Bx8 W w' T v := by
  obtain ⟨b, c0, c1, c2, c3, c4, c5, c6, c7, h1, h2, h3⟩ := h
  exact ⟨b, c0, c1, c2, c3, c4, c5, c6, c7, h1, h2, hg.block h3⟩
theorem Hx8.gr {c0 c1 c2 c3 c4 c5 c6 c7 : Value} (h : Hx8 w T v c0 c1 c2 c3 c4 c5 c6 c7) (hg : IsGr w w') : Hx8 w' T v c0 c1 c2 c3 c4 c5 c6 c7 := by
  obtain ⟨b, h1, h2⟩ := h
  exact ⟨b, h1, hg.block h2⟩
theorem Bx8.lay (hg : IsGr W w) (c0 c1 c2 c3 c4 c5 c6 c7 : Value) : Bx8 W (w.alloc (.cells #[c0, c1, c2, c3, c4, c5, c6, c7] T)) T (.pointer (some ⟨w.heap.size, 0, none⟩)) :=
  ⟨w.heap.size, c0, c1, c2, c3, c4, c5, c6, c7, rfl, hg.size, by show (w.heap.push _)[w.heap.size]? = _; simp⟩
theorem Bx8.ne (h : Bx8 W w T v) : v ≠ .pointer (some ⟨w.heap.size, 0, none⟩) := by
  obtain ⟨b, c0, c1, c2, c3, c4, c5, c6, c7, h1, h2, h3⟩ := h
  have := (Array.getElem?_eq_some_iff.1 h3).1
  rintro rfl
  injection h1 with h1
  injection h1 with h1
  injection h1 with h1
  omega
/-- A store into the cells of a box. -/
def put8 (w : World) (b : Nat) (c0 c1 c2 c3 c4 c5 c6 c7 : Value) : World := ((((((((w.setCell ⟨b, 0, none⟩ c0).setCell ⟨b, 1, none⟩ c1).setCell ⟨b, 2, none⟩ c2).setCell ⟨b, 3, none⟩ c3).setCell ⟨b, 4, none⟩ c4).setCell ⟨b, 5, none⟩ c5).setCell ⟨b, 6, none⟩ c6).setCell ⟨b, 7, none⟩ c7)
theorem put8_block {b g : Nat} {d0 d1 d2 d3 d4 d5 d6 d7 c0 c1 c2 c3 c4 c5 c6 c7 : Value} (hb : w.heap[b]? = some (.cells #[d0, d1, d2, d3, d4, d5, d6, d7] T)) : (put8 w b c0 c1 c2 c3 c4 c5 c6 c7).heap[g]? = if g = b then some (.cells #[c0, c1, c2, c3, c4, c5, c6, c7] T) else w.heap[g]? := by
  unfold put8
  simp only [World.setCell, Option.isSome_none, Bool.false_eq_true, if_false]
  by_cases h : g = b
  · subst h; simp [Array.getElem?_modify, hb]
  · have : b ≠ g := Ne.symm h
    simp [Array.getElem?_modify, h, this]
theorem put8_gr {b : Nat} {c0 c1 c2 c3 c4 c5 c6 c7 : Value} (hg : IsGr W w) (hW : W.heap.size ≤ b) : IsGr W (put8 w b c0 c1 c2 c3 c4 c5 c6 c7) :=
  IsGr.of_below (Go.RowKit.Below.setCell (Go.RowKit.Below.setCell (Go.RowKit.Below.setCell (Go.RowKit.Below.setCell (Go.RowKit.Below.setCell (Go.RowKit.Below.setCell (Go.RowKit.Below.setCell (Go.RowKit.Below.setCell hg.below (by simpa using hW) _) (by simpa using hW) _) (by simpa using hW) _) (by simpa using hW) _) (by simpa using hW) _) (by simpa using hW) _) (by simpa using hW) _) (by simpa using hW) _)
theorem put8_bx {b : Nat} {d0 d1 d2 d3 d4 d5 d6 d7 c0 c1 c2 c3 c4 c5 c6 c7 : Value} (hb : w.heap[b]? = some (.cells #[d0, d1, d2, d3, d4, d5, d6, d7] T)) (h : Bx8 W w T u) : Bx8 W (put8 w b c0 c1 c2 c3 c4 c5 c6 c7) T u := by
  obtain ⟨g, e0, e1, e2, e3, e4, e5, e6, e7, h1, h2, h3⟩ := h
  by_cases hgb : g = b
  · exact ⟨g, c0, c1, c2, c3, c4, c5, c6, c7, h1, h2, by rw [put8_block hb, if_pos hgb]⟩
  · exact ⟨g, e0, e1, e2, e3, e4, e5, e6, e7, h1, h2, by rw [put8_block hb, if_neg hgb]; exact h3⟩
theorem put8_hx {b : Nat} {d0 d1 d2 d3 d4 d5 d6 d7 c0 c1 c2 c3 c4 c5 c6 c7 e0 e1 e2 e3 e4 e5 e6 e7 : Value} (hb : w.heap[b]? = some (.cells #[d0, d1, d2, d3, d4, d5, d6, d7] T)) (h : Hx8 w T u e0 e1 e2 e3 e4 e5 e6 e7) (hn : u ≠ .pointer (some ⟨b, 0, none⟩)) : Hx8 (put8 w b c0 c1 c2 c3 c4 c5 c6 c7) T u e0 e1 e2 e3 e4 e5 e6 e7 := by
  obtain ⟨g, h1, h3⟩ := h
  have hgb : g ≠ b := by rintro rfl; exact hn h1
  exact ⟨g, h1, by rw [put8_block hb, if_neg hgb]; exact h3⟩
theorem put8_new {b : Nat} {d0 d1 d2 d3 d4 d5 d6 d7 c0 c1 c2 c3 c4 c5 c6 c7 : Value} (hb : w.heap[b]? = some (.cells #[d0, d1, d2, d3, d4, d5, d6, d7] T)) : Hx8 (put8 w b c0 c1 c2 c3 c4 c5 c6 c7) T (.pointer (some ⟨b, 0, none⟩)) c0 c1 c2 c3 c4 c5 c6 c7 :=
  ⟨b, rfl, by rw [put8_block hb, if_pos rfl]⟩
theorem block_cells8 {b : Nat} {c0 c1 c2 c3 c4 c5 c6 c7 : Value} (hb : w.heap[b]? = some (.cells #[c0, c1, c2, c3, c4, c5, c6, c7] T)) : b < w.heap.size ∧ (w.cell? ⟨b, 0, none⟩ = some c0 ∧ w.cell? ⟨b, 1, none⟩ = some c1 ∧ w.cell? ⟨b, 2, none⟩ = some c2 ∧ w.cell? ⟨b, 3, none⟩ = some c3 ∧ w.cell? ⟨b, 4, none⟩ = some c4 ∧ w.cell? ⟨b, 5, none⟩ = some c5 ∧ w.cell? ⟨b, 6, none⟩ = some c6 ∧ w.cell? ⟨b, 7, none⟩ = some c7) ∧ w.frozen? ⟨b, 0, none⟩ = false ∧ w.frozen? ⟨b, 1, none⟩ = false ∧ w.frozen? ⟨b, 2, none⟩ = false ∧ w.frozen? ⟨b, 3, none⟩ = false ∧ w.frozen? ⟨b, 4, none⟩ = false ∧ w.frozen? ⟨b, 5, none⟩ = false ∧ w.frozen? ⟨b, 6, none⟩ = false ∧ w.frozen? ⟨b, 7, none⟩ = false := by
  refine ⟨(Array.getElem?_eq_some_iff.1 hb).1, ⟨?_, ?_, ?_, ?_, ?_, ?_, ?_, ?_⟩, ?_, ?_, ?_, ?_, ?_, ?_, ?_, ?_⟩ <;> simp [World.cell?, World.frozen?, hb]
end
end Go.Proofs.Ytohhlhoijanjfaa
namespace Go.Proofs.Ytohhlhoijanjfaa
open Go.RowKit

/-- A box with a Big in it. -/
def BigAt (w : World) (v : Value) (z : Int) : Prop := ∃ (g : Nat) (s : Bool) (a : Option Addr) (k c : Nat), v = .pointer (some ⟨g, 0, none⟩) ∧ g < w.heap.size ∧ w.cell? ⟨g, 0, none⟩ = some (.bool s) ∧ w.cell? ⟨g, 1, none⟩ = some (.slice a k c) ∧ IsBig w (.agg #[.bool s, .slice a k c]) z
theorem BigAt.of {w : World} {T : TypeId} {v x : Value} {z : Int} (h : ∃ c0 c1 : Value, x = .agg #[c0, c1] ∧ Hx w T v c0 c1) (hx : IsBig w x z) : BigAt w v z := by
  obtain ⟨c0, c1, rfl, b, rfl, hb⟩ := h
  obtain ⟨s, a, k, c, he⟩ := hx.shape
  simp at he
  obtain ⟨rfl, rfl⟩ := he
  obtain ⟨k1, k2, k3, _, _⟩ := block_cells hb
  exact ⟨b, s, a, k, c, rfl, k1, k2, k3, hx⟩
theorem big_cells {w : World} {v : Value} {z : Int} (h : IsBig w v z) : ∃ z0 z1 : Value, v = .agg #[z0, z1] ∧ bigCells z0 z1 := by
  obtain ⟨s, a, k, c, rfl⟩ := h.shape
  exact ⟨_, _, rfl, s, a, k, c, rfl, rfl⟩

/-- A box of its own, laid behind W, with a Big in it. -/
def BigBx (W w : World) (v : Value) (z : Int) : Prop := ∃ (g : Nat) (s : Bool) (a : Option Addr) (k c : Nat), v = .pointer (some ⟨g, 0, none⟩) ∧ W.heap.size ≤ g ∧ w.heap[g]? = some (.cells #[.bool s, .slice a k c] 53) ∧ IsBig w (.agg #[.bool s, .slice a k c]) z
theorem BigBx.of {W w : World} {v x : Value} {z : Int} (hb : Bx W w 53 bigCells v) (h : ∃ c0 c1 : Value, x = .agg #[c0, c1] ∧ Hx w 53 v c0 c1) (hx : IsBig w x z) : BigBx W w v z := by
  obtain ⟨c0, c1, rfl, b, rfl, hh⟩ := h
  obtain ⟨g, d0, d1, he, hW, _, _⟩ := hb
  obtain ⟨s, a, k, c, e⟩ := hx.shape
  simp at e
  obtain ⟨rfl, rfl⟩ := e
  simp at he
  subst he
  exact ⟨b, s, a, k, c, rfl, hW, hh, hx⟩
end Go.Proofs.Ytohhlhoijanjfaa
