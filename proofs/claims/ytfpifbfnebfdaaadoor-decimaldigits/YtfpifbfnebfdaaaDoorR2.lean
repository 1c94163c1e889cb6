/- Differences and order of sizes of package gromaref01, and trim. -/
import Derived.Test.YtfpifbfnebfdaaaDoorR1
import Derived.Test.YtfpifbfnebfdaaaDoorM5
import Derived.BigQuiet
namespace Go.Proofs.YtfpifbfnebfdaaaDoor
open Go.RowKit
attribute [local go_sem] Gr.size Gr.cell? Gr.frozen? Gr.setCell Gr.drew Gr.drewN Gr.of_drew Gr.of_drewN Gr.gr Gr.lt_of1 Gr.le_of1 Gr.lt_of2 Gr.le_of2 Gr.lt_of3 Gr.le_of3 Gr.lt_of4 Gr.le_of4 Gr.lt_of5 Gr.le_of5 Gr.lt_of6 Gr.le_of6 Gr.lt_of7 Gr.le_of7 Gr.lt_of8 Gr.le_of8

theorem vl_drop (b : Int) (l : List Int) (k : Nat) : vl b l = vl b (l.take k) + b ^ (min k l.length) * vl b (l.drop k) := by
  have h := vl_append b (l.take k) (l.drop k)
  rw [List.take_append_drop, List.length_take] at h
  exact h

/-- Without noughts at the end. -/
def Trim (l : List Int) : Prop := ∀ h : l ≠ [], l.getLast h ≠ 0

theorem vl_lower {b : Int} (hb : 1 < b) {l : List Int} (hd : Dg b l) (ht : Trim l) (hl : l ≠ []) : b ^ (l.length - 1) ≤ vl b l := by
  have e := vl_append b l.dropLast [l.getLast hl]
  rw [List.dropLast_concat_getLast] at e
  have h1 := vl_nonneg (by omega : 0 ≤ b) (l := l.dropLast) (fun d hd' => hd d ((List.dropLast_sublist l).subset hd'))
  have h2 := hd _ (List.getLast_mem hl)
  have h3 : 1 ≤ l.getLast hl := by have := ht hl; omega
  rw [e, List.length_dropLast]
  simp only [vl, Int.mul_zero, Int.add_zero]
  have h4 : b ^ (l.length - 1) * 1 ≤ b ^ (l.length - 1) * l.getLast hl := Int.mul_le_mul_of_nonneg_left h3 (Int.le_of_lt (Int.pow_pos (by omega)))
  omega

theorem pow_le_pow' {b : Int} (hb : 1 ≤ b) {m n : Nat} (h : m ≤ n) : b ^ m ≤ b ^ n := by
  obtain ⟨k, rfl⟩ := Nat.le.dest h
  rw [Int.pow_add]
  have h1 : (1 : Int) ≤ b ^ k := by
    have := Int.pow_pos (n := b) (m := k) (by omega); omega
  have h2 := Int.mul_le_mul_of_nonneg_left h1 (Int.le_of_lt (Int.pow_pos (n := b) (m := m) (by omega)))
  omega

/-- A shorter size is less. -/
theorem vl_shorter {b : Int} (hb : 1 < b) {l m : List Int} (hd : Dg b l) (hm : Dg b m) (ht : Trim m) (h : l.length < m.length) : vl b l < vl b m := by
  have h1 := vl_lt (by omega : 1 ≤ b) hd
  have hne : m ≠ [] := by intro e; subst e; simp at h
  have h2 := vl_lower hb hm ht hne
  have h3 := pow_le_pow' (by omega : 1 ≤ b) (show l.length ≤ m.length - 1 by omega)
  omega

/-- Held against each other from above: alike behind k, less at k. -/
theorem vl_less_at {b : Int} (hb : 1 < b) {l m : List Int} (hd : Dg b l) (hm : Dg b m) (hl : l.length = m.length) (k : Nat) (hk : k < l.length) (hs : l.drop (k + 1) = m.drop (k + 1)) (h : l.getD k 0 < m.getD k 0) : vl b l < vl b m := by
  have e1 := vl_drop b l (k + 1)
  have e2 := vl_drop b m (k + 1)
  rw [hs] at e1
  rw [← hl, Nat.min_eq_left (by omega)] at e2
  rw [Nat.min_eq_left (by omega)] at e1
  have f1 := vl_take_succ b l k hk
  have f2 := vl_take_succ b m k (by omega)
  have g1 := vl_lt (by omega : 1 ≤ b) (hd.take k)
  have g2 := vl_nonneg (by omega : 0 ≤ b) (hm.take k)
  rw [List.length_take, Nat.min_eq_left (by omega)] at g1
  have hp : (0 : Int) < b ^ k := Int.pow_pos (by omega)
  have h5 : b ^ k * (l.getD k 0 + 1) ≤ b ^ k * m.getD k 0 := Int.mul_le_mul_of_nonneg_left (by omega) (Int.le_of_lt hp)
  rw [Int.mul_add] at h5
  omega

theorem drop_succ_eq {l m : List Int} (hl : l.length = m.length) (k : Nat) (hk : k < l.length) (hs : l.drop (k + 1) = m.drop (k + 1)) (h : l.getD k 0 = m.getD k 0) : l.drop k = m.drop k := by
  rw [List.drop_eq_getElem_cons hk, List.drop_eq_getElem_cons (by omega : k < m.length), hs]
  congr 1
  simpa [List.getD, hk, (by omega : k < m.length)] using h

/-- Which of two numbers is greater. -/
def cmpI (x y : Int) : Int := if x < y then -1 else if x = y then 0 else 1
theorem cmpI_lt {x y : Int} (h : x < y) : cmpI x y = -1 := by unfold cmpI; rw [if_pos h]
theorem cmpI_gt {x y : Int} (h : y < x) : cmpI x y = 1 := by unfold cmpI; rw [if_neg (by omega), if_neg (by omega)]
theorem cmpI_eq {x y : Int} (h : x = y) : cmpI x y = 0 := by unfold cmpI; rw [if_neg (by omega), if_pos h]
theorem ret_int' {k : IntKind} {a b : Int} (h : a = b) : Ending.returned (.int k a) = .returned (.int k b) := by rw [h]

set_option maxHeartbeats 4000000 in
theorem sizes_any (a b : Option Addr) (na ca nb cb : Nat) (xs ys : List Int) (w : World) (hx : Digs w (.slice a na ca) xs) (hy : Digs w (.slice b nb cb) ys) (dx : Dg 32768 xs) (dy : Dg 32768 ys) (tx : Trim xs) (ty : Trim ys) (lx : na ≤ 100000) (ly : nb ≤ 100000) :
    Calls Tryd.prog 28 #[.slice a na ca, .slice b nb cb] w fun e w' => e = .returned (.int .i64 (cmpI (vl 32768 xs) (vl 32768 ys))) ∧ IsGr w w' := by
  have HL : Hid (na = xs.length ∧ nb = ys.length) := ⟨hx.len, hy.len⟩
  by_cases hne : na = nb
  · subst hne
    have HE : Hid (xs.length = ys.length) := by have := HL.out; unfold Hid; omega
    go_enter Tryd.func28, Tryd.ntmps28
    go_wp2
    go_loopw [5] (fun t5 wr => ∃ k : Nat, k ≤ na ∧ t5 = .int .i64 ((k : Int) - 1) ∧ Hid (xs.drop k = ys.drop k) ∧ IsGr w wr) (fun t5 _ => (intOf t5 + 1).toNat)
    case atStart => exact ⟨na, by omega, rfl, by unfold Hid; rw [List.drop_of_length_le (by have := HL.out; omega), List.drop_of_length_le (by have := HL.out; omega)], IsGr.refl _⟩
    case round =>
      obtain ⟨k, hk, rfl, HS, hgr⟩ := hrel
      cases k with
      | zero =>
        have HR : Hid (0 = cmpI (vl 32768 xs) (vl 32768 ys)) := by
          have h := HS.out; simp at h; unfold Hid; rw [cmpI_eq (by rw [h])]
        go_wp2
        go_ret
        exact ⟨ret_int' HR.out, hgr⟩
      | succ k =>
        obtain ⟨-, g, o, rfl, hg, hc⟩ := hx.at (k := k) (by omega)
        obtain ⟨-, g2, o2, rfl, hg2, hc2⟩ := hy.at (k := k) (by omega)
        have hcx : wr.cell? ⟨g, o + k, none⟩ = some (.int .i64 (xs.getD k 0)) := (hgr.below.cell (p := ⟨g, o + k, none⟩) hg).trans (hc k (by omega))
        have hcy : wr.cell? ⟨g2, o2 + k, none⟩ = some (.int .i64 (ys.getD k 0)) := (hgr.below.cell (p := ⟨g2, o2 + k, none⟩) hg2).trans (hc2 k (by omega))
        have hlt := fun h => vl_less_at (by decide : (1 : Int) < 32768) dx dy HE.out k (by have := HL.out; omega) HS.out h
        have hgt := fun h => vl_less_at (by decide : (1 : Int) < 32768) dy dx HE.out.symm k (by have := HL.out; omega) HS.out.symm h
        have heq := drop_succ_eq HE.out k (by have := HL.out; omega) HS.out
        generalize xs.getD k 0 = X at hcx hlt hgt heq
        generalize ys.getD k 0 = Y at hcy hlt hgt heq
        have HH : Hid ((X < Y → vl 32768 xs < vl 32768 ys) ∧ (Y < X → vl 32768 ys < vl 32768 xs) ∧ (X = Y → xs.drop k = ys.drop k)) := ⟨hlt, hgt, heq⟩
        clear hlt hgt heq hc hc2
        have e : ((k + 1 : Nat) : Int) - 1 = (k : Int) := by omega
        rw [e]
        clear e
        have k0 : (0 : Int) ≤ (k : Int) := by omega
        have k1 : (k : Int) < (na : Int) := by omega
        by_cases h1 : X < Y
        · have HR : Hid (-1 = cmpI (vl 32768 xs) (vl 32768 ys)) := (cmpI_lt (HH.out.1 h1)).symm
          go_wp2
          go_region
          go_wp2
          go_ret
          exact ⟨ret_int' HR.out, hgr.drew⟩
        · by_cases h2 : Y < X
          · have HR : Hid (1 = cmpI (vl 32768 xs) (vl 32768 ys)) := (cmpI_gt (HH.out.2.1 h2)).symm
            go_wp2
            go_region
            go_wp2
            go_region
            go_wp2
            go_ret
            exact ⟨ret_int' HR.out, hgr.drew.drew⟩
          · have h3 : X = Y := by omega
            have HR : Hid (xs.drop k = ys.drop k) := HH.out.2.2 h3
            clear HH
            subst h3
            go_wp2
            go_region
            go_wp2
            go_region
            go_wp2
            go_roundw
            case rel => exact ⟨k, by omega, rfl, HR.out, hgr.drew.drew⟩
            case measure => simp [intOf]
  · have hb1 : ((na : Int) == (nb : Int)) = false := by simp; omega
    have hneq : ((na : Int) != (nb : Int)) = true := by simp; omega
    by_cases hlt : na < nb
    · have HR : Hid (-1 = cmpI (vl 32768 xs) (vl 32768 ys)) := (cmpI_lt (vl_shorter (by decide) dx dy ty (by have := HL.out; omega))).symm
      clear hne
      go_enter Tryd.func28, Tryd.ntmps28
      go_wp2
      go_ret
      exact ⟨ret_int' HR.out, (by with_reducible repeat (first | exact IsGr.refl _ | refine IsGr.gr ?_ _ _ | refine IsGr.alloc ?_ _ | refine IsGr.drew ?_ | refine IsGr.drewN ?_ _))⟩
    · have HR : Hid (1 = cmpI (vl 32768 xs) (vl 32768 ys)) := (cmpI_gt (vl_shorter (by decide) dy dx tx (by have := HL.out; omega))).symm
      clear hne
      go_enter Tryd.func28, Tryd.ntmps28
      go_wp2
      go_ret
      exact ⟨ret_int' HR.out, (by with_reducible repeat (first | exact IsGr.refl _ | refine IsGr.gr ?_ _ _ | refine IsGr.alloc ?_ _ | refine IsGr.drew ?_ | refine IsGr.drewN ?_ _))⟩

/-- A Big in the world w is the number z. -/
def IsBig (w : World) (v : Value) (z : Int) : Prop :=
  ∃ (s : Bool) (d : Value) (ds : List Int), v = .agg #[.bool s, d] ∧ Digs w d ds ∧ Dg 32768 ds ∧ Trim ds ∧ (ds = [] → s = false) ∧ z = sgn s (vl 32768 ds)
theorem IsBig.gr {w w' : World} {v : Value} {z : Int} (h : IsBig w v z) (hg : IsGr w w') : IsBig w' v z := by
  obtain ⟨s, d, ds, h1, h2, h3⟩ := h; exact ⟨s, d, ds, h1, h2.gr hg, h3⟩

theorem trim_snoc_zero {l : List Int} {k : Nat} (hk : k < l.length) (h : l.getD k 0 = 0) (b : Int) : vl b (l.take (k + 1)) = vl b (l.take k) := by
  rw [vl_take_succ b l k hk, h]; simp
theorem trim_take {l : List Int} {k : Nat} (hk : k < l.length) (h : l.getD k 0 ≠ 0) : Trim (l.take (k + 1)) := by
  intro hne
  have : (l.take (k + 1)).getLast hne = l.getD k 0 := by
    rw [List.getLast_eq_getElem]
    simp [List.getD, hk, Nat.min_eq_left (Nat.succ_le_of_lt hk)]
  rw [this]; exact h

set_option maxHeartbeats 4000000 in
theorem trim_any (s : Bool) (a : Option Addr) (na ca : Nat) (xs : List Int) (w : World) (hx : Digs w (.slice a na ca) xs) (dx : Dg 32768 xs) (lx : na ≤ 100000) :
    Calls Tryd.prog 27 #[.agg #[.bool s, .slice a na ca]] w fun e w' => ∃ v, e = .returned v ∧ IsBig w' v (sgn s (vl 32768 xs)) ∧ IsGr w w' := by
  have HL : Hid (na = xs.length) := hx.len
  have hca : na ≤ ca ∧ ca ≤ maxLen := by
    obtain ⟨a', c', h1, h2, h3, _⟩ := hx
    injection h1 with e1 e2 e3
    subst e1 e2 e3; exact ⟨h2, h3⟩
  obtain ⟨hca1, hca2⟩ := hca
  unfold maxLen at hca2
  go_enter Tryd.func27, Tryd.ntmps27
  go_wp2
  go_loopw [3] (fun t3 wr => ∃ k : Nat, k ≤ na ∧ t3 = .int .i64 k ∧ Hid (vl 32768 (xs.take k) = vl 32768 xs) ∧ wr = (w.alloc (.cells #[.bool s, .slice a na ca] 29)).alloc (.cells #[.bool false, .slice none 0 0] 29)) (fun t3 _ => (intOf t3).toNat)
  case atStart => exact ⟨na, by omega, rfl, by unfold Hid; rw [List.take_of_length_le (by have := HL.out; omega)], rfl⟩
  case round =>
    obtain ⟨k, hk, rfl, HV, rfl⟩ := hrel
    cases k with
    | zero =>
      have HR : Hid (vl 32768 xs = 0) := by have h := HV.out; simp [vl] at h; unfold Hid; omega
      go_wp2
      refine bodyPost_ret (v := .agg #[.bool false, .slice none 0 0]) (by simp [results, Tryd.results27, go_sem]) rfl ⟨_, rfl, ⟨false, .slice none 0 0, [], rfl, Digs.nil _, fun d hd => by simp at hd, fun h => absurd rfl h, fun _ => rfl, ?_⟩, (by with_reducible repeat (first | exact IsGr.refl _ | refine IsGr.gr ?_ _ _ | refine IsGr.alloc ?_ _ | refine IsGr.drew ?_ | refine IsGr.drewN ?_ _))⟩
      rw [HR.out]; simp [vl, sgn]
    | succ k =>
      obtain ⟨-, g, o, rfl, hg, hc⟩ := hx.at (k := k) (by omega)
      have hcx := hc k (by omega)
      have hzz := fun h => trim_snoc_zero (l := xs) (k := k) (by have := HL.out; omega) h 32768
      have htt := fun h => trim_take (l := xs) (k := k) (by have := HL.out; omega) h
      generalize xs.getD k 0 = X at hcx hzz htt
      have HZ : Hid ((X = 0 → vl 32768 (xs.take (k + 1)) = vl 32768 (xs.take k)) ∧ (X ≠ 0 → Trim (xs.take (k + 1)))) := ⟨hzz, htt⟩
      clear hzz htt
      have k1 : (k : Int) < (na : Int) := by omega
      by_cases hX : X = 0
      · have HR : Hid (vl 32768 (xs.take k) = vl 32768 xs) := by unfold Hid; rw [← HV.out, HZ.out.1 hX]
        clear HZ HV
        subst hX
        go_wp2
        go_roundw
        case rel => exact ⟨k, by omega, by go_num, HR.out, by first | rfl | trivial⟩
        case measure => simp [intOf]
      · have HT : Hid (Trim (xs.take (k + 1))) := HZ.out.2 hX
        have hq : (X == 0) = false := by simp [hX]
        clear HZ hX
        have k2 : (k : Int) + 1 ≤ (ca : Int) := by omega
        go_wp2
        go_region
        go_wp2
        have HLn : Hid ((xs.take (k + 1)).length = k + 1) := by unfold Hid; have := HL.out; simp; omega
        refine bodyPost_ret (v := .agg #[.bool s, .slice (some ⟨g, o, none⟩) (k + 1) ca]) (by simp [results, Tryd.results27, go_sem]) rfl ⟨_, rfl, ⟨s, .slice (some ⟨g, o, none⟩) (k + 1) ca, xs.take (k + 1), rfl, ?_, dx.take _, HT.out, fun h => ?_, ?_⟩, (by with_reducible repeat (first | exact IsGr.refl _ | refine IsGr.gr ?_ _ _ | refine IsGr.alloc ?_ _ | refine IsGr.drew ?_ | refine IsGr.drewN ?_ _))⟩
        · refine ⟨some ⟨g, o, none⟩, ca, by rw [HLn.out], by rw [HLn.out]; omega, by unfold maxLen; omega, Or.inr ⟨g, o, rfl, by simp; omega, fun i hi => ?_⟩⟩
          rw [HLn.out] at hi
          have e1 : ((w.alloc (Obj.cells #[Value.bool s, Value.slice (some { block := g, off := o }) na ca] 29)).alloc (Obj.cells #[Value.bool s, Value.slice (some { block := g, off := o }) (k + 1) ca] 29)).drew.cell? ⟨g, o + i, none⟩ = w.cell? ⟨g, o + i, none⟩ := by
            show ((w.alloc _).alloc _).cell? _ = _
            rw [World.cell?_alloc_past _ _ _ (by simp; omega), World.cell?_alloc_past _ _ _ hg]
          rw [e1, hc i (by omega)]
          simp [List.getD, hi]
        · have h2 := HLn.out; rw [h] at h2; simp at h2
        · rw [HV.out]
end Go.Proofs.YtfpifbfnebfdaaaDoor
