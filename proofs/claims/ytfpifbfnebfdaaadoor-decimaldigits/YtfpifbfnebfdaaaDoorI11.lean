/- gromalaw10.DecimalScales, given what package decimal answers: plain words, and the easy ways. -/
import Derived.Test.YtfpifbfnebfdaaaDoorI10
import Derived.Test.YtfpifbfnebfdaaaDoorI8
import Derived.Test.YtfpifbfnebfdaaaDoorI6
import Derived.Test.YtfpifbfnebfdaaaDoorI3
namespace Go.Proofs.YtfpifbfnebfdaaaDoor
open Go.RowKit Go.Shelf
attribute [local go_sem] Gr.size Gr.cell? Gr.frozen? Gr.setCell Gr.drew Gr.drewN Gr.of_drew Gr.of_drewN Gr.gr Gr.lt_of1 Gr.le_of1 Gr.lt_of2 Gr.le_of2 Gr.lt_of3 Gr.le_of3 Gr.lt_of4 Gr.le_of4 Gr.lt_of5 Gr.le_of5 Gr.lt_of6 Gr.le_of6 Gr.lt_of7 Gr.le_of7 Gr.lt_of8 Gr.le_of8 Gr.lt_of9 Gr.le_of9 Gr.lt_of10 Gr.le_of10 Gr.lt_of11 Gr.le_of11 Gr.lt_of12 Gr.le_of12 Gr.lt_of13 Gr.le_of13 Gr.lt_of14 Gr.le_of14 Gr.lt_of15 Gr.le_of15 Gr.lt_of16 Gr.le_of16 Gr.lt_of17 Gr.le_of17 Gr.lt_of18 Gr.le_of18 Gr.lt_of19 Gr.le_of19 Gr.lt_of20 Gr.le_of20 Gr.lt_of21 Gr.le_of21 Gr.lt_of22 Gr.le_of22 Gr.lt_of23 Gr.le_of23 Gr.lt_of24 Gr.le_of24
theorem pl_dgs (l : List Int) (h : Dgs l) (n : Nat) : l.foldl plS (true, n) = (true, n + l.length) := by
  induction l generalizing n with
  | nil => rfl
  | cons c l ih =>
    have hc := h c (by simp)
    have hr := dg_range hc
    have he : eB c = false := by unfold eB; simp; omega
    rw [List.foldl_cons, show plS (true, n) c = (true, n + 1) by unfold plS; rw [he, hc]; rfl, ih (fun x hx => h x (List.mem_cons_of_mem _ hx)), List.length_cons]
    congr 1; omega
theorem pl_none (l : List Int) (h : ∀ c ∈ l, eB c = false) : l.foldl plS (false, 0) = (false, 0) := by
  induction l with
  | nil => rfl
  | cons c l ih =>
    rw [List.foldl_cons, show plS (false, 0) c = (false, 0) by unfold plS; rw [h c (by simp)]; rfl]
    exact ih (fun x hx => h x (List.mem_cons_of_mem _ hx))
theorem dps_noe {l : List Int} (h : Dps l) : ∀ c ∈ l, eB c = false := fun c hc => by
  rcases h c hc with rfl | h
  · rfl
  · have := dg_range h
    unfold eB; simp; omega
/-- A plain number's power is below 100. -/
theorem pl_spl {b : List Int} {neg : Bool} {sg l1 dt l2 ep : List Int} {p : Int} (h : Spl b neg sg l1 dt l2 ep p) (hp : plB b = true) : b.length ≤ 60 ∧ ep.length ≤ 17 ∧ -99 ≤ p ∧ p ≤ 99 ∧ l1.length + l2.length ≤ 60 := by
  unfold plB at hp
  simp only [Bool.and_eq_true, decide_eq_true_eq] at hp
  obtain ⟨hb, hm⟩ := hp
  have hlen : l1.length + l2.length ≤ 60 := by
    have := congrArg List.length h.eq
    simp only [List.length_append] at this
    omega
  refine ⟨hb, ?_⟩
  rcases h.pow with ⟨rfl, rfl⟩ | ⟨e, es, l3, he, rfl, hn, hd, hs⟩
  · exact ⟨by simp, by omega, by omega, hlen⟩
  · have hcount : (plN b).2 = l3.length := by
      unfold plN
      rw [h.eq, List.foldl_append, show l1 ++ (dt ++ (l2 ++ e :: (es ++ l3))) = (l1 ++ (dt ++ l2)) ++ (e :: (es ++ l3)) by simp, List.foldl_append]
      have h1 : sg.foldl plS (false, 0) = (false, 0) := pl_none _ (fun c hc => by
        rcases h.sign with ⟨rfl, _⟩ | ⟨rfl, _⟩ | ⟨rfl, _⟩
        · cases hc
        · simp at hc; subst hc; rfl
        · simp at hc; subst hc; rfl)
      rw [h1, pl_none _ (dps_noe (dps_of h.d1 h.d2 h.dot)), List.foldl_cons]
      have h2 : plS (false, 0) e = (true, 0) := by rcases he with rfl | rfl <;> rfl
      rw [h2, List.foldl_append]
      have h3 : es.foldl plS (true, 0) = (true, 0) := by rcases hs with ⟨rfl | rfl, _⟩ | ⟨rfl, _⟩ <;> rfl
      rw [h3, pl_dgs _ hd]
      simp
    have hes : es.length ≤ 1 := by rcases hs with ⟨rfl | rfl, _⟩ | ⟨rfl, _⟩ <;> simp
    have hbd := dvl_bound hd
    have hpw := pow_le_pow' (by decide : (1 : Int) ≤ 10) (show l3.length ≤ 2 by omega)
    have h100 : (10 : Int) ^ 2 = 100 := rfl
    refine ⟨by simp; omega, ?_, ?_, hlen⟩
    · rcases hs with ⟨_, rfl⟩ | ⟨_, rfl⟩ <;> omega
    · rcases hs with ⟨_, rfl⟩ | ⟨_, rfl⟩ <;> omega
theorem sgI_bound {neg : Bool} {z : Int} {k : Nat} (h : 0 ≤ z ∧ z < 10 ^ k) (hk : k ≤ 60) : -(10 ^ 60) ≤ sgI neg z ∧ sgI neg z ≤ 10 ^ 60 := by
  have h1 := pow_le_pow' (by decide : (1 : Int) ≤ 10) hk
  unfold sgI
  split <;> omega
/-- The number as a fraction of two whole numbers. -/
structure SclI (M q X Y : Int) : Prop where
  pos : 0 ≤ q → X = M * 10 ^ q.toNat ∧ Y = 1
  neg : q < 0 → X = M ∧ Y = 10 ^ (-q).toNat
theorem SclI.make (M q : Int) : ∃ X Y, SclI M q X Y := by
  by_cases h : 0 ≤ q
  · exact ⟨_, _, fun _ => ⟨rfl, rfl⟩, fun h2 => by omega⟩
  · exact ⟨_, _, fun h2 => absurd h2 h, fun _ => ⟨rfl, rfl⟩⟩
theorem SclI.unit {M q X Y k : Int} (h : SclI M q X Y) : UnitIs M q k ↔ k * Y = X := by
  unfold UnitIs
  by_cases hq : 0 ≤ q
  · obtain ⟨rfl, rfl⟩ := h.pos hq
    constructor
    · rintro (⟨_, h2⟩ | ⟨h1, _⟩)
      · rw [h2, Int.mul_one]
      · omega
    · intro h2; exact Or.inl ⟨hq, by rw [← h2, Int.mul_one]⟩
  · obtain ⟨rfl, rfl⟩ := h.neg (by omega)
    constructor
    · rintro (⟨h1, _⟩ | ⟨_, h2⟩)
      · omega
      · exact h2
    · intro h2; exact Or.inr ⟨by omega, h2⟩
theorem SclI.bound {M q X Y : Int} (h : SclI M q X Y) (hM : -(10 ^ 60) ≤ M ∧ M ≤ 10 ^ 60) (h1 : -160 ≤ q) (h2 : q ≤ 110) : 0 < Y ∧ Y ≤ 10 ^ 160 ∧ -(10 ^ 170) ≤ X ∧ X ≤ 10 ^ 170 := by
  by_cases hq : 0 ≤ q
  · obtain ⟨rfl, rfl⟩ := h.pos hq
    have h3 := pow_le_pow' (by decide : (1 : Int) ≤ 10) (show q.toNat ≤ 110 by omega)
    have h4 := ten_pos q.toNat
    have h5 : M * 10 ^ q.toNat ≤ 10 ^ 60 * 10 ^ q.toNat := Int.mul_le_mul_of_nonneg_right hM.2 (by omega)
    have h6 : -(10 ^ 60) * 10 ^ q.toNat ≤ M * 10 ^ q.toNat := Int.mul_le_mul_of_nonneg_right hM.1 (by omega)
    have h7 : (10 : Int) ^ 60 * 10 ^ q.toNat ≤ 10 ^ 60 * 10 ^ 110 := Int.mul_le_mul_of_nonneg_left h3 (by decide +kernel)
    have h8 : (10 : Int) ^ 60 * 10 ^ 110 = 10 ^ 170 := by decide +kernel
    have h9 : (1 : Int) ≤ 10 ^ 160 := by decide +kernel
    rw [Int.neg_mul] at h6
    exact ⟨by omega, h9, by omega, by omega⟩
  · obtain ⟨rfl, rfl⟩ := h.neg (by omega)
    have h3 := pow_le_pow' (by decide : (1 : Int) ≤ 10) (show (-q).toNat ≤ 160 by omega)
    have h4 := ten_pos (-q).toNat
    have h8 : (10 : Int) ^ 60 ≤ 10 ^ 170 := by decide +kernel
    exact ⟨h4, h3, by omega, by omega⟩
theorem SclI.whole {M q X Y : Int} (h : SclI M q X Y) : (∃ k, UnitIs M q k) ↔ X % Y = 0 := by
  constructor
  · rintro ⟨k, hk⟩
    rw [← h.unit.1 hk]
    exact Int.mul_emod_left _ _
  · intro h0
    obtain ⟨k, hk⟩ := Int.dvd_of_emod_eq_zero h0
    exact ⟨k, h.unit.2 (by rw [hk, Int.mul_comm])⟩
set_option maxRecDepth 20000 in set_option maxHeartbeats 2000000 in
theorem scales_big (C : DecC) (s : ByteArray) (fine : Int) (w : World) (hs : ¬ s.size ≤ 3000) (HTB : TabW w) : Calls Tryd.prog 3 #[.string s, .int .i64 fine] w fun e w' => e = .returned (.bool true) ∧ IsGr w w' := by
  have hs' : (3000 : Int) < s.size := by omega
  have CA := fun w' (hg : IsGr w w') => dawake_any C w' (HTB.gr hg)
  clear hs C HTB
  go_enter Tryd.func3, Tryd.ntmps3
  go_wp2_with fail
  refine (CA _ (by with_reducible repeat (first | exact IsGr.refl _ | refine IsGr.gr ?_ _ _ | refine IsGr.alloc ?_ _ | refine IsGr.drew ?_ | refine IsGr.drewN ?_ _))).mono ?_
  rintro e w1 ⟨rfl, hg⟩
  have HG : Hid (IsGr w w1) := hg
  clear hg
  go_wp2_with fail
  go_ret
  exact ⟨rfl, HG.out⟩

set_option maxRecDepth 20000 in set_option maxHeartbeats 2000000 in
theorem scales_wrong (C : DecC) (s : ByteArray) (fine : Int) (w : World) (hs : s.size ≤ 3000) (hi : I64 fine) (hr : rgtB (bts s) = false) (HTB : TabW w) : Calls Tryd.prog 3 #[.string s, .int .i64 fine] w fun e w' => e = .returned (.bool true) ∧ IsGr w w' := by
  have hs' : ¬ (3000 : Int) < s.size := by omega
  have CA := fun w' (hg : IsGr w w') => dawake_any C w' (HTB.gr hg)
  have CR := fun w => RRight_any s w (by omega)
  rw [hr] at CR
  have CS := C.scaleNo s fine w hs hi hr
  clear hs hr hi C HTB
  go_enter Tryd.func3, Tryd.ntmps3
  go_wp2_with fail
  refine CS.mono ?_
  clear CS
  rintro e w1 ⟨rfl, hg1⟩
  go_wp2_with fail
  refine (CR _).mono ?_
  clear CR
  rintro e w2 ⟨rfl, hg2⟩
  have HG2 : Hid (IsGr w w2) := hg1.trans (hg2 ▸ IsGr.refl _)
  clear hg1 hg2
  go_wp2_with fail
  refine (CA _ HG2.out).mono ?_
  clear CA
  rintro e w3 ⟨rfl, hg3⟩
  have HG3 : Hid (IsGr w w3) := HG2.out.trans hg3
  clear hg3 HG2
  go_wp2_with fail
  go_ret
  exact ⟨rfl, HG3.out⟩

set_option maxRecDepth 20000 in set_option maxHeartbeats 2000000 in
theorem scales_less (C : DecC) (s : ByteArray) (fine : Int) (w : World) (hs : s.size ≤ 3000) (hi : I64 fine) (M E : Int) (hN : NumIs (bts s) M E) (hr : rgtB (bts s) = true) (hf : fine < 0) (HTB : TabW w) : Calls Tryd.prog 3 #[.string s, .int .i64 fine] w fun e w' => e = .returned (.bool true) ∧ IsGr w w' := by
  have hs' : ¬ (3000 : Int) < s.size := by omega
  have CA := fun w' (hg : IsGr w w') => dawake_any C w' (HTB.gr hg)
  have CR := fun w => RRight_any s w (by omega)
  rw [hr] at CR
  have CS := C.scale s fine w M E hs hi hN
  clear hs hr hi C HTB hN
  go_enter Tryd.func3, Tryd.ntmps3
  go_wp2_with fail
  refine CS.mono ?_
  clear CS
  rintro e w1 ⟨n, er, rfl, hsc, hg1⟩
  obtain ⟨rfl, rfl⟩ : n = 0 ∧ er = 10 := by
    rcases hsc with ⟨_, h⟩ | ⟨h1, h2, _⟩
    · exact h
    · omega
  clear hsc
  go_wp2_with fail
  refine (CR _).mono ?_
  clear CR
  rintro e w2 ⟨rfl, hg2⟩
  have HG2 : Hid (IsGr w w2) := hg1.trans (hg2 ▸ IsGr.refl _)
  clear hg1 hg2
  go_wp2_with fail
  refine (CA _ HG2.out).mono ?_
  clear CA
  rintro e w3 ⟨rfl, hg3⟩
  have HG3 : Hid (IsGr w w3) := HG2.out.trans hg3
  clear hg3 HG2
  go_wp2_with fail
  go_ret
  exact ⟨rfl, HG3.out⟩

set_option maxRecDepth 20000 in set_option maxHeartbeats 2000000 in
theorem scales_more (C : DecC) (s : ByteArray) (fine : Int) (w : World) (hs : s.size ≤ 3000) (hi : I64 fine) (M E : Int) (hN : NumIs (bts s) M E) (hr : rgtB (bts s) = true) (hf : 9 < fine) (HTB : TabW w) : Calls Tryd.prog 3 #[.string s, .int .i64 fine] w fun e w' => e = .returned (.bool true) ∧ IsGr w w' := by
  have hs' : ¬ (3000 : Int) < s.size := by omega
  have CA := fun w' (hg : IsGr w w') => dawake_any C w' (HTB.gr hg)
  have CR := fun w => RRight_any s w (by omega)
  rw [hr] at CR
  have CS := C.scale s fine w M E hs hi hN
  have hf0 : ¬ fine < 0 := by omega
  clear hs hr hi C HTB hN
  go_enter Tryd.func3, Tryd.ntmps3
  go_wp2_with fail
  refine CS.mono ?_
  clear CS
  rintro e w1 ⟨n, er, rfl, hsc, hg1⟩
  obtain ⟨rfl, rfl⟩ : n = 0 ∧ er = 10 := by
    rcases hsc with ⟨_, h⟩ | ⟨h1, h2, _⟩
    · exact h
    · omega
  clear hsc
  go_wp2_with fail
  refine (CR _).mono ?_
  clear CR
  rintro e w2 ⟨rfl, hg2⟩
  have HG2 : Hid (IsGr w w2) := hg1.trans (hg2 ▸ IsGr.refl _)
  clear hg1 hg2
  go_wp2_with fail
  refine (CA _ HG2.out).mono ?_
  clear CA
  rintro e w3 ⟨rfl, hg3⟩
  have HG3 : Hid (IsGr w w3) := HG2.out.trans hg3
  clear hg3 HG2
  go_wp2_with fail
  go_ret
  exact ⟨rfl, HG3.out⟩
end Go.Proofs.YtfpifbfnebfdaaaDoor
