/- gromaref05 and gromalaw07 over the loaded program: the order by tens; two lists held against one another. -/
import Derived.Test.YtblnpabgakmghaaS6
import Derived.Deep.RegionWith
import Derived.RegionTactic
import Derived.BigQuiet
namespace Go.Proofs.Ytblnpabgakmghaa
open Go.RowKit Go.Shelf
attribute [local go_sem] Gr.size Gr.cell? Gr.frozen? Gr.setCell Gr.drew Gr.drewN Gr.of_drew Gr.of_drewN Gr.gr Gr.lt_of1 Gr.le_of1 Gr.lt_of2 Gr.le_of2 Gr.lt_of3 Gr.le_of3 Gr.lt_of4 Gr.le_of4 Gr.lt_of5 Gr.le_of5 Gr.lt_of6 Gr.le_of6 Gr.lt_of7 Gr.le_of7 Gr.lt_of8 Gr.le_of8 Gr.lt_of9 Gr.le_of9 Gr.lt_of10 Gr.le_of10 Gr.lt_of11 Gr.le_of11 Gr.lt_of12 Gr.le_of12 Gr.lt_of13 Gr.le_of13 Gr.lt_of14 Gr.le_of14 Gr.lt_of15 Gr.le_of15 Gr.lt_of16 Gr.le_of16 Gr.lt_of17 Gr.le_of17 Gr.lt_of18 Gr.le_of18 Gr.lt_of19 Gr.le_of19 Gr.lt_of20 Gr.le_of20 Gr.lt_of21 Gr.le_of21 Gr.lt_of22 Gr.le_of22 Gr.lt_of23 Gr.le_of23 Gr.lt_of24 Gr.le_of24
/-- How many whole tens. -/
def tq (n : Int) : Int := n / 10
set_option maxRecDepth 20000 in set_option maxHeartbeats 1000000 in
theorem RTens_any (n : Int) (hn : I64 n) (w : World) : Calls Try.prog 24 #[.int .i64 n] w fun e w' => e = .returned (.int .i64 (tq n)) ∧ w' = w := by
  have h1 := hn.1
  have h2 := hn.2
  clear hn
  by_cases h : n < 0
  · have e1 : IntKind.i64.wrap (n + 1) = n + 1 := by rw [IntKind.wrap_i64]; omega
    have e2 : IntKind.i64.wrap (-(n + 1)) = -(n + 1) := by rw [IntKind.wrap_i64]; omega
    have e3 : (-(n + 1)).tdiv 10 = (-(n + 1)) / 10 := Int.tdiv_eq_ediv_of_nonneg (by omega)
    have e4 : IntKind.i64.wrap ((-(n + 1)) / 10) = (-(n + 1)) / 10 := by rw [IntKind.wrap_i64]; omega
    have e5 : IntKind.i64.wrap ((-(n + 1)) / 10 + 1) = (-(n + 1)) / 10 + 1 := by rw [IntKind.wrap_i64]; omega
    have e6 : IntKind.i64.wrap (-((-(n + 1)) / 10 + 1)) = -((-(n + 1)) / 10 + 1) := by rw [IntKind.wrap_i64]; omega
    have HR : Hid (-((-(n + 1)) / 10 + 1) = tq n) := by show _ = _; unfold tq; omega
    go_enter Try.func24, Try.ntmps24
    go_wp2_with fail
    go_ret
    refine ⟨?_, rfl⟩
    rw [← HR.out]
    rfl
  · have e1 : n.tdiv 10 = n / 10 := Int.tdiv_eq_ediv_of_nonneg (by omega)
    have e2 : IntKind.i64.wrap (n / 10) = n / 10 := by rw [IntKind.wrap_i64]; omega
    go_enter Try.func24, Try.ntmps24
    go_wp2_with fail
    go_ret
    refine ⟨?_, rfl⟩
    rfl

/-- How a stands to b by its tens. -/
def tensI (a b : Int) : Int := if tq a < tq b then -1 else if tq b < tq a then 1 else 0
theorem tensI_sg (a b : Int) : Sg (tensI a b) (tq a) (tq b) := by
  unfold Sg tensI
  split
  · omega
  · split <;> omega
theorem tensI_neg (a b : Int) : Sg (-tensI a b) (-tq a) (-tq b) := by
  unfold Sg tensI
  split
  · omega
  · split <;> omega
theorem tensI_range (a b : Int) : -1 ≤ tensI a b ∧ tensI a b ≤ 1 := by
  unfold tensI
  split
  · omega
  · split <;> omega
set_option maxRecDepth 20000 in set_option maxHeartbeats 1000000 in
theorem tens_any (a b : Int) (ha : I64 a) (hb : I64 b) (w : World) : Calls Try.prog 11 #[.int .i64 a, .int .i64 b] w fun e w' => e = .returned (.int .i64 (tensI a b)) ∧ w' = w := by
  have CA := fun w => RTens_any a ha w
  have CB := fun w => RTens_any b hb w
  have HR : Hid (∀ x y, tq a = x → tq b = y → tensI a b = if x < y then -1 else if y < x then 1 else 0) := by rintro x y rfl rfl; rfl
  obtain ⟨x, hx⟩ : ∃ x, tq a = x := ⟨_, rfl⟩
  obtain ⟨y, hy⟩ : ∃ y, tq b = y := ⟨_, rfl⟩
  have HE : Hid (tensI a b = if x < y then -1 else if y < x then 1 else 0) := HR.out x y hx hy
  simp only [hx] at CA
  simp only [hy] at CB
  clear HR hx hy ha hb
  rcases Int.lt_trichotomy x y with h | h | h
  · have H2 : Hid (tensI a b = -1) := by have := HE.out; rw [if_pos h] at this; exact this
    clear HE
    go_enter Try.func11, Try.ntmps11
    go_wp2_with fail
    refine (CA _).mono ?_
    rintro e w1 ⟨rfl, rfl⟩
    go_wp2_with fail
    refine (CB _).mono ?_
    rintro e w1 ⟨rfl, rfl⟩
    go_wp2_with fail
    go_ret
    rw [H2.out]
    exact ⟨rfl, rfl⟩
  · have H2 : Hid (tensI a b = 0) := by have := HE.out; rw [if_neg (by omega), if_neg (by omega)] at this; exact this
    clear HE
    subst h
    go_enter Try.func11, Try.ntmps11
    go_wp2_with fail
    refine (CA _).mono ?_
    rintro e w1 ⟨rfl, rfl⟩
    go_wp2_with fail
    refine (CB _).mono ?_
    rintro e w1 ⟨rfl, rfl⟩
    go_wp2_with fail
    go_ret
    rw [H2.out]
    exact ⟨rfl, rfl⟩
  · have H2 : Hid (tensI a b = 1) := by have := HE.out; rw [if_neg (by omega), if_pos h] at this; exact this
    clear HE
    go_enter Try.func11, Try.ntmps11
    go_wp2_with fail
    refine (CA _).mono ?_
    rintro e w1 ⟨rfl, rfl⟩
    go_wp2_with fail
    refine (CB _).mono ?_
    rintro e w1 ⟨rfl, rfl⟩
    go_wp2_with fail
    go_ret
    rw [H2.out]
    exact ⟨rfl, rfl⟩
theorem tens_ordr : Ordr 11 tq := ⟨enters_of Try.func11 (by kernel_rfl) rfl, fun a b w ha hb => (tens_any a b ha hb w).mono fun _ _ ⟨h1, h2⟩ => ⟨_, tensI_sg a b, h1, h2 ▸ IsGr.refl _⟩⟩


set_option maxRecDepth 20000 in set_option maxHeartbeats 1000000 in
theorem equal_any (v1 v2 : Value) (l1 l2 : List Int) (w : World) (h1 : Rd w v1 l1) (h2 : Rd w v2 l2) (hn : l1.length ≤ 2000) : Calls Try.prog 13 #[v1, v2] w fun e w' => e = .returned (.bool (decide (l1 = l2))) ∧ IsGr w w' := by
  obtain ⟨a1, c1, rfl⟩ := h1.form
  obtain ⟨a2, c2, rfl⟩ := h2.form
  obtain ⟨b, hb⟩ : ∃ b, decide (l1 = l2) = b := ⟨_, rfl⟩
  rw [hb]
  by_cases hne : l1.length = l2.length
  · obtain ⟨m, hm⟩ : ∃ m, l1.length = m := ⟨_, rfl⟩
    rw [← hne, hm] at h2 ⊢
    rw [hm] at h1 hn
    have HH : Hid (Rd w (.slice a1 m c1) l1 ∧ Rd w (.slice a2 m c2) l2 ∧ l1.length = m ∧ l2.length = m ∧ decide (l1 = l2) = b) := ⟨h1, h2, hm, by omega, hb⟩
    clear h1 h2 hm hne hb
    have hq : ((m : Int) != (m : Int)) = false := by simp
    go_enter Try.func13, Try.ntmps13
    go_wp2_with fail
    go_loopg [13] m (fun r p wr => ∃ k : Nat, k + r = m ∧ p = .int .i64 k ∧ Hid (IsGr w wr ∧ l1.take k = l2.take k))
    case atStart => exact ⟨0, by omega, rfl, IsGr.refl _, by simp⟩
    case round =>
      obtain ⟨k, hk, rfl, HG⟩ := hrel
      by_cases hkm : k < m
      · obtain ⟨g1, o1, rfl, _, _, _, _, q1⟩ := (HH.out.1.gr HG.out.1).at hkm
        obtain ⟨g2, o2, rfl, _, _, _, _, q2⟩ := (HH.out.2.1.gr HG.out.1).at hkm
        have hkm' : (k : Int) < m := by omega
        have e1 : IntKind.i64.wrap ((k : Int) + 1) = (k : Int) + 1 := by rw [IntKind.wrap_i64]; omega
        have HT : Hid (l1.take (k + 1) = l1.take k ++ [l1.getD k 0] ∧ l2.take (k + 1) = l2.take k ++ [l2.getD k 0]) := by
          obtain ⟨_, _, t1, t2, _⟩ := HH.out
          constructor
          · rw [List.take_add_one, List.getElem?_eq_getElem (by omega)]; simp [List.getD, (by omega : k < l1.length)]
          · rw [List.take_add_one, List.getElem?_eq_getElem (by omega)]; simp [List.getD, (by omega : k < l2.length)]
        obtain ⟨x, hx⟩ : ∃ x, l1.getD k 0 = x := ⟨_, rfl⟩
        obtain ⟨y, hy⟩ : ∃ y, l2.getD k 0 = y := ⟨_, rfl⟩
        rw [hx] at q1
        rw [hy] at q2
        rw [hx, hy] at HT
        have HX : Hid (l1.getD k 0 = x ∧ l2.getD k 0 = y) := ⟨hx, hy⟩
        clear hx hy
        by_cases hxy : x = y
        · subst hxy
          have hq2 : (x != x) = false := by simp
          go_wp2_with fail
          go_quiet (fail)
          go_wp2_with fail
          go_roundg (gk - 1)
          case measure => omega
          case rel =>
            refine ⟨k + 1, by omega, by simp, HG.out.1.drewN nq, ?_⟩
            rw [HT.out.1, HT.out.2, HG.out.2]
        · have hq2 : (x != y) = true := by simpa using hxy
          have hne : ¬ x = y := hxy
          clear hxy
          go_wp2_with fail
          go_quiet (fail)
          go_wp2_with fail
          go_ret
          refine ⟨?_, HG.out.1.drewN nq⟩
          have : ¬ l1 = l2 := fun e => hne (by rw [← HX.out.1, ← HX.out.2, e])
          rw [← HH.out.2.2.2.2, decide_eq_false this]
          rfl
      · obtain rfl : k = m := by omega
        have hkm' : ¬ (k : Int) < k := by omega
        go_wp2_with fail
        go_ret
        refine ⟨?_, HG.out.1⟩
        obtain ⟨_, _, t1, t2, t3⟩ := HH.out
        have := HG.out.2
        rw [List.take_of_length_le (by omega), List.take_of_length_le (by omega)] at this
        rw [← t3]; simp [this]
  · have hq : ((l1.length : Int) != (l2.length : Int)) = true := by simp; omega
    have hb' : b = false := by rw [← hb]; simp; intro e; exact hne (by rw [e])
    subst hb'
    obtain ⟨m1, hm1⟩ : ∃ m, l1.length = m := ⟨_, rfl⟩
    obtain ⟨m2, hm2⟩ : ∃ m, l2.length = m := ⟨_, rfl⟩
    rw [hm1, hm2] at hq ⊢
    clear h1 h2 hm1 hm2 hne hb
    go_enter Try.func13, Try.ntmps13
    go_wp2_with fail
    go_ret
    exact ⟨rfl, IsGr.refl _⟩
end Go.Proofs.Ytblnpabgakmghaa
