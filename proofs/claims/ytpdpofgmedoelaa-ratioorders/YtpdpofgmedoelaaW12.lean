/- Contracts of package wide over the loaded program: the digits of an Int. -/
import Derived.Test.YtpdpofgmedoelaaW9
import Derived.Test.YtpdpofgmedoelaaM6
namespace Go.Proofs.Ytpdpofgmedoelaa
open Go.RowKit Go.Shelf
attribute [local go_sem] Gr.size Gr.cell? Gr.frozen? Gr.setCell Gr.drew Gr.drewN Gr.of_drew Gr.of_drewN Gr.gr Gr.lt_of1 Gr.le_of1 Gr.lt_of2 Gr.le_of2 Gr.lt_of3 Gr.le_of3 Gr.lt_of4 Gr.le_of4 Gr.lt_of5 Gr.le_of5 Gr.lt_of6 Gr.le_of6 Gr.lt_of7 Gr.le_of7 Gr.lt_of8 Gr.le_of8

attribute [local go_sem] U8.set

theorem zero78 : Try.zeroCells129 = U8 (List.replicate 78 0) := by rfl

theorem conv78 (w : World) (T : TypeId) (Z : Obj) (X : Array Value) (pre acc bs : List Int) (hb : bs = pre ++ acc) (os1 : Array Obj) (n1 : Nat) (os : Array Obj) (n cap : Nat) :
    (convert 132 9 (.slice (some ⟨w.heap.size + 1, pre.length, none⟩) acc.length cap)).run Try.prog (Gr ((Gr ((w.alloc (.cells X T)).alloc (.cells (U8 bs) 129)) os1 n1).alloc Z) os n) =
      .ok (.string (strOfNums acc)) (Gr ((Gr ((w.alloc (.cells X T)).alloc (.cells (U8 bs) 129)) os1 n1).alloc Z) os n) := by
  refine run_convert_bytes_arg _ 132 5 Try.underlying132 Try.underlying5 _ _ _ _ acc rfl ?_ 9 Try.underlying9
  intro i hi
  rw [Gr.cell? _ _ _ _ _ (by simp [Gr.size]; omega), World.cell?_alloc_past _ _ _ (by simp [Gr.size]; omega), Gr.cell? _ _ _ _ _ (by simp), World.cell?_alloc_at _ _ _ _ (by simp), U8.get bs _ (by rw [hb]; simp; omega), hb]
  simp [List.getD, List.getElem?_append]
  rw [if_neg (by omega)]

set_option maxHeartbeats 4000000 in
theorem Text_any (x0 x1 x2 x3 x : Int) (hx : IsI x0 x1 x2 x3 x) (w : World) :
    Calls Try.prog 75 #[.agg #[.int .u64 x0, .int .u64 x1, .int .u64 x2, .int .u64 x3]] w fun e w' => e = .returned (.string (strOfNums (txt x))) ∧ IsGr w w' := by
  have SX := fun w => sizeOf_abs hx w
  have BX := fun w => below_neg hx w
  have hN : 0 ≤ abs x ∧ abs x < 10 ^ 77 := by
    have := hx.2; unfold abs; rw [show (10 : Int) ^ 77 = 100000000000000000000000000000000000000000000000000000000000000000000000000000 by decide]; split <;> omega
  obtain ⟨N, hNe⟩ := Int.eq_ofNat_of_zero_le hN.1
  have hst : Tx N N [] := Tx.start (by
    have h := hN.2; rw [hNe] at h
    have h2 : ((N : Nat) : Int) < ((10 ^ 77 : Nat) : Int) := by simpa using h
    exact Int.ofNat_lt.1 h2)
  have HST : Hid (Tx N N []) := hst
  have HN : Hid (abs x = N) := hNe
  clear hst hN
  rw [hNe] at SX
  clear hNe
  go_enter Try.func75, Try.ntmps75
  go_wp2_with fail
  refine (SX _).mono ?_
  rintro e w1 ⟨s0, s1, s2, s3, rfl, hs, os1, n1, rfl⟩
  go_wp2
  go_loopw [4, 6] (fun t4 t6 wr => ∃ (m : Nat) (acc bs : List Int) (D z0 z1 z2 z3 : Int) (os : Array Obj) (n : Nat), t4 = .int .i64 (78 - acc.length : Nat) ∧ t6 = .int .u64 D ∧ Is z0 z1 z2 z3 (m : Int) ∧ Hid (Tx N m acc) ∧ acc.length ≤ 77 ∧ Hid (bs = List.replicate (78 - acc.length) 0 ++ acc) ∧
      wr = Gr ((Gr ((w.alloc (.cells #[.int .u64 x0, .int .u64 x1, .int .u64 x2, .int .u64 x3] 24)).alloc (.cells (U8 bs) 129)) os1 n1).alloc (.cells #[.int .u64 z0, .int .u64 z1, .int .u64 z2, .int .u64 z3] 90)) os n) (fun t4 _ _ => (intOf t4).toNat)
  case atStart =>
    refine ⟨N, [], List.replicate 78 0, 0, s0, s1, s2, s3, #[], n1, rfl, rfl, hs, HST.out, by simp, rfl, ?_⟩
    rw [zero78]; exact Gr.nil _
  case round =>
    obtain ⟨m, acc, bs, D, z0, z1, z2, z3, os, n, rfl, rfl, hz, HT, hlen, HBS, rfl⟩ := hrel
    by_cases hgo : acc = [] ∨ m ≠ 0
    · obtain ⟨hl, hT2⟩ := HT.out.step hgo
      have HT2 : Hid (Tx N (m / 10) ((48 + ((m % 10 : Nat) : Int)) :: acc)) := hT2
      clear hT2
      obtain ⟨k, hk⟩ : ∃ k, 78 - acc.length = k + 1 := ⟨77 - acc.length, by omega⟩
      have hk2 : acc.length + k = 77 := by omega
      have CS := fun w => shortened_ten z0 z1 z2 z3 m hz w
      have hbs := HBS.out
      rw [hk] at hbs
      have HSET : Hid (∀ d, bs.set k d = List.replicate k 0 ++ d :: acc) := by intro d; rw [hbs]; exact rep_set k d acc hk2
      have hget := U8.get bs k (by rw [hbs]; simp; omega)
      generalize bs.getD k 0 = v0 at hget
      have hk78 : k < 78 := by omega
      have HK : Hid (78 - acc.length = k + 1 ∧ acc.length + k = 77) := ⟨hk, hk2⟩
      rw [hk]
      have hfin : ∀ r : Int, r = (m : Int) % 10 → bs.set k (48 + r) = List.replicate k 0 ++ (48 + ((m % 10 : Nat) : Int)) :: acc := by
        intro r hr
        rw [HSET.out, hr]; simp
      have HFIN := Hid.out (p := ∀ r : Int, r = (m : Int) % 10 → bs.set k (48 + r) = List.replicate k 0 ++ (48 + ((m % 10 : Nat) : Int)) :: acc) hfin
      have HF : Hid (∀ r : Int, r = (m : Int) % 10 → bs.set k (48 + r) = List.replicate k 0 ++ (48 + ((m % 10 : Nat) : Int)) :: acc) := hfin
      clear hfin HFIN hbs hk
      by_cases hacc : acc = []
      · obtain rfl : k = 77 := by subst hacc; simp at hk2; omega
        clear hgo hacc
        go_wp2_with fail
        refine (CS _).mono ?_
        rintro e w1 ⟨q0, q1, q2, q3, r, rfl, hq, Hr, r0, r1, os3, n3, rfl⟩
        go_wp2
        go_roundw
        case rel =>
          have a := HK.out
          refine ⟨m / 10, (48 + ((m % 10 : Nat) : Int)) :: acc, bs.set 77 (48 + r), r, q0, q1, q2, q3, _, _, ?_, rfl, by simpa using hq, HT2.out, by simp; omega, ?_, rfl⟩
          · first | (simp; done) | (simp; omega)
          · unfold Hid; rw [HF.out r Hr.out, show 78 - ((48 + ((m % 10 : Nat) : Int)) :: acc).length = 77 by simp; omega]
        case measure => simp [intOf]
      · have h78 : (((k + 1 : Nat) : Int) == 78) = false := by
          have : acc.length ≠ 0 := by simpa using hacc
          simp; omega
        have hkk : (k : Int) < 77 := by have : acc.length ≠ 0 := by simpa using hacc
                                        omega
        have hm0 : m ≠ 0 := by rcases hgo with h | h; exact absurd h hacc; exact h
        have he : ∀ w, (Op.equalIn 10000 90 (.agg #[.int .u64 z0, .int .u64 z1, .int .u64 z2, .int .u64 z3]) (.agg #[.int .u64 0, .int .u64 0, .int .u64 0, .int .u64 0])).run Try.prog w = .ok false w := fun w => by rw [eqS hz Is.zero]; simp; omega
        clear hgo hacc hm0
        go_wp2_with fail
        refine (CS _).mono ?_
        rintro e w1 ⟨q0, q1, q2, q3, r, rfl, hq, Hr, r0, r1, os3, n3, rfl⟩
        go_wp2
        go_roundw
        case rel =>
          have a := HK.out
          refine ⟨m / 10, (48 + ((m % 10 : Nat) : Int)) :: acc, bs.set k (48 + r), r, q0, q1, q2, q3, _, _, ?_, rfl, by simpa using hq, HT2.out, by simp; omega, ?_, rfl⟩
          · first | (simp; done) | (simp; omega)
          · unfold Hid; rw [HF.out r Hr.out, show 78 - ((48 + ((m % 10 : Nat) : Int)) :: acc).length = k by simp; omega]
        case measure => simp [intOf]
    · have hacc : acc ≠ [] := fun h => hgo (Or.inl h)
      have hm0 : m = 0 := by
        rcases Nat.eq_zero_or_pos m with h | h
        · exact h
        · exact absurd (Or.inr (by omega)) hgo
      have hR : acc = decs 78 N [] := Tx.fin (by rw [← hm0]; exact HT.out) hacc
      have hl0 : acc.length ≠ 0 := by simpa using hacc
      have h78 : (((78 - acc.length : Nat) : Int) == 78) = false := by simp; omega
      have he : ∀ w, (Op.equalIn 10000 90 (.agg #[.int .u64 z0, .int .u64 z1, .int .u64 z2, .int .u64 z3]) (.agg #[.int .u64 0, .int .u64 0, .int .u64 0, .int .u64 0])).run Try.prog w = .ok true w := fun w => by rw [eqS hz Is.zero]; simp [hm0]
      obtain ⟨j, hk⟩ : ∃ j, 78 - acc.length = j + 1 := ⟨77 - acc.length, by omega⟩
      have hk2 : acc.length + j = 77 := by omega
      have hbs := HBS.out
      rw [hk] at h78 hbs ⊢
      have HL : Hid (acc.length + j = 77 ∧ bs = List.replicate (j + 1) 0 ++ acc) := ⟨hk2, hbs⟩
      have hj77 : j < 77 := by omega
      have hjn : ¬ (78 = j) := by omega
      have hjn2 : ¬ (78 = j + 1) := by omega
      have hjn3 : ¬ (77 = j) := by omega
      have hget := U8.get bs j (by rw [hbs]; simp; omega)
      generalize bs.getD j 0 = v0 at hget
      have h0 : (0 : Int) ≤ (j : Int) := by omega
      have h1 : (j : Int) ≤ 78 := by omega
      have h2 : (j : Int) + 1 ≤ 78 := by omega
      have h3 : (0 : Int) ≤ (j : Int) + 1 := by omega
      clear hgo hacc hm0 hbs hk hk2 hl0 hlen
      go_wp2_with fail
      refine (BX _).mono ?_
      rintro e w1 ⟨rfl, os3, n3, rfl⟩
      by_cases hneg : x < 0
      · have hd : decide (x < 0) = true := by simp [hneg]
        have HT3 : Hid (45 :: acc = txt x) := by unfold Hid txt; rw [if_pos hneg, HN.out, hR]; simp
        have hc := fun os n => conv78 w 24 (.cells #[.int .u64 z0, .int .u64 z1, .int .u64 z2, .int .u64 z3] 90) (#[.int .u64 x0, .int .u64 x1, .int .u64 x2, .int .u64 x3]) (List.replicate j 0) (45 :: acc) (bs.set j 45) (by rw [HL.out.2]; exact rep_set j 45 acc HL.out.1) os1 n1 os n (78 - j)
        rw [show (List.replicate j (0 : Int)).length = j by simp, show ((45 : Int) :: acc).length = 78 - j by have := HL.out.1; simp; omega] at hc
        clear hneg hR
        rw [hd]
        go_wp2
        go_ret
        exact ⟨by rw [HT3.out]; rfl, (by with_reducible repeat (first | exact IsGr.refl _ | refine IsGr.gr ?_ _ _ | refine IsGr.alloc ?_ _ | refine IsGr.drew ?_ | refine IsGr.drewN ?_ _))⟩
      · have hd : decide (x < 0) = false := by simp [hneg]
        have HT3 : Hid (acc = txt x) := by unfold Hid txt; rw [if_neg hneg, HN.out, hR]; simp
        have hc := fun os n => conv78 w 24 (.cells #[.int .u64 z0, .int .u64 z1, .int .u64 z2, .int .u64 z3] 90) (#[.int .u64 x0, .int .u64 x1, .int .u64 x2, .int .u64 x3]) (List.replicate (j + 1) 0) acc bs HL.out.2 os1 n1 os n (77 - j)
        rw [show (List.replicate (j + 1) (0 : Int)).length = j + 1 by simp, show acc.length = 77 - j by have := HL.out.1; omega] at hc
        clear hneg hR
        rw [hd]
        go_wp2
        go_ret
        exact ⟨by rw [HT3.out]; rfl, (by with_reducible repeat (first | exact IsGr.refl _ | refine IsGr.gr ?_ _ _ | refine IsGr.alloc ?_ _ | refine IsGr.drew ?_ | refine IsGr.drewN ?_ _))⟩
end Go.Proofs.Ytpdpofgmedoelaa
