/- Contracts of package wide over the loaded program: Parse. -/
import Derived.Test.YtjgkmhgaacallaaW14
namespace Go.Proofs.Ytjgkmhgaacallaa
open Go.RowKit Go.Shelf
attribute [local go_sem] Gr.size Gr.cell? Gr.frozen? Gr.setCell Gr.drew Gr.drewN Gr.of_drew Gr.of_drewN Gr.gr Gr.lt_of1 Gr.le_of1 Gr.lt_of2 Gr.le_of2 Gr.lt_of3 Gr.le_of3 Gr.lt_of4 Gr.le_of4 Gr.lt_of5 Gr.le_of5 Gr.lt_of6 Gr.le_of6 Gr.lt_of7 Gr.le_of7 Gr.lt_of8 Gr.le_of8

theorem cut_facts (s : ByteArray) : ∃ (t : ByteArray) (b : Bool), (⟨(Lib.trimPrefix s.data.toList [45]).toArray⟩ : ByteArray) = t ∧ Lib.hasPrefix s.data.toList [45] = b ∧ Hid ((b = true ∧ nums s = 45 :: nums t) ∨ (b = false ∧ t = s ∧ (nums s).head? ≠ some 45)) := by
  refine ⟨_, _, rfl, rfl, ?_⟩
  unfold Hid nums Lib.trimPrefix Lib.hasPrefix
  match h : s.data.toList with
  | [] =>
    right
    obtain ⟨⟨l⟩⟩ := s
    simp at h; subst h
    simp
  | c :: r =>
    by_cases hc : c = 45
    · left; subst hc; simp [List.isPrefixOf]
    · right
      have hc2 : (45 == c) = false := by simp; exact fun e => hc e.symm
      refine ⟨by simp [List.isPrefixOf, hc2], ?_, ?_⟩
      · simp [List.isPrefixOf, hc2]
        obtain ⟨⟨l⟩⟩ := s
        simp at h; subst h; rfl
      · simp
        intro e
        apply hc
        apply UInt8.toNat_inj.1
        have : (45 : UInt8).toNat = 45 := rfl
        omega

/-- What Parse answers of digits q under a sign. -/
def PsT (b : Bool) (q : Option Int) (s0 s1 s2 s3 : Int) (ok : Bool) : Prop := (ok = true ∧ ∃ z, q = some z ∧ IsI s0 s1 s2 s3 (sgn b z)) ∨ (ok = false ∧ (s0 = 0 ∧ s1 = 0 ∧ s2 = 0 ∧ s3 = 0) ∧ ∀ z, q = some z → ¬ (-57896044618658097711785492504343953926634992332820282019728792003956564819968 ≤ sgn b z ∧ sgn b z < 57896044618658097711785492504343953926634992332820282019728792003956564819968))
def PsP (b : Bool) (q : Option Int) (w : World) (e : Ending) (w' : World) : Prop := ∃ (s0 s1 s2 s3 : Int) (ok : Bool), e = .returned (.tuple #[.agg #[.int .u64 s0, .int .u64 s1, .int .u64 s2, .int .u64 s3], .bool ok]) ∧ PsT b q s0 s1 s2 s3 ok ∧ IsGr w w'
theorem PsP.no {b : Bool} {q : Option Int} {w w' : World} (h : ∀ z, q = some z → ¬ (-57896044618658097711785492504343953926634992332820282019728792003956564819968 ≤ sgn b z ∧ sgn b z < 57896044618658097711785492504343953926634992332820282019728792003956564819968)) (hg : IsGr w w') : PsP b q w (.returned (.tuple #[.agg #[.int .u64 0, .int .u64 0, .int .u64 0, .int .u64 0], .bool false])) w' :=
  ⟨0, 0, 0, 0, false, rfl, Or.inr ⟨rfl, ⟨rfl, rfl, rfl, rfl⟩, h⟩, hg⟩
theorem PsP.told {b ok : Bool} {q : Option Int} {w w' : World} {z s0 s1 s2 s3 : Int} (hq : q = some z) (h : Told (sgn b z) s0 s1 s2 s3 ok) (hg : IsGr w w') : PsP b q w (.returned (.tuple #[.agg #[.int .u64 s0, .int .u64 s1, .int .u64 s2, .int .u64 s3], .bool ok])) w' := by
  refine ⟨s0, s1, s2, s3, ok, rfl, ?_, hg⟩
  rcases h with ⟨rfl, h⟩ | ⟨rfl, h, h2⟩
  · exact Or.inl ⟨rfl, z, hq, h⟩
  · exact Or.inr ⟨rfl, h2, fun z' e => by rw [hq] at e; injection e with e; subst e; exact h⟩
theorem PsP.map {b : Bool} {q q' : Option Int} {w w' : World} {e : Ending} (h : PsP b q w e w') (hq : q' = q.map (sgn b)) : PsP false q' w e w' := by
  obtain ⟨s0, s1, s2, s3, ok, he, hT, hg⟩ := h
  refine ⟨s0, s1, s2, s3, ok, he, ?_, hg⟩
  subst hq
  rcases hT with ⟨rfl, z, hz, h⟩ | ⟨rfl, h1, h2⟩
  · exact Or.inl ⟨rfl, sgn b z, by rw [hz]; rfl, h⟩
  · refine Or.inr ⟨rfl, h1, fun z hz => ?_⟩
    cases q with
    | none => cases hz
    | some y =>
      simp at hz
      have := h2 y rfl
      rw [hz] at this
      simpa [sgn] using this

/-- How the loop of Parse stands. -/
def Pl (l : List Int) (q : Option Int) (i : Nat) (Z : Int) : Prop := 0 ≤ Z ∧ dval (l.drop i) Z = q
theorem Pl.step {l : List Int} {q : Option Int} {i : Nat} {Z c : Int} (h : Pl l q i Z) (hc : l.drop i = c :: l.drop (i + 1)) (c0 : 48 ≤ c) (c1 : c ≤ 57) : Pl l q (i + 1) (Z * 10 + (c - 48)) := by
  obtain ⟨h1, h4⟩ := h
  rw [hc, dval_good c0 c1] at h4
  exact ⟨by omega, h4⟩
theorem Pl.bad {l : List Int} {q : Option Int} {i : Nat} {Z c : Int} (h : Pl l q i Z) (hc : l.drop i = c :: l.drop (i + 1)) (hb : c < 48 ∨ 57 < c) : q = none := by
  obtain ⟨h1, h4⟩ := h
  rw [hc, dval_bad hb] at h4; exact h4.symm
theorem Pl.fin {l : List Int} {q : Option Int} {i : Nat} {Z : Int} (h : Pl l q i Z) (hi : l.length ≤ i) : q = some Z := by
  obtain ⟨h1, h4⟩ := h
  rw [List.drop_eq_nil_of_le hi] at h4
  exact h4.symm
theorem Pl.over {l : List Int} {q : Option Int} {i : Nat} {Z : Int} {b : Bool} (h : Pl l q i Z) (hZ : 115792089237316195423570985008687907853269984665640564039457584007913129639936 ≤ Z) : ∀ z, q = some z → ¬ (-57896044618658097711785492504343953926634992332820282019728792003956564819968 ≤ sgn b z ∧ sgn b z < 57896044618658097711785492504343953926634992332820282019728792003956564819968) := by
  obtain ⟨h1, h4⟩ := h
  intro z hz
  rw [hz] at h4
  have := dval_ge _ _ _ h1 h4
  unfold sgn; split <;> omega


set_option maxHeartbeats 4000000 in
theorem Parse_d (s t : ByteArray) (b : Bool) (w : World) (ht : (⟨(Lib.trimPrefix s.data.toList [45]).toArray⟩ : ByteArray) = t) (hb : Lib.hasPrefix s.data.toList [45] = b) (h0 : 0 < t.size) (hbig : t.size ≤ 9223372036854775806) (q : Option Int) (Hq : Hid (dval (nums t) 0 = q)) (h48 : (((t[0]'h0).toNat : Int) == 48) = false) :
    Calls Try.prog 32 #[.string s] w fun e w' => PsP b q w e w' := by
  have hne : t.toList.isEmpty = false := by
    rw [ByteArray.toList_eq, List.isEmpty_eq_false_iff]
    intro e
    have : t.size = 0 := by show t.data.size = 0; rw [← Array.length_toList, e]; rfl
    omega
  have hne2 : ¬ t.toList = [] := by intro e; rw [e] at hne; cases hne
  have HT : Hid ((⟨(Lib.trimPrefix s.data.toList [45]).toArray⟩ : ByteArray) = t ∧ Lib.hasPrefix s.data.toList [45] = b) := ⟨ht, hb⟩
  clear ht hb
  go_enter Try.func32, Try.ntmps32
  go_wp2_with fail
  refine (Try.strings_CutPrefix s _ _).mono ?_
  rintro e w1 ⟨rfl, hw⟩
  rw [hw]
  clear hw
  rw [HT.out.1, HT.out.2]
  go_wp2
  go_loopw [29] (fun t29 wr => ∃ (i : Nat) (Z z0 z1 z2 z3 : Int) (os : Array Obj) (d : Nat), i ≤ t.size ∧ t29 = .int .i64 i ∧ Pl (nums t) q i Z ∧ Is z0 z1 z2 z3 Z ∧
      wr = Gr ((w.alloc (.cells #[.int .u64 0, .int .u64 0, .int .u64 0, .int .u64 0] 24)).alloc (.cells #[.int .u64 z0, .int .u64 z1, .int .u64 z2, .int .u64 z3] 75)) os d) (fun t29 _ => (t.size - intOf t29).toNat)
  case atStart => exact ⟨0, 0, 0, 0, 0, 0, #[], w.drawn, by omega, rfl, ⟨by omega, Hq.out⟩, Is.zero, Gr.nil _⟩
  case round =>
    obtain ⟨i, Z, z0, z1, z2, z3, os, d, hi, rfl, HD, hz, rfl⟩ := hrel
    by_cases hlt : i < t.size
    · have hat := nums_at t i hlt
      have HAT : Hid ((nums t).drop i = ((t[i]'hlt).toNat : Int) :: (nums t).drop (i + 1)) := hat
      clear hat
      by_cases hc1 : ((t[i]'hlt).toNat : Int) < 48
      · have HN : Hid (q = none) := HD.bad HAT.out (Or.inl hc1)
        clear HD hz HAT
        go_wp2
        exact bodyPost_ret (v := .tuple #[.agg #[.int .u64 0, .int .u64 0, .int .u64 0, .int .u64 0], .bool false]) (by simp [results, Try.results32, go_sem]) rfl (PsP.no (fun z e => by rw [HN.out] at e; cases e) (by with_reducible repeat (first | exact IsGr.refl _ | refine IsGr.gr ?_ _ _ | refine IsGr.alloc ?_ _ | refine IsGr.drew ?_ | refine IsGr.drewN ?_ _)))
      · by_cases hc2 : 57 < ((t[i]'hlt).toNat : Int)
        · have HN : Hid (q = none) := HD.bad HAT.out (Or.inr hc2)
          clear HD hz HAT
          go_wp2
          exact bodyPost_ret (v := .tuple #[.agg #[.int .u64 0, .int .u64 0, .int .u64 0, .int .u64 0], .bool false]) (by simp [results, Try.results32, go_sem]) rfl (PsP.no (fun z e => by rw [HN.out] at e; cases e) (by with_reducible repeat (first | exact IsGr.refl _ | refine IsGr.gr ?_ _ _ | refine IsGr.alloc ?_ _ | refine IsGr.drew ?_ | refine IsGr.drewN ?_ _)))
        · have HS' : Hid (Pl (nums t) q (i + 1) (Z * 10 + (((t[i]'hlt).toNat : Int) - 48))) := HD.step HAT.out (by omega) (by omega)
          clear HD HAT
          have hwr : IntKind.u8.wrap (((t[i]'hlt).toNat : Int) - 48) = ((t[i]'hlt).toNat : Int) - 48 := by rw [IntKind.wrap_u8]; omega
          have hwr2 : IntKind.u64.wrap (((t[i]'hlt).toNat : Int) - 48) = ((t[i]'hlt).toNat : Int) - 48 := by rw [IntKind.wrap_u64]; omega
          have CL := fun w => lengthened_ten z0 z1 z2 z3 Z (((t[i]'hlt).toNat : Int) - 48) hz (by omega) (by omega) w
          go_wp2_with fail
          refine (CL _).mono ?_
          rintro e w1 ⟨s0, s1, s2, s3, ok, rfl, hL, os1, n1, rfl⟩
          rcases hL with ⟨rfl, hs⟩ | ⟨rfl, hov, rfl, rfl, rfl, rfl⟩
          · go_wp2
            go_roundw
            case rel => exact ⟨i + 1, Z * 10 + (((t[i]'hlt).toNat : Int) - 48), s0, s1, s2, s3, _, _, by omega, by go_num, HS'.out, hs, rfl⟩
            case measure => simp [intOf]; omega
          · have HO : Hid (115792089237316195423570985008687907853269984665640564039457584007913129639936 ≤ Z * 10 + (((t[i]'hlt).toNat : Int) - 48)) := hov
            clear hov
            go_wp2
            exact bodyPost_ret (v := .tuple #[.agg #[.int .u64 0, .int .u64 0, .int .u64 0, .int .u64 0], .bool false]) (by simp [results, Try.results32, go_sem]) rfl (PsP.no (HS'.out.over HO.out) (by with_reducible repeat (first | exact IsGr.refl _ | refine IsGr.gr ?_ _ _ | refine IsGr.alloc ?_ _ | refine IsGr.drew ?_ | refine IsGr.drewN ?_ _)))
    · obtain rfl : i = t.size := by omega
      have HF : Hid (q = some Z) := HD.fin (by rw [nums_len]; omega)
      clear HD
      go_wp2_with fail
      refine (signed_told z0 z1 z2 z3 Z b hz _).mono ?_
      rintro e w1 ⟨s0, s1, s2, s3, ok, rfl, hT, os1, n1, rfl⟩
      go_wp2
      exact bodyPost_ret (v := .tuple #[.agg #[.int .u64 s0, .int .u64 s1, .int .u64 s2, .int .u64 s3], .bool ok]) (by simp [results, Try.results32, go_sem]) rfl (PsP.told HF.out hT (by with_reducible repeat (first | exact IsGr.refl _ | refine IsGr.gr ?_ _ _ | refine IsGr.alloc ?_ _ | refine IsGr.drew ?_ | refine IsGr.drewN ?_ _)))

set_option maxHeartbeats 4000000 in
theorem Parse_z (s t : ByteArray) (b : Bool) (w : World) (ht : (⟨(Lib.trimPrefix s.data.toList [45]).toArray⟩ : ByteArray) = t) (hb : Lib.hasPrefix s.data.toList [45] = b) (h0 : 0 < t.size) (hbig : t.size ≤ 9223372036854775806) (q : Option Int) (Hq : Hid (dval (nums t) 0 = q)) (h48 : (((t[0]'h0).toNat : Int) == 48) = true) (hs0 : (!s.toList == [48]) = false) :
    Calls Try.prog 32 #[.string s] w fun e w' => PsP b q w e w' := by
  have hne : t.toList.isEmpty = false := by
    rw [ByteArray.toList_eq, List.isEmpty_eq_false_iff]
    intro e
    have : t.size = 0 := by show t.data.size = 0; rw [← Array.length_toList, e]; rfl
    omega
  have hne2 : ¬ t.toList = [] := by intro e; rw [e] at hne; cases hne
  have HT : Hid ((⟨(Lib.trimPrefix s.data.toList [45]).toArray⟩ : ByteArray) = t ∧ Lib.hasPrefix s.data.toList [45] = b) := ⟨ht, hb⟩
  clear ht hb
  go_enter Try.func32, Try.ntmps32
  go_wp2_with fail
  refine (Try.strings_CutPrefix s _ _).mono ?_
  rintro e w1 ⟨rfl, hw⟩
  rw [hw]
  clear hw
  rw [HT.out.1, HT.out.2]
  go_wp2
  go_loopw [29] (fun t29 wr => ∃ (i : Nat) (Z z0 z1 z2 z3 : Int) (os : Array Obj) (d : Nat), i ≤ t.size ∧ t29 = .int .i64 i ∧ Pl (nums t) q i Z ∧ Is z0 z1 z2 z3 Z ∧
      wr = Gr ((w.alloc (.cells #[.int .u64 0, .int .u64 0, .int .u64 0, .int .u64 0] 24)).alloc (.cells #[.int .u64 z0, .int .u64 z1, .int .u64 z2, .int .u64 z3] 75)) os d) (fun t29 _ => (t.size - intOf t29).toNat)
  case atStart => exact ⟨0, 0, 0, 0, 0, 0, #[], w.drawn, by omega, rfl, ⟨by omega, Hq.out⟩, Is.zero, Gr.nil _⟩
  case round =>
    obtain ⟨i, Z, z0, z1, z2, z3, os, d, hi, rfl, HD, hz, rfl⟩ := hrel
    by_cases hlt : i < t.size
    · have hat := nums_at t i hlt
      have HAT : Hid ((nums t).drop i = ((t[i]'hlt).toNat : Int) :: (nums t).drop (i + 1)) := hat
      clear hat
      by_cases hc1 : ((t[i]'hlt).toNat : Int) < 48
      · have HN : Hid (q = none) := HD.bad HAT.out (Or.inl hc1)
        clear HD hz HAT
        go_wp2
        exact bodyPost_ret (v := .tuple #[.agg #[.int .u64 0, .int .u64 0, .int .u64 0, .int .u64 0], .bool false]) (by simp [results, Try.results32, go_sem]) rfl (PsP.no (fun z e => by rw [HN.out] at e; cases e) (by with_reducible repeat (first | exact IsGr.refl _ | refine IsGr.gr ?_ _ _ | refine IsGr.alloc ?_ _ | refine IsGr.drew ?_ | refine IsGr.drewN ?_ _)))
      · by_cases hc2 : 57 < ((t[i]'hlt).toNat : Int)
        · have HN : Hid (q = none) := HD.bad HAT.out (Or.inr hc2)
          clear HD hz HAT
          go_wp2
          exact bodyPost_ret (v := .tuple #[.agg #[.int .u64 0, .int .u64 0, .int .u64 0, .int .u64 0], .bool false]) (by simp [results, Try.results32, go_sem]) rfl (PsP.no (fun z e => by rw [HN.out] at e; cases e) (by with_reducible repeat (first | exact IsGr.refl _ | refine IsGr.gr ?_ _ _ | refine IsGr.alloc ?_ _ | refine IsGr.drew ?_ | refine IsGr.drewN ?_ _)))
        · have HS' : Hid (Pl (nums t) q (i + 1) (Z * 10 + (((t[i]'hlt).toNat : Int) - 48))) := HD.step HAT.out (by omega) (by omega)
          clear HD HAT
          have hwr : IntKind.u8.wrap (((t[i]'hlt).toNat : Int) - 48) = ((t[i]'hlt).toNat : Int) - 48 := by rw [IntKind.wrap_u8]; omega
          have hwr2 : IntKind.u64.wrap (((t[i]'hlt).toNat : Int) - 48) = ((t[i]'hlt).toNat : Int) - 48 := by rw [IntKind.wrap_u64]; omega
          have CL := fun w => lengthened_ten z0 z1 z2 z3 Z (((t[i]'hlt).toNat : Int) - 48) hz (by omega) (by omega) w
          go_wp2_with fail
          refine (CL _).mono ?_
          rintro e w1 ⟨s0, s1, s2, s3, ok, rfl, hL, os1, n1, rfl⟩
          rcases hL with ⟨rfl, hs⟩ | ⟨rfl, hov, rfl, rfl, rfl, rfl⟩
          · go_wp2
            go_roundw
            case rel => exact ⟨i + 1, Z * 10 + (((t[i]'hlt).toNat : Int) - 48), s0, s1, s2, s3, _, _, by omega, by go_num, HS'.out, hs, rfl⟩
            case measure => simp [intOf]; omega
          · have HO : Hid (115792089237316195423570985008687907853269984665640564039457584007913129639936 ≤ Z * 10 + (((t[i]'hlt).toNat : Int) - 48)) := hov
            clear hov
            go_wp2
            exact bodyPost_ret (v := .tuple #[.agg #[.int .u64 0, .int .u64 0, .int .u64 0, .int .u64 0], .bool false]) (by simp [results, Try.results32, go_sem]) rfl (PsP.no (HS'.out.over HO.out) (by with_reducible repeat (first | exact IsGr.refl _ | refine IsGr.gr ?_ _ _ | refine IsGr.alloc ?_ _ | refine IsGr.drew ?_ | refine IsGr.drewN ?_ _)))
    · obtain rfl : i = t.size := by omega
      have HF : Hid (q = some Z) := HD.fin (by rw [nums_len]; omega)
      clear HD
      go_wp2_with fail
      refine (signed_told z0 z1 z2 z3 Z b hz _).mono ?_
      rintro e w1 ⟨s0, s1, s2, s3, ok, rfl, hT, os1, n1, rfl⟩
      go_wp2
      exact bodyPost_ret (v := .tuple #[.agg #[.int .u64 s0, .int .u64 s1, .int .u64 s2, .int .u64 s3], .bool ok]) (by simp [results, Try.results32, go_sem]) rfl (PsP.told HF.out hT (by with_reducible repeat (first | exact IsGr.refl _ | refine IsGr.gr ?_ _ _ | refine IsGr.alloc ?_ _ | refine IsGr.drew ?_ | refine IsGr.drewN ?_ _)))
end Go.Proofs.Ytjgkmhgaacallaa
