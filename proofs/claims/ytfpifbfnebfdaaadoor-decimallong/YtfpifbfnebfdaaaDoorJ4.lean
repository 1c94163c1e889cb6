/- Package decimal over the loaded program: whole. -/
import Derived.Test.YtfpifbfnebfdaaaDoorJ3
namespace Go.Proofs.YtfpifbfnebfdaaaDoor
open Go.RowKit Go.Shelf
attribute [local go_sem] Gr.size Gr.cell? Gr.frozen? Gr.setCell Gr.drew Gr.drewN Gr.of_drew Gr.of_drewN Gr.gr Gr.lt_of1 Gr.le_of1 Gr.lt_of2 Gr.le_of2 Gr.lt_of3 Gr.le_of3 Gr.lt_of4 Gr.le_of4 Gr.lt_of5 Gr.le_of5 Gr.lt_of6 Gr.le_of6 Gr.lt_of7 Gr.le_of7 Gr.lt_of8 Gr.le_of8 Gr.lt_of9 Gr.le_of9 Gr.lt_of10 Gr.le_of10 Gr.lt_of11 Gr.le_of11 Gr.lt_of12 Gr.le_of12 Gr.lt_of13 Gr.le_of13 Gr.lt_of14 Gr.le_of14 Gr.lt_of15 Gr.le_of15 Gr.lt_of16 Gr.le_of16 Gr.lt_of17 Gr.le_of17 Gr.lt_of18 Gr.le_of18 Gr.lt_of19 Gr.le_of19 Gr.lt_of20 Gr.le_of20 Gr.lt_of21 Gr.le_of21 Gr.lt_of22 Gr.le_of22 Gr.lt_of23 Gr.le_of23 Gr.lt_of24 Gr.le_of24
/-- Digits as a builder's cells. -/
def dcs (X : List Int) : List Value := X.map fun z => Value.int .u8 z
theorem dcs_snoc (X : List Int) (c : Int) : dcs (X ++ [c]) = dcs X ++ [.int .u8 c] := by simp [dcs]
theorem dcs_len (X : List Int) : (dcs X).length = X.length := by simp [dcs]
/-- Digits as bytes. -/
def u8s (X : List Int) : List UInt8 := X.map fun z => UInt8.ofNat z.toNat
theorem dcs_bytes {X : List Int} (h : ∀ c ∈ X, 0 ≤ c ∧ c < 256) : dcs X = Lib.byteCells (u8s X) := by
  unfold dcs u8s Lib.byteCells
  rw [List.map_map]
  refine List.map_congr_left fun c hc => ?_
  have := h c hc
  simp
  omega
theorem u8s_back {X : List Int} (h : ∀ c ∈ X, 0 ≤ c ∧ c < 256) : (u8s X).map (fun b => (b.toNat : Int)) = X := by
  unfold u8s
  rw [List.map_map]
  refine (List.map_congr_left (g := id) fun c hc => ?_).trans (List.map_id _)
  have := h c hc
  simp
  omega
theorem bts_mk (l : List UInt8) : bts { data := l.toArray } = l.map fun b => (b.toNat : Int) := rfl
theorem size_mk (l : List UInt8) : ({ data := l.toArray } : ByteArray).size = l.length := by rw [← bts_len, bts_mk, List.length_map]
theorem drop48 : ∀ l : List UInt8, (l.dropWhile (· == 48)).map (fun b => (b.toNat : Int)) = (l.map fun b => (b.toNat : Int)).dropWhile (fun c => c == 48)
  | [] => rfl
  | b :: l => by
    have e1 : (b = 48) ↔ ((b.toNat : Int) = 48) := by rw [← UInt8.toNat_inj]; simp; omega
    rw [List.map_cons, List.dropWhile_cons, List.dropWhile_cons]
    by_cases h : (b.toNat : Int) = 48
    · rw [if_pos (by simpa using e1.2 h), if_pos (by simpa using h), drop48 l]
    · rw [if_neg (by simpa using fun e => h (e1.1 e)), if_neg (by simpa using h), List.map_cons]
theorem trimR_bts (l : List UInt8) : (Lib.trimRightB l 48).map (fun b => (b.toNat : Int)) = trimZ (l.map fun b => (b.toNat : Int)) := by
  unfold Lib.trimRightB trimZ
  rw [List.map_reverse, drop48, List.map_reverse]
theorem trimL_bts (l : List UInt8) : (Lib.trimLeftB l 48).map (fun b => (b.toNat : Int)) = hdZ (l.map fun b => (b.toNat : Int)) := drop48 l
theorem rune_cells {c : Int} (h : 0 ≤ c ∧ c < 128) : Lib.runeCells c = [.int .u8 c] := by
  unfold Lib.runeCells
  rw [Lib.encodeRuneZ_one (by omega) (by omega)]; rfl
set_option maxRecDepth 20000 in set_option maxHeartbeats 2000000 in
theorem dwhole_any (s : ByteArray) (w : World) (hs : s.size ≤ 3000) (b : List Int) (neg : Bool) (sg l1 dt l2 ep : List Int) (p : Int) (h : Spl b neg sg l1 dt l2 ep p) (hb : bts s = sg ++ (l1 ++ (dt ++ l2))) : Calls Tryd.prog 36 #[.string s] w fun e w' => ∃ d z, e = .returned (.tuple #[.string d, .int .i64 z]) ∧ bts d = hdZ (trimZ (l1 ++ l2)) ∧ z = ((l1 ++ l2).length : Int) - (trimZ (l1 ++ l2)).length - (l2.length : Nat) ∧ IsGr w w' := by
  obtain ⟨t, ht⟩ := whF_spl h
  rw [← hb] at ht
  have hasc : Asc (bts s) := fun c hc => by
    refine h.asc c ?_
    rw [h.eq]
    rw [hb] at hc
    simp only [List.mem_append] at hc ⊢
    rcases hc with hc | hc | hc | hc
    · exact Or.inl hc
    · exact Or.inr (Or.inl hc)
    · exact Or.inr (Or.inr (Or.inl hc))
    · exact Or.inr (Or.inr (Or.inr (Or.inl hc)))
  have hL : Dgs (l1 ++ l2) := h.d1.app h.d2
  have HS : Hid (s.size ≤ 3000 ∧ Asc (bts s) ∧ whF ([], 0, false) (bts s) = (l1 ++ l2, l2.length, t) ∧ Dgs (l1 ++ l2)) := ⟨hs, hasc, ht, hL⟩
  clear h hb ht hs hasc hL
  obtain ⟨L, hLe⟩ : ∃ L, l1 ++ l2 = L := ⟨_, rfl⟩
  obtain ⟨m, hm⟩ : ∃ m, l2.length = m := ⟨_, rfl⟩
  rw [hLe, hm] at HS ⊢
  clear hLe hm
  go_enter Tryd.func36, Tryd.ntmps36
  go_wp2_with fail
  go_loopg [5, 6] s.size (fun r p5 p6 wr => ∃ (i : Nat) (X : List Int) (n : Nat) (pt : Bool), i + r = s.size ∧ Hid (whF ([], 0, false) ((bts s).take i) = (X, n, pt)) ∧ p5 = .int .i64 (n : Int) ∧ p6 = .bool pt ∧ Lib.IsBuilderF 75 5 w.heap.size w.heap.size (dcs X) wr ∧ wr.heap[w.heap.size + 1]? = some (.stringIter s i) ∧ Below w.heap.size w wr)
  case atStart =>
    refine ⟨0, [], 0, false, by omega, rfl, rfl, rfl, (Lib.IsBuilderF.of (Lib.fresh_isBuilder 75 5 w)).alloc _, ?_, ((Below.refl _ w).alloc (Nat.le_refl _) _).alloc (by simp) _⟩
    have := World.iter_heap (w.alloc (.cells #[.pointer none, .slice none 0 0] 75)) s 0
    simpa using this
  case round =>
    obtain ⟨i, X, n, pt, hk, HX, rfl, rfl, hI, hit, hbw⟩ := hrel
    have hsz : w.heap.size + 1 < wr.heap.size := (Array.getElem?_eq_some_iff.1 hit).1
    by_cases hp : i < s.size
    · have hA := HS.out.2.1.at hp
      have hnx := fun ty => Lib.run_next_ascii_at (P := Tryd.prog) wr (w.heap.size + 1) s i ty hit hp hA
      have hit2 := Lib.iterAt_heap wr (w.heap.size + 1) s i (i + 1) hit
      have hI2 := hI.iterAt hit (i + 1)
      have hbw2 := Lib.below_iterAt hbw (k := w.heap.size + 1) (by omega) s (i + 1)
      have hsz2 : w.heap.size ≤ (wr.iterAt (w.heap.size + 1) s (i + 1)).heap.size := by rw [Lib.iterAt_size]; omega
      have hT := take_at hp
      have hlen := whF_lists ((bts s).take i) [] 0 false
      rw [HX.out] at hlen
      have hti : ((bts s).take i).length ≤ s.size := by rw [List.length_take, bts_len]; omega
      simp only [List.length_nil, Nat.zero_add] at hlen
      obtain ⟨c, hc⟩ : ∃ c : Int, ((s[i]'hp).toNat : Int) = c := ⟨_, rfl⟩
      rw [hc] at hnx hT
      have hcr : 0 ≤ c ∧ c < 128 := by omega
      have HC : Hid (whF ([], 0, false) ((bts s).take (i + 1)) = wh1 (X, n, pt) c) := by show _ = _; rw [hT, whF_snoc, HX.out]
      obtain ⟨W2, hW2⟩ : ∃ W2, wr.iterAt (w.heap.size + 1) s (i + 1) = W2 := ⟨_, rfl⟩
      rw [hW2] at hnx hit2 hbw2 hI2 hsz2
      have hln : n ≤ 3000 ∧ X.length ≤ 3000 := by have := HS.out.1; omega
      clear hT hc hA hit hbw hW2 HX hI hlen hti
      by_cases h46 : c = 46
      · subst h46
        go_wp2_with fail
        go_roundg (s.size - (i + 1))
        case measure => omega
        case rel =>
          exact ⟨i + 1, X, n, true, by omega, HC.out, rfl, rfl, hI2, hit2, hbw2⟩
      · have q46 : (c == 46) = false := by simpa using h46
        cases hd : dgB c with
        | true =>
          have e1 : IntKind.i64.wrap ((n : Int) + 1) = (n : Int) + 1 := by rw [IntKind.wrap_i64]; omega
          have CW := Tryd.Builder_WriteRune_k w.heap.size w.heap.size _ c (by omega) (by omega) _ hI2 (by rw [dcs_len]; omega) hsz2
          rw [rune_cells hcr, ← dcs_snoc] at CW
          cases pt with
          | true =>
            have HC' : Hid (whF ([], 0, false) ((bts s).take (i + 1)) = (X ++ [c], n + 1, true)) := by show _ = _; rw [HC.out]; unfold wh1; rw [if_neg h46, if_pos hd]; rfl
            clear h46 HC
            go_wp2_with fail
            refine (ddigit_any c _).mono ?_
            rintro e w2 ⟨rfl, rfl⟩
            rw [hd]
            go_wp2_with fail
            refine CW.mono ?_
            clear CW
            rintro e w3 ⟨rfl, hB, hb3, hk3⟩
            go_wp2_with fail
            go_roundg (s.size - (i + 1))
            case measure => omega
            case rel =>
              exact ⟨i + 1, X ++ [c], n + 1, true, by omega, HC'.out, rfl, rfl, Or.inr hB, hk3.iter hit2 (by omega), hbw2.trans hb3⟩
          | false =>
            have HC' : Hid (whF ([], 0, false) ((bts s).take (i + 1)) = (X ++ [c], n, false)) := by show _ = _; rw [HC.out]; unfold wh1; rw [if_neg h46, if_pos hd]; rfl
            clear h46 HC
            go_wp2_with fail
            refine (ddigit_any c _).mono ?_
            rintro e w2 ⟨rfl, rfl⟩
            rw [hd]
            go_wp2_with fail
            refine CW.mono ?_
            clear CW
            rintro e w3 ⟨rfl, hB, hb3, hk3⟩
            go_wp2_with fail
            go_roundg (s.size - (i + 1))
            case measure => omega
            case rel =>
              exact ⟨i + 1, X ++ [c], n, false, by omega, HC'.out, rfl, rfl, Or.inr hB, hk3.iter hit2 (by omega), hbw2.trans hb3⟩
        | false =>
          have HC' : Hid (whF ([], 0, false) ((bts s).take (i + 1)) = (X, n, pt)) := by show _ = _; rw [HC.out]; unfold wh1; rw [if_neg h46, hd]; rfl
          clear h46 HC
          go_wp2_with fail
          refine (ddigit_any c _).mono ?_
          rintro e w2 ⟨rfl, rfl⟩
          rw [hd]
          go_wp2_with fail
          go_roundg (s.size - (i + 1))
          case measure => omega
          case rel =>
            exact ⟨i + 1, X, n, pt, by omega, HC'.out, rfl, rfl, hI2, hit2, hbw2⟩
    · have hnx := fun ty => Lib.run_next_end_at (P := Tryd.prog) wr (w.heap.size + 1) s i ty hit hp
      have hX : X = L ∧ n = m := by
        have h1 := HX.out
        rw [List.take_of_length_le (by rw [bts_len]; omega), HS.out.2.2.1] at h1
        injection h1 with h1 h2
        injection h2 with h2 h3
        exact ⟨h1.symm, h2.symm⟩
      obtain ⟨rfl, rfl⟩ := hX
      have hrg : ∀ c ∈ X, 0 ≤ c ∧ c < 256 := fun c hc => by have := dg_range (HS.out.2.2.2 c hc); omega
      have hlen := whF_lists (bts s) [] 0 false
      rw [HS.out.2.2.1] at hlen
      simp only [List.length_nil, Nat.zero_add, bts_len] at hlen
      have hln : n ≤ 3000 ∧ X.length ≤ 3000 := by have := HS.out.1; omega
      rw [dcs_bytes hrg] at hI
      have CS := Tryd.Builder_String_any_k w.heap.size w.heap.size (u8s X) _ hI (by omega)
      have hR : bts { data := (Lib.trimRightB (ByteArray.mk (u8s X).toArray).data.toList 48).toArray } = trimZ X := by
        rw [bts_mk, trimR_bts]
        rw [show (ByteArray.mk (u8s X).toArray).data.toList = u8s X from rfl, u8s_back hrg]
      have hR2 : ({ data := (Lib.trimRightB (ByteArray.mk (u8s X).toArray).data.toList 48).toArray } : ByteArray).size = (trimZ X).length := by rw [← bts_len, hR]
      have htl : (trimZ X).length ≤ X.length := by
        obtain ⟨z, hz, _⟩ := trimZ_spec X
        have := congrArg List.length hz
        rw [List.length_append] at this; omega
      have CR := fun w => Tryd.strings_TrimRight_one { data := (u8s X).toArray } 48 (by decide) w (by rw [size_mk]; unfold u8s; rw [List.length_map]; omega)
      obtain ⟨kp, hkp⟩ : ∃ kp, ({ data := (Lib.trimRightB (ByteArray.mk (u8s X).toArray).data.toList 48).toArray } : ByteArray) = kp := ⟨_, rfl⟩
      rw [hkp] at CR hR hR2
      have CL := fun w => Tryd.strings_TrimLeft_one kp 48 (by decide) w
      have hD : bts { data := (Lib.trimLeftB kp.data.toList 48).toArray } = hdZ (trimZ X) := by
        rw [bts_mk, trimL_bts, ← hR]; rfl
      obtain ⟨dd, hdd⟩ : ∃ dd, ({ data := (Lib.trimLeftB kp.data.toList 48).toArray } : ByteArray) = dd := ⟨_, rfl⟩
      rw [hdd] at CL hD
      have CN := fun w' (hw : Lib.IsBuilderF 75 5 w.heap.size w.heap.size (Lib.byteCells (u8s X)) w') => Tryd.Builder_Len_f w.heap.size w.heap.size (Lib.byteCells (u8s X)) w' hw
      rw [← dcs_bytes hrg, dcs_len] at CN
      have HD : Hid (bts dd = hdZ (trimZ X)) := hD
      have e1 : IntKind.i64.wrap ((X.length : Int) - kp.size) = (X.length : Int) - kp.size := by rw [IntKind.wrap_i64]; omega
      have e2 : IntKind.i64.wrap ((X.length : Int) - kp.size - n) = (X.length : Int) - kp.size - n := by rw [IntKind.wrap_i64]; omega
      clear HX hrg hlen hR hkp hD hdd
      go_wp2_with fail
      refine CS.mono ?_
      clear CS
      rintro e w1 ⟨rfl, hI1, hb1, hk1⟩
      go_wp2_with fail
      refine (CR _).mono ?_
      clear CR
      rintro e w2 ⟨rfl, hw2⟩
      obtain rfl := hw2.symm
      go_wp2_with fail
      refine (CL _).mono ?_
      clear CL
      rintro e w3 ⟨rfl, hw3⟩
      obtain rfl := hw3.symm
      go_wp2_with fail
      refine (CN _ (dcs_bytes (fun c hc => by have := dg_range (HS.out.2.2.2 c hc); omega) ▸ hI1)).mono ?_
      rintro e w4 ⟨rfl, hw4⟩
      obtain rfl := hw4.symm
      go_wp2_with fail
      exact bodyPost_ret (v := .tuple #[.string dd, .int .i64 ((X.length : Int) - (trimZ X).length - n)]) (by simp [results, Tryd.results36, go_sem]) rfl ⟨dd, _, rfl, HD.out, rfl, IsGr.of_below (hbw.trans hb1)⟩
end Go.Proofs.YtfpifbfnebfdaaaDoor
