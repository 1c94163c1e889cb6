/- Package lex over the loaded program: a token's text, and in great letters. -/
import Derived.Test.YtpgcfnpnpmpkeaaD4
import Derived.Test.YtpgcfnpnpmpkeaaC4
import Derived.Lib.ConvBytes
namespace Go.Proofs.Ytpgcfnpnpmpkeaa
open Go.RowKit Go.Shelf
attribute [local go_sem] Gr.size Gr.cell? Gr.frozen? Gr.setCell Gr.drew Gr.drewN Gr.of_drew Gr.of_drewN Gr.gr Gr.lt_of1 Gr.le_of1 Gr.lt_of2 Gr.le_of2 Gr.lt_of3 Gr.le_of3 Gr.lt_of4 Gr.le_of4 Gr.lt_of5 Gr.le_of5 Gr.lt_of6 Gr.le_of6 Gr.lt_of7 Gr.le_of7 Gr.lt_of8 Gr.le_of8 Gr.lt_of9 Gr.le_of9 Gr.lt_of10 Gr.le_of10 Gr.lt_of11 Gr.le_of11 Gr.lt_of12 Gr.le_of12 Gr.lt_of13 Gr.le_of13 Gr.lt_of14 Gr.le_of14 Gr.lt_of15 Gr.le_of15 Gr.lt_of16 Gr.le_of16 Gr.lt_of17 Gr.le_of17 Gr.lt_of18 Gr.le_of18 Gr.lt_of19 Gr.le_of19 Gr.lt_of20 Gr.le_of20 Gr.lt_of21 Gr.le_of21 Gr.lt_of22 Gr.le_of22 Gr.lt_of23 Gr.le_of23 Gr.lt_of24 Gr.le_of24
set_option maxRecDepth 20000 in set_option maxHeartbeats 2000000 in
theorem ltext_any (k i j : Int) (s : ByteArray) (w : World) : Calls Try.prog 10 #[.agg #[.int .i64 k, .int .i64 i, .int .i64 j], .string s] w fun e w' => e = .returned (.string (txtOf s i j)) ∧ IsGr w w' := by
  by_cases h1 : i < 0
  · have HE : Hid (txtOf s i j = ByteArray.empty) := by show _ = _; unfold txtOf; rw [if_neg (by omega)]
    go_enter Try.func10, Try.ntmps10
    go_wp2_with fail
    go_ret
    exact ⟨congrArg (fun z => Ending.returned (.string z)) HE.out.symm, (by with_reducible repeat (first | exact IsGr.refl _ | refine IsGr.gr ?_ _ _ | refine IsGr.alloc ?_ _ | refine IsGr.drew ?_ | refine IsGr.drewN ?_ _))⟩
  · by_cases h2 : j < i
    · have HE : Hid (txtOf s i j = ByteArray.empty) := by show _ = _; unfold txtOf; rw [if_neg (by omega)]
      go_enter Try.func10, Try.ntmps10
      go_wp2_with fail
      go_ret
      exact ⟨congrArg (fun z => Ending.returned (.string z)) HE.out.symm, (by with_reducible repeat (first | exact IsGr.refl _ | refine IsGr.gr ?_ _ _ | refine IsGr.alloc ?_ _ | refine IsGr.drew ?_ | refine IsGr.drewN ?_ _))⟩
    · by_cases h3 : (s.size : Int) < j
      · have HE : Hid (txtOf s i j = ByteArray.empty) := by show _ = _; unfold txtOf; rw [if_neg (by omega)]
        go_enter Try.func10, Try.ntmps10
        go_wp2_with fail
        go_ret
        exact ⟨congrArg (fun z => Ending.returned (.string z)) HE.out.symm, (by with_reducible repeat (first | exact IsGr.refl _ | refine IsGr.gr ?_ _ _ | refine IsGr.alloc ?_ _ | refine IsGr.drew ?_ | refine IsGr.drewN ?_ _))⟩
      · have HE : Hid (txtOf s i j = s.extract i.toNat j.toNat) := by show _ = _; unfold txtOf; rw [if_pos (by omega)]
        obtain ⟨m, rfl⟩ : ∃ m : Nat, i = (m : Int) := ⟨i.toNat, by omega⟩
        obtain ⟨n, rfl⟩ : ∃ n : Nat, j = (n : Int) := ⟨j.toNat, by omega⟩
        simp only [Int.toNat_natCast] at HE
        have h2' : (m : Int) ≤ n := by omega
        have h3' : (n : Int) ≤ s.size := by omega
        go_enter Try.func10, Try.ntmps10
        go_wp2_with fail
        go_ret
        exact ⟨congrArg (fun z => Ending.returned (.string z)) HE.out.symm, (by with_reducible repeat (first | exact IsGr.refl _ | refine IsGr.gr ?_ _ _ | refine IsGr.alloc ?_ _ | refine IsGr.drew ?_ | refine IsGr.drewN ?_ _))⟩
/-- Bytes in a block: the first i as told by f, the rest as in l. -/
def RwB (W : World) (g i : Nat) (l : List Int) : Prop := ∀ j, j < l.length → W.cell? ⟨g, j, none⟩ = some (.int .u8 (if j < i then upB (l.getD j 0) else l.getD j 0)) ∧ W.frozen? ⟨g, j, none⟩ = false
theorem bw_below (w : World) (s : ByteArray) : Below w.heap.size w (Go.Lib.bytesWorld w 5 s) := by
  have h := (((IsGr.refl w).drew).alloc (.cells (Go.Lib.bytesCells w 5 s) 5)).below
  exact ⟨h.os, h.tape, h.output, by rw [Go.Lib.bytesWorld_size]; omega, fun k hk => Go.Lib.bytesWorld_at_old _ _ _ _ hk⟩
theorem bw_row (w : World) (s : ByteArray) : RwB (Go.Lib.bytesWorld w 5 s) w.heap.size 0 (bts s) := fun j hj => by
  rw [bts_len] at hj
  rw [if_neg (by omega)]
  refine ⟨(Go.Lib.bytesWorld_cell w 5 s j hj).trans ?_, ?_⟩
  · unfold bts
    simp [List.getD_eq_getElem?_getD]
    cases h : s.data[j]? with
    | none =>
      have := Array.getElem?_eq_none_iff.1 h
      have h2 : s.size = s.data.size := rfl
      omega
    | some b => rfl
  · have h1 : j < (Go.Lib.bytesCells w 5 s).size := by
      unfold Go.Lib.bytesCells
      rw [Array.size_append, Array.size_map]
      have h2 : s.size = s.data.size := rfl
      omega
    simp [World.frozen?, Go.Lib.bytesWorld_at_new]
    omega
theorem RwB.set {W : World} {g i : Nat} {l : List Int} (h : RwB W g i l) (hi : i < l.length) : RwB (W.setCell ⟨g, i, none⟩ (.int .u8 (upB (l.getD i 0)))) g (i + 1) l := fun j hj => by
  rw [World.frozen?_setCell]
  refine ⟨?_, (h j hj).2⟩
  by_cases hji : j = i
  · subst hji
    rw [World.cell?_setCell_same' _ _ _ (by rw [(h j hj).1]; rfl), if_pos (by omega)]
  · have hne : (⟨g, i, none⟩ : Addr) ≠ ⟨g, j, none⟩ := fun e => hji (by injection e with _ e2; exact e2.symm)
    rw [World.cell?_setCell_other _ _ _ _ hne, (h j hj).1]
    by_cases h1 : j < i
    · rw [if_pos h1, if_pos (by omega)]
    · rw [if_neg h1, if_neg (by omega)]
theorem RwB.same {W : World} {g i : Nat} {l : List Int} (h : RwB W g i l) (hi : upB (l.getD i 0) = l.getD i 0) : RwB W g (i + 1) l := fun j hj => by
  refine ⟨(h j hj).1.trans ?_, (h j hj).2⟩
  by_cases hji : j = i
  · subst hji
    rw [if_neg (by omega), if_pos (by omega), hi]
  · by_cases h1 : j < i
    · rw [if_pos h1, if_pos (by omega)]
    · rw [if_neg h1, if_neg (by omega)]
theorem RwB.conv {W : World} {g c : Nat} {l : List Int} (h : RwB W g l.length l) : (convert 49 9 (.slice (some ⟨g, 0, none⟩) l.length c)).run Try.prog W = .ok (.string (strOfNums (upL l))) W := by
  refine run_convert_bytes_arg W 49 5 Try.underlying49 Try.underlying5 g 0 _ c (upL l) (upL_len l) (fun i hi => ?_) 9 Try.underlying9
  rw [Nat.zero_add, (h i hi).1, if_pos hi]
  congr 2
  simp [upL, List.getD, hi]
set_option maxRecDepth 20000 in set_option maxHeartbeats 2000000 in
theorem lUpper_any (s : ByteArray) (w : World) (hs : s.size ≤ 100000) : Calls Try.prog 13 #[.string s] w fun e w' => e = .returned (.string (strOfNums (upL (bts s)))) ∧ IsGr w w' := by
  have hcv := Go.Lib.run_convert_string_bytes (P := Try.prog) w 9 49 5 s Try.underlying9 Try.underlying49 Try.underlying5
  have hr := bw_row w s
  have hb := bw_below w s
  have HS : Hid (s.size ≤ 100000) := hs
  obtain ⟨cp, hcp⟩ : ∃ cp, grownCap w s.size 0 5 = cp := ⟨_, rfl⟩
  obtain ⟨wb, hwb⟩ : ∃ wb, Go.Lib.bytesWorld w 5 s = wb := ⟨_, rfl⟩
  rw [hcp, hwb] at hcv
  rw [hwb] at hr hb
  have HR : Hid (RwB wb w.heap.size 0 (bts s) ∧ Below w.heap.size w wb) := ⟨hr, hb⟩
  clear hs hcp hwb hr hb
  go_enter Try.func13, Try.ntmps13
  go_wp2_with fail
  go_loopg [10] s.size (fun r p10 wr => ∃ i : Nat, i + r = s.size ∧ p10 = .int .i64 i ∧ Hid (RwB wr w.heap.size i (bts s) ∧ Below w.heap.size w wr))
  case atStart => exact ⟨0, by omega, rfl, HR.out⟩
  case round =>
    obtain ⟨i, hk, rfl, HI⟩ := hrel
    by_cases hi : i < s.size
    · obtain ⟨hc1, hc2⟩ := HI.out.1 i (by rw [bts_len]; exact hi)
      rw [if_neg (by omega)] at hc1
      have hrg := bts_get s i
      obtain ⟨c, hc⟩ : ∃ c : Int, (bts s).getD i 0 = c := ⟨_, rfl⟩
      have HC : Hid ((bts s).getD i 0 = c) := hc
      rw [hc] at hc1 hrg
      have hi' : (i : Int) < s.size := by omega
      have e1 : IntKind.i64.wrap ((i : Int) + 1) = (i : Int) + 1 := by rw [IntKind.wrap_i64]; have := HS.out; omega
      clear hc
      by_cases hab : 97 ≤ c ∧ c ≤ 122
      · have HU : Hid (upB c = c - 97 + 65) := by show _ = _; unfold upB; rw [if_pos hab]; omega
        obtain ⟨h1, h2⟩ := hab
        have e2 : IntKind.u8.wrap (c - 97) = c - 97 := by rw [IntKind.wrap_u8]; omega
        have e3 : IntKind.u8.wrap (c - 97 + 65) = c - 97 + 65 := by rw [IntKind.wrap_u8]; omega
        have HN : Hid (RwB (wr.setCell ⟨w.heap.size, i, none⟩ (.int .u8 (c - 97 + 65))) w.heap.size (i + 1) (bts s) ∧ Below w.heap.size w (wr.setCell ⟨w.heap.size, i, none⟩ (.int .u8 (c - 97 + 65)))) := by
          have h3 := HI.out.1.set (by rw [bts_len]; exact hi)
          rw [HC.out, HU.out] at h3
          exact ⟨h3, HI.out.2.setCell (p := ⟨w.heap.size, i, none⟩) (Nat.le_refl _) _⟩
        go_wp2_with fail
        go_roundg (s.size - (i + 1))
        case measure => omega
        case rel => exact ⟨i + 1, by omega, by simp, HN.out⟩
      · have HN : Hid (RwB wr w.heap.size (i + 1) (bts s)) := HI.out.1.same (by rw [HC.out]; unfold upB; rw [if_neg hab])
        by_cases h1 : 97 ≤ c
        · have h2 : ¬ c ≤ 122 := by omega
          clear hab
          go_wp2_with fail
          go_roundg (s.size - (i + 1))
          case measure => omega
          case rel => exact ⟨i + 1, by omega, by simp, HN.out, HI.out.2⟩
        · clear hab
          go_wp2_with fail
          go_roundg (s.size - (i + 1))
          case measure => omega
          case rel => exact ⟨i + 1, by omega, by simp, HN.out, HI.out.2⟩
    · have hi' : ¬ (i : Int) < s.size := by omega
      have CV := fun c => RwB.conv (c := c) (show RwB wr w.heap.size (bts s).length (bts s) by have := HI.out.1; rwa [show i = (bts s).length by rw [bts_len]; omega] at this)
      rw [bts_len] at CV
      go_wp2_with fail
      go_ret
      exact ⟨rfl, IsGr.of_below HI.out.2⟩
set_option maxRecDepth 20000 in set_option maxHeartbeats 2000000 in
theorem lupper_any (k i j : Int) (s : ByteArray) (w : World) (hs : s.size ≤ 100000) : Calls Try.prog 25 #[.agg #[.int .i64 k, .int .i64 i, .int .i64 j], .string s] w fun e w' => e = .returned (.string (if k = 1 then strOfNums (upL (bts (txtOf s i j))) else txtOf s i j)) ∧ IsGr w w' := by
  have CT := fun w => ltext_any k i j s w
  by_cases hk : k = 1
  · subst hk
    rw [if_pos rfl]
    have hz : (txtOf s i j).size ≤ 100000 := by
      unfold txtOf
      split
      · rw [size_extract (by omega)]; omega
      · exact Nat.zero_le _
    have CU := fun w => lUpper_any (txtOf s i j) w hz
    clear hz hs
    go_enter Try.func25, Try.ntmps25
    go_wp2_with fail
    refine (CT _).mono ?_
    clear CT
    rintro e w1 ⟨rfl, hg1⟩
    have HG1 : Hid (IsGr w w1) := IsGr.trans (by with_reducible repeat (first | exact IsGr.refl _ | refine IsGr.gr ?_ _ _ | refine IsGr.alloc ?_ _ | refine IsGr.drew ?_ | refine IsGr.drewN ?_ _)) hg1
    clear hg1
    go_wp2_with fail
    refine (CU _).mono ?_
    clear CU
    rintro e w2 ⟨rfl, hg2⟩
    have HG2 : Hid (IsGr w w2) := HG1.out.trans hg2
    clear hg2
    go_wp2_with fail
    go_ret
    exact ⟨rfl, HG2.out⟩
  · rw [if_neg hk]
    clear hs
    go_enter Try.func25, Try.ntmps25
    go_wp2_with fail
    refine (CT _).mono ?_
    clear CT
    rintro e w1 ⟨rfl, hg1⟩
    have HG1 : Hid (IsGr w w1) := IsGr.trans (by with_reducible repeat (first | exact IsGr.refl _ | refine IsGr.gr ?_ _ _ | refine IsGr.alloc ?_ _ | refine IsGr.drew ?_ | refine IsGr.drewN ?_ _)) hg1
    clear hg1
    go_wp2_with fail
    go_ret
    exact ⟨rfl, HG1.out⟩
end Go.Proofs.Ytpgcfnpnpmpkeaa
