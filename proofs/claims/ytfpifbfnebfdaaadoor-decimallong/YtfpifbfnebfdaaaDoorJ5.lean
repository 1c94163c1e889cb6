/- Package decimal over the loaded program: Digits. -/
import Derived.Test.YtfpifbfnebfdaaaDoorJ4
import Derived.Test.YtfpifbfnebfdaaaDoorD4
import Derived.Test.YtfpifbfnebfdaaaDoorI10
namespace Go.Proofs.YtfpifbfnebfdaaaDoor
open Go.RowKit Go.Shelf
attribute [local go_sem] Gr.size Gr.cell? Gr.frozen? Gr.setCell Gr.drew Gr.drewN Gr.of_drew Gr.of_drewN Gr.gr Gr.lt_of1 Gr.le_of1 Gr.lt_of2 Gr.le_of2 Gr.lt_of3 Gr.le_of3 Gr.lt_of4 Gr.le_of4 Gr.lt_of5 Gr.le_of5 Gr.lt_of6 Gr.le_of6 Gr.lt_of7 Gr.le_of7 Gr.lt_of8 Gr.le_of8 Gr.lt_of9 Gr.le_of9 Gr.lt_of10 Gr.le_of10 Gr.lt_of11 Gr.le_of11 Gr.lt_of12 Gr.le_of12 Gr.lt_of13 Gr.le_of13 Gr.lt_of14 Gr.le_of14 Gr.lt_of15 Gr.le_of15 Gr.lt_of16 Gr.le_of16 Gr.lt_of17 Gr.le_of17 Gr.lt_of18 Gr.le_of18 Gr.lt_of19 Gr.le_of19 Gr.lt_of20 Gr.le_of20 Gr.lt_of21 Gr.le_of21 Gr.lt_of22 Gr.le_of22 Gr.lt_of23 Gr.le_of23 Gr.lt_of24 Gr.le_of24
theorem sgI_pos {neg : Bool} {x : Int} (h : 0 < x) : sgI neg x ≠ 0 ∧ neg = decide (sgI neg x < 0) ∧ ((sgI neg x).natAbs : Int) = x := by
  unfold sgI
  cases neg
  · rw [if_neg (by simp)]
    exact ⟨by omega, (decide_eq_false (by omega)).symm, by omega⟩
  · rw [if_pos rfl]
    exact ⟨by omega, (decide_eq_true (by omega)).symm, by omega⟩
/-- A power, told no further than 2^40. -/
def clI (z : Int) : Int := if z < -1099511627776 then -1099511627776 else if 1099511627776 < z then 1099511627776 else z
theorem Spl.first {b : List Int} {neg : Bool} {sg l1 dt l2 ep : List Int} {p : Int} (h : Spl b neg sg l1 dt l2 ep p) : 0 < b.length ∧ (b.getD 0 0 == 45) = neg := by
  have hb := h.eq
  rcases h.sign with ⟨rfl, rfl⟩ | ⟨rfl, rfl⟩ | ⟨rfl, rfl⟩
  · rw [List.nil_append] at hb
    rw [hb]
    cases l1 with
    | cons c l1 =>
      have := dg_range (h.d1 c (by simp))
      refine ⟨by simp, ?_⟩
      simp; omega
    | nil =>
      rcases h.dot with ⟨rfl, rfl⟩ | rfl
      · exact absurd rfl h.some
      · exact ⟨by simp, rfl⟩
  · rw [hb]; exact ⟨by simp, rfl⟩
  · rw [hb]; exact ⟨by simp, rfl⟩
set_option maxRecDepth 20000 in set_option maxHeartbeats 2000000 in
theorem ddigits_no (s : ByteArray) (w : World) (hs : s.size ≤ 3000) (hr : rgtB (bts s) = false) : Calls Tryd.prog 19 #[.string s] w fun e w' => e = .returned (.tuple #[.string { data := #[] }, .int .i64 0, .bool false, .bool false]) ∧ IsGr w w' := by
  have CR := lright_any s w (by omega)
  rw [hr] at CR
  clear hs hr
  go_enter Tryd.func19, Tryd.ntmps19
  go_wp2_with fail
  refine CR.mono ?_
  rintro e w1 ⟨rfl, hg⟩
  go_wp2_with fail
  exact bodyPost_ret (v := .tuple #[.string { data := #[] }, .int .i64 0, .bool false, .bool false]) (by simp [results, Tryd.results19, go_sem]) rfl ⟨rfl, hg⟩
set_option maxRecDepth 20000 in set_option maxHeartbeats 2000000 in
theorem ddigits_ok (s : ByteArray) (w : World) (M E : Int) (hs : s.size ≤ 3000) (hN : NumIs (bts s) M E) : Calls Tryd.prog 19 #[.string s] w fun e w' => ∃ d p below, e = .returned (.tuple #[.string d, .int .i64 p, .bool below, .bool true]) ∧ DgR M E (bts d) p below ∧ d.size ≤ s.size ∧ IsGr w w' := by
  obtain ⟨neg, sg, l1, dt, l2, ep, p, h, hM, hE⟩ := hN
  have hL : Dgs (l1 ++ l2) := h.d1.app h.d2
  have hlen := congrArg List.length h.eq
  simp only [List.length_append, bts_len] at hlen
  have hepl : ep.tail.length ≤ ep.length := by rw [List.length_tail]; omega
  have hasc := h.asc
  have CR := lright_any s w (by omega)
  rw [h.right] at CR
  have CH := fun w => dhalves_any s w hs neg sg l1 dt l2 ep p h
  have CW := fun s1 (hb : bts s1 = sg ++ (l1 ++ (dt ++ l2))) w => dwhole_any s1 w (by rw [← bts_len, hb]; simp only [List.length_append]; omega) (bts s) neg sg l1 dt l2 ep p h hb
  have CN : ∀ s2, bts s2 = ep.tail → ∀ w, Calls Tryd.prog 37 #[.string s2] w fun e w' => e = .returned (.int .i64 (wrI ep.tail)) ∧ IsGr w w' := fun s2 hb w => by
    have := dwritten_any s2 w (by rw [← bts_len, hb]; omega) (by rw [hb]; intro c hc; refine hasc c ?_; rw [h.eq]; simp only [List.mem_append]; exact Or.inr (Or.inr (Or.inr (Or.inr (List.mem_of_mem_tail hc)))))
    rw [hb] at this; exact this
  have hwr := wrI_spl h
  obtain ⟨hf0, hneg⟩ := h.first
  rw [bts_len] at hf0
  have hat := bts_at hf0
  have hts := trim_spec hL
  have htl : (trimZ (l1 ++ l2)).length ≤ (l1 ++ l2).length := by
    obtain ⟨z, hz, _⟩ := trimZ_spec (l1 ++ l2)
    have := congrArg List.length hz
    rw [List.length_append (bs := List.replicate z 48)] at this; omega
  have hll : (l1 ++ l2).length = l1.length + l2.length := List.length_append
  rw [hat] at hneg
  obtain ⟨c0, hc0⟩ : ∃ c0 : Int, ((s[0]'hf0).toNat : Int) = c0 := ⟨_, rfl⟩
  rw [hc0] at hneg hat
  obtain ⟨L, hLe⟩ : ∃ L, l1 ++ l2 = L := ⟨_, rfl⟩
  obtain ⟨k2, hk2⟩ : ∃ k2, l2.length = k2 := ⟨_, rfl⟩
  rw [hLe] at hM hts htl hll CW
  rw [hk2] at hE hll CW
  have hwq : -1125899906842624 ≤ wrI ep.tail ∧ wrI ep.tail ≤ 1125899906842624 := by omega
  obtain ⟨q, hq⟩ : ∃ q, wrI ep.tail = q := ⟨_, rfl⟩
  obtain ⟨z, hz⟩ : ∃ z, (L.length : Int) - (trimZ L).length - (k2 : Nat) = z := ⟨_, rfl⟩
  have hf0' : (0 : Int) < s.size := by omega
  rcases hts with ⟨t1, t2⟩ | ⟨t1, t2, t3, t4, t5, -, t6⟩
  · have HR : Hid (DgR M E [] 0 false) := Or.inl ⟨by rw [hM, t1]; unfold sgI; split <;> rfl, rfl, rfl, rfl⟩
    clear hL hlen hepl hasc h hwr hat hneg hM hE hLe hk2 hwq hq hll htl CN t1 hc0
    go_enter Tryd.func19, Tryd.ntmps19
    go_wp2_with fail
    refine CR.mono ?_
    clear CR
    rintro e w1 ⟨rfl, hg1⟩
    go_wp2_with fail
    refine (CH _).mono ?_
    clear CH
    rintro e w2 ⟨s1, s2, rfl, hb1, hb2, hg2⟩
    have HG2 : Hid (IsGr w w2) := hg1.trans hg2
    clear hg1 hg2
    go_wp2_with fail
    refine (CW s1 hb1 _).mono ?_
    clear CW
    rintro e w3 ⟨d, z3, rfl, hd, hz3, hg3⟩
    rw [t2] at hd
    obtain rfl : d = { data := #[] } := bts_inj hd
    clear hd hz3 hb1 hb2 hz
    go_wp2_with fail
    exact bodyPost_ret (v := .tuple #[.string { data := #[] }, .int .i64 0, .bool false, .bool true]) (by simp [results, Tryd.results19, go_sem]) rfl ⟨_, _, _, rfl, HR.out, Nat.zero_le _, HG2.out.trans hg3⟩
  · have e1 : IntKind.i64.wrap (z + q) = z + q := by rw [IntKind.wrap_i64]; omega
    have hp : clI (E + (L.length - (trimZ L).length : Nat)) = clI (z + q) := by
      unfold clI
      repeat' split
      all_goals omega
    have HR : Hid (DgR M E (hdZ (trimZ L)) (clI (z + q)) neg) := by
      obtain ⟨m1, m2, m3⟩ := sgI_pos (neg := neg) t1
      rw [← hM] at m1 m2 m3
      refine Or.inr ⟨m1, t2, t3, t4, t5, m2, L.length - (trimZ L).length, by rw [t6, m3], ?_⟩
      rw [← hp]; rfl
    have hdl : (hdZ (trimZ L)).length ≤ s.size := by
      obtain ⟨_, _, z2, h3⟩ := hdZ_spec (trimZ L)
      have := congrArg List.length h3
      rw [List.length_append] at this
      omega
    have hdp : 0 < (hdZ (trimZ L)).length := List.length_pos_iff.2 t3
    have HMX : Hid (clI (z + q) = max (-1099511627776) (min (z + q) 1099511627776)) := by show _ = _; unfold clI; omega
    rw [HMX.out] at HR
    rw [hz] at CW
    rw [hq] at CN
    clear hL hlen hepl hasc h hwr hat hM hE hLe hk2 hwq hq hll htl t1 t2 t3 t4 t5 t6 hp
    go_enter Tryd.func19, Tryd.ntmps19
    go_wp2_with fail
    refine CR.mono ?_
    clear CR
    rintro e w1 ⟨rfl, hg1⟩
    go_wp2_with fail
    refine (CH _).mono ?_
    clear CH
    rintro e w2 ⟨s1, s2, rfl, hb1, hb2, hg2⟩
    have HG2 : Hid (IsGr w w2) := hg1.trans hg2
    clear hg1 hg2
    go_wp2_with fail
    refine (CW s1 hb1 _).mono ?_
    clear CW
    rintro e w3 ⟨d, z3, rfl, hd, hz3, hg3⟩
    obtain rfl := hz3
    have HG3 : Hid (IsGr w w3) := HG2.out.trans hg3
    have hds : d.size = (hdZ (trimZ L)).length := by rw [← bts_len, hd]
    have HD : Hid (bts d = hdZ (trimZ L) ∧ d.size ≤ s.size) := ⟨hd, by omega⟩
    have hne := emp_ne (s := d) (by omega)
    clear hd hds hdl hdp HG2 hg3
    go_wp2_with fail
    refine (CN s2 hb2 _).mono ?_
    rintro e w4 ⟨rfl, hg4⟩
    have HG4 : Hid (IsGr w w4) := HG3.out.trans hg4
    clear hg4 HG3 CN HMX hb1 hb2
    go_upto_region 8 with fail
    go_quiet (fail)
    go_wp2_with fail
    exact bodyPost_ret (v := .tuple #[.string d, .int .i64 (max (-1099511627776) (min (z3 + q) 1099511627776)), .bool neg, .bool true]) (by simp [results, Tryd.results19, go_sem]) rfl ⟨_, _, _, rfl, by rw [HD.out.1]; exact HR.out, HD.out.2, HG4.out.trans (by with_reducible repeat (first | exact IsGr.refl _ | refine IsGr.gr ?_ _ _ | refine IsGr.alloc ?_ _ | refine IsGr.drew ?_ | refine IsGr.drewN ?_ _))⟩
end Go.Proofs.YtfpifbfnebfdaaaDoor
