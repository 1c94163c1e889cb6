/- gromalaw10.DecimalTexts, given what package decimal answers. -/
import Derived.Test.YtfpifbfnebfdaaaDoorI14
import Derived.Test.YtfpifbfnebfdaaaDoorI11
namespace Go.Proofs.YtfpifbfnebfdaaaDoor
open Go.RowKit Go.Shelf
attribute [local go_sem] Gr.size Gr.cell? Gr.frozen? Gr.setCell Gr.drew Gr.drewN Gr.of_drew Gr.of_drewN Gr.gr Gr.lt_of1 Gr.le_of1 Gr.lt_of2 Gr.le_of2 Gr.lt_of3 Gr.le_of3 Gr.lt_of4 Gr.le_of4 Gr.lt_of5 Gr.le_of5 Gr.lt_of6 Gr.le_of6 Gr.lt_of7 Gr.le_of7 Gr.lt_of8 Gr.le_of8 Gr.lt_of9 Gr.le_of9 Gr.lt_of10 Gr.le_of10 Gr.lt_of11 Gr.le_of11 Gr.lt_of12 Gr.le_of12 Gr.lt_of13 Gr.le_of13 Gr.lt_of14 Gr.le_of14 Gr.lt_of15 Gr.le_of15 Gr.lt_of16 Gr.le_of16 Gr.lt_of17 Gr.le_of17 Gr.lt_of18 Gr.le_of18 Gr.lt_of19 Gr.le_of19 Gr.lt_of20 Gr.le_of20 Gr.lt_of21 Gr.le_of21 Gr.lt_of22 Gr.le_of22 Gr.lt_of23 Gr.le_of23 Gr.lt_of24 Gr.le_of24
/-- What the law reads of the text of n units, n not 0: at is where its digits begin. -/
structure TxR (n fine : Int) (s : ByteArray) (neg : Bool) (A : Nat) (M : Int) (k : Nat) (d0 cL : Int) : Prop where
  size : s.size ≤ 60
  neg' : neg = decide (n < 0)
  num : ∃ sg l1 dt l2, Spl (bts s) neg sg l1 dt l2 [] 0 ∧ M = sgI neg (dvl (l1 ++ l2)) ∧ l2.length = k
  unit : n = M * 10 ^ (fine.toNat - k) ∧ k ≤ fine.toNat
  first : (neg = true → A = 1 ∧ (bts s).getD 0 0 = 45) ∧ (neg = false → A = 0)
  at0 : (bts s).getD A 0 = d0 ∧ A < s.size ∧ dgB d0 = true
  at1 : d0 = 48 → A + 1 < s.size ∧ (bts s).getD (A + 1) 0 = 46 ∧ 0 < k
  last : (bts s).getD (s.size - 1) 0 = cL ∧ cL ≠ 46 ∧ (0 < k → cL ≠ 48)
theorem getD_app1 {a r : List Int} {k : Nat} : (a ++ r).getD (a.length + k) 0 = r.getD k 0 := by
  simp only [List.getD_eq_getElem?_getD]
  rw [List.getElem?_append_right (by omega), Nat.add_sub_cancel_left]
theorem getD_app0 {a r : List Int} {k : Nat} (hk : k < a.length) : (a ++ r).getD k 0 = a.getD k 0 := by
  simp only [List.getD_eq_getElem?_getD]
  rw [List.getElem?_append_left hk]
theorem getD_mem {a : List Int} {k : Nat} (hk : k < a.length) : a.getD k 0 ∈ a := by
  simp only [List.getD_eq_getElem?_getD, List.getElem?_eq_getElem hk, Option.getD_some]
  exact List.getElem_mem hk
theorem getD_rev {a : List Int} {c : Int} {r : List Int} (h : a.reverse = c :: r) : a.getD (a.length - 1) 0 = c := by
  have h1 := congrArg List.reverse h
  rw [List.reverse_reverse, List.reverse_cons] at h1
  rw [h1]
  simp
theorem txr (n fine : Int) (hf : 0 ≤ fine ∧ fine ≤ 9) (hn : n.natAbs < 10 ^ 20) (hn0 : n ≠ 0) : ∃ neg A M k d0 cL, TxR n fine (strOfNums (textU n fine)) neg A M k d0 cL := by
  obtain ⟨hb, hlen⟩ := textU_bytes n fine hn
  have hbt := bts_of hb
  obtain ⟨hs, ⟨h1, h2⟩, ⟨hl, hh, h10⟩, hne, _⟩ := textU_spl n fine hf hn
  generalize hS : strOfNums (textU n fine) = s at *
  have hsz : s.size = (textU n fine).length := by rw [← bts_len, hbt]
  rw [← hbt] at hs
  generalize hq : n.natAbs / 10 ^ fine.toNat = q at *
  generalize hL1 : dgsN q = l1 at *
  generalize hL2 : frcU n fine = l2 at *
  have hdl := dg_range (hs.d1 _ (getD_mem (List.length_pos_iff.2 hne)))
  have heq := hs.eq
  have hszl : s.size = (if n < 0 then [(45 : Int)] else []).length + l1.length + (if l2 = [] then ([] : List Int) else [46]).length + l2.length := by
    have := congrArg List.length heq
    rw [bts_len] at this
    simp only [List.length_append, List.length_nil] at this
    omega
  have hlp : 0 < l1.length := List.length_pos_iff.2 hne
  refine ⟨decide (n < 0), (if n < 0 then [(45 : Int)] else []).length, _, l2.length, l1.getD 0 0, (bts s).getD (s.size - 1) 0, ⟨by rw [hsz]; exact hlen, rfl, ⟨_, _, _, _, hs, rfl, rfl⟩, ⟨h2, h1⟩, ⟨fun h => ?_, fun h => ?_⟩, ⟨?_, by omega, dg_of hdl⟩, fun h48 => ?_, rfl, ?_, ?_⟩⟩
  · have h : n < 0 := by simpa using h
    rw [if_pos h] at heq ⊢
    exact ⟨rfl, by rw [heq]; rfl⟩
  · have h : ¬ n < 0 := by simpa using h
    rw [if_neg h]; rfl
  · rw [heq]
    have := getD_app1 (a := if n < 0 then [(45 : Int)] else []) (r := l1 ++ ((if l2 = [] then [] else [46]) ++ (l2 ++ []))) (k := 0)
    rw [Nat.add_zero] at this
    rw [this, getD_app0 hlp]
  · have hq0 : q = 0 := by
      rcases Nat.eq_zero_or_pos q with h | h
      · exact h
      · exact absurd h48 (hh h)
    have hl1 : l1.length = 1 := h10 (by omega)
    have hl2 : l2 ≠ [] := fun e => by
      apply hn0
      have e1 : l1 = [48] := by
        obtain ⟨c, hc⟩ := List.length_eq_one_iff.1 hl1
        rw [hc] at h48
        simp at h48
        rw [hc, h48]
      rw [h2, e, e1]
      unfold sgI dvl dvF
      split <;> simp
    have hl2p := List.length_pos_iff.2 hl2
    rw [if_neg hl2] at hszl heq
    refine ⟨by have h46 : ([46] : List Int).length = 1 := rfl
               omega, ?_, hl2p⟩
    rw [heq]
    have := getD_app1 (a := if n < 0 then [(45 : Int)] else []) (r := l1 ++ ([46] ++ (l2 ++ []))) (k := 1)
    rw [this]
    have h3 := getD_app1 (a := l1) (r := [46] ++ (l2 ++ [])) (k := 0)
    rw [hl1] at h3
    exact h3
  · by_cases hl2 : l2 = []
    · have e : (bts s).getD (s.size - 1) 0 = l1.getD (l1.length - 1) 0 := by
        rw [heq]
        have := getD_app1 (a := if n < 0 then [(45 : Int)] else []) (r := l1 ++ ((if l2 = [] then [] else [46]) ++ (l2 ++ []))) (k := l1.length - 1)
        rw [show s.size - 1 = (if n < 0 then [(45 : Int)] else []).length + (l1.length - 1) by rw [hszl, if_pos hl2, hl2]; simp; omega, this, getD_app0 (by omega)]
      rw [e]
      have := dg_range (hs.d1 _ (getD_mem (show l1.length - 1 < l1.length by omega)))
      omega
    · have hl2p := List.length_pos_iff.2 hl2
      have e : (bts s).getD (s.size - 1) 0 = l2.getD (l2.length - 1) 0 := by
        rw [heq, List.append_nil, ← List.append_assoc, ← List.append_assoc]
        have := getD_app1 (a := ((if n < 0 then [(45 : Int)] else []) ++ l1) ++ (if l2 = [] then [] else [46])) (r := l2) (k := l2.length - 1)
        rw [show s.size - 1 = (((if n < 0 then [(45 : Int)] else []) ++ l1) ++ (if l2 = [] then [] else [46])).length + (l2.length - 1) by rw [hszl, List.length_append, List.length_append]; omega, this]
      rw [e]
      have := dg_range (hs.d2 _ (getD_mem (show l2.length - 1 < l2.length by omega)))
      omega
  · intro hk
    have hl2 : l2 ≠ [] := List.length_pos_iff.1 hk
    have e : (bts s).getD (s.size - 1) 0 = l2.getD (l2.length - 1) 0 := by
      rw [heq, List.append_nil, ← List.append_assoc, ← List.append_assoc]
      have := getD_app1 (a := ((if n < 0 then [(45 : Int)] else []) ++ l1) ++ (if l2 = [] then [] else [46])) (r := l2) (k := l2.length - 1)
      rw [show s.size - 1 = (((if n < 0 then [(45 : Int)] else []) ++ l1) ++ (if l2 = [] then [] else [46])).length + (l2.length - 1) by rw [hszl, List.length_append, List.length_append]; omega, this]
    rw [e]
    cases hr : l2.reverse with
    | nil => exact absurd (by simpa using hr) hl2
    | cons c r => rw [getD_rev hr]; exact hl c r hr
end Go.Proofs.YtfpifbfnebfdaaaDoor
