/- Package decimal over the loaded program: halves, written. -/
import Derived.Test.YtfpifbfnebfdaaaDoorJ2
import Derived.Test.YtfpifbfnebfdaaaDoorShelf4
import Derived.BigQuiet
namespace Go.Proofs.YtfpifbfnebfdaaaDoor
open Go.RowKit Go.Shelf
attribute [local go_sem] Gr.size Gr.cell? Gr.frozen? Gr.setCell Gr.drew Gr.drewN Gr.of_drew Gr.of_drewN Gr.gr Gr.lt_of1 Gr.le_of1 Gr.lt_of2 Gr.le_of2 Gr.lt_of3 Gr.le_of3 Gr.lt_of4 Gr.le_of4 Gr.lt_of5 Gr.le_of5 Gr.lt_of6 Gr.le_of6 Gr.lt_of7 Gr.le_of7 Gr.lt_of8 Gr.le_of8 Gr.lt_of9 Gr.le_of9 Gr.lt_of10 Gr.le_of10 Gr.lt_of11 Gr.le_of11 Gr.lt_of12 Gr.le_of12 Gr.lt_of13 Gr.le_of13 Gr.lt_of14 Gr.le_of14 Gr.lt_of15 Gr.le_of15 Gr.lt_of16 Gr.le_of16 Gr.lt_of17 Gr.le_of17 Gr.lt_of18 Gr.le_of18 Gr.lt_of19 Gr.le_of19 Gr.lt_of20 Gr.le_of20 Gr.lt_of21 Gr.le_of21 Gr.lt_of22 Gr.le_of22 Gr.lt_of23 Gr.le_of23 Gr.lt_of24 Gr.le_of24
/-- Where the e stands. -/
def idxI : List Int → Int
  | [] => -1
  | c :: l => if c = 101 ∨ c = 69 then 0 else if idxI l = -1 then -1 else idxI l + 1
theorem idx_eq : ∀ l : List UInt8, Lib.indexAny l [101, 69] = idxI (l.map fun b => (b.toNat : Int))
  | [] => rfl
  | b :: l => by
    have h : ([101, 69] : List UInt8).contains b = true ↔ ((b.toNat : Int) = 101 ∨ (b.toNat : Int) = 69) := by
      have e1 : (b = 101) ↔ ((b.toNat : Int) = 101) := by rw [← UInt8.toNat_inj]; simp; omega
      have e2 : (b = 69) ↔ ((b.toNat : Int) = 69) := by rw [← UInt8.toNat_inj]; simp; omega
      rw [← e1, ← e2]; simp
    rw [List.map_cons, Lib.indexAny, idxI, idx_eq l]
    by_cases h1 : (b.toNat : Int) = 101 ∨ (b.toNat : Int) = 69
    · rw [if_pos (h.2 h1), if_pos h1]
    · rw [if_neg (fun e => h1 (h.1 e)), if_neg h1]
      simp only [beq_iff_eq]
theorem idxI_none : ∀ {l : List Int}, (∀ c ∈ l, c ≠ 101 ∧ c ≠ 69) → idxI l = -1
  | [], _ => rfl
  | c :: l, h => by
    have := h c (by simp)
    rw [idxI, if_neg (by omega), idxI_none (fun x hx => h x (List.mem_cons_of_mem _ hx))]; rfl
theorem idxI_at {e : Int} (he : e = 101 ∨ e = 69) (r : List Int) : ∀ {l : List Int}, (∀ c ∈ l, c ≠ 101 ∧ c ≠ 69) → idxI (l ++ e :: r) = (l.length : Nat)
  | [], _ => by rw [List.nil_append, idxI, if_pos he]; rfl
  | c :: l, h => by
    have := h c (by simp)
    rw [List.cons_append, idxI, if_neg (by omega), idxI_at he r (fun x hx => h x (List.mem_cons_of_mem _ hx)), if_neg (by omega), List.length_cons]
    omega
/-- What stands ahead of the e. -/
theorem Spl.noe {b : List Int} {neg : Bool} {sg l1 dt l2 ep : List Int} {p : Int} (h : Spl b neg sg l1 dt l2 ep p) : ∀ c ∈ sg ++ (l1 ++ (dt ++ l2)), c ≠ 101 ∧ c ≠ 69 := fun c hc => by
  simp only [List.mem_append] at hc
  rcases hc with hc | hc | hc | hc
  · rcases h.sign with ⟨rfl, _⟩ | ⟨rfl, _⟩ | ⟨rfl, _⟩ <;> simp at hc <;> omega
  · have := dg_range (h.d1 c hc); omega
  · rcases h.dot with ⟨rfl, _⟩ | rfl <;> simp at hc; omega
  · have := dg_range (h.d2 c hc); omega
theorem Spl.asc {b : List Int} {neg : Bool} {sg l1 dt l2 ep : List Int} {p : Int} (h : Spl b neg sg l1 dt l2 ep p) : Asc b := fun c hc => by
  rw [h.eq] at hc
  simp only [List.mem_append] at hc
  rcases hc with hc | hc | hc | hc | hc
  · rcases h.sign with ⟨rfl, _⟩ | ⟨rfl, _⟩ | ⟨rfl, _⟩ <;> simp at hc <;> omega
  · have := dg_range (h.d1 c hc); omega
  · rcases h.dot with ⟨rfl, _⟩ | rfl <;> simp at hc; omega
  · have := dg_range (h.d2 c hc); omega
  · rcases h.pow with ⟨rfl, _⟩ | ⟨e, es, l3, he, rfl, _, hd, hs⟩
    · simp at hc
    · simp only [List.mem_cons, List.mem_append] at hc
      rcases hc with rfl | hc | hc
      · omega
      · rcases hs with ⟨rfl | rfl, _⟩ | ⟨rfl, _⟩ <;> simp at hc <;> omega
      · have := dg_range (hd c hc); omega
theorem asc_data {s : ByteArray} (h : Asc (bts s)) : ∀ (j : Nat) b, s.data.toList[j]? = some b → b.toNat < 128 := fun j b hb => by
  have : (b.toNat : Int) ∈ bts s := List.mem_map.2 ⟨b, List.mem_of_getElem? hb, rfl⟩
  have := h _ this
  omega
theorem asc_eE : ∀ (j : Nat) b, (ByteArray.mk #[101, 69]).data.toList[j]? = some b → b.toNat < 128 := fun j b hb => by
  have := List.mem_of_getElem? hb
  simp at this
  rcases this with rfl | rfl <;> decide
set_option maxRecDepth 20000 in set_option maxHeartbeats 2000000 in
theorem dhalves_any (s : ByteArray) (w : World) (hs : s.size ≤ 3000) (neg : Bool) (sg l1 dt l2 ep : List Int) (p : Int) (h : Spl (bts s) neg sg l1 dt l2 ep p) : Calls Tryd.prog 35 #[.string s] w fun e w' => ∃ s1 s2, e = .returned (.tuple #[.string s1, .string s2]) ∧ bts s1 = sg ++ (l1 ++ (dt ++ l2)) ∧ bts s2 = ep.tail ∧ IsGr w w' := by
  have CI := Tryd.strings_IndexAny_laid s { data := #[101, 69] } w (by omega) (by decide) (asc_data h.asc) asc_eE
  have e1 : Lib.indexAny s.data.toList (ByteArray.mk #[101, 69]).data.toList = idxI (bts s) := idx_eq _
  rw [e1] at CI
  have heq : bts s = (sg ++ (l1 ++ (dt ++ l2))) ++ ep := by rw [h.eq]; simp only [List.append_assoc]
  have hn := h.noe
  generalize sg ++ (l1 ++ (dt ++ l2)) = H at *
  rcases h.pow with ⟨rfl, _⟩ | ⟨e, es, l3, he, rfl, _⟩
  · rw [List.append_nil] at heq
    rw [heq, idxI_none hn] at CI
    clear h hs hn e1
    go_enter Tryd.func35, Tryd.ntmps35
    go_wp2_with fail
    refine CI.mono ?_
    rintro e w1 ⟨rfl, hb⟩
    go_wp2_with fail
    exact bodyPost_ret (v := .tuple #[.string s, .string { data := #[] }]) (by simp [results, Tryd.results35, go_sem]) rfl ⟨_, _, rfl, heq, rfl, IsGr.of_below hb⟩
  · rw [heq, idxI_at he _ hn] at CI
    have hlen : H.length + 1 ≤ s.size := by
      rw [← bts_len, heq, List.length_append, List.length_cons]; omega
    have b1 : bts (s.extract 0 H.length) = H := by rw [bts_extract, heq]; simp
    have b2 : bts (s.extract (H.length + 1) s.size) = es ++ l3 := by
      rw [bts_extract, List.take_of_length_le (by rw [List.length_drop, bts_len]; omega), heq]; simp
    obtain ⟨k, hk⟩ : ∃ k, H.length = k := ⟨_, rfl⟩
    rw [hk] at CI hlen b1 b2
    have q1 : (0 : Int) ≤ k := by omega
    have q2 : (k : Int) ≤ s.size := by omega
    have q3 : (k : Int) + 1 ≤ s.size := by omega
    have e2 : IntKind.i64.wrap ((k : Int) + 1) = (k : Int) + 1 := by rw [IntKind.wrap_i64]; omega
    have HB : Hid (bts (s.extract 0 k) = H ∧ bts (s.extract (k + 1) s.size) = es ++ l3) := ⟨b1, b2⟩
    clear h hs hn heq hk b1 b2 e1 he
    go_enter Tryd.func35, Tryd.ntmps35
    go_wp2_with fail
    refine CI.mono ?_
    clear CI
    rintro e w1 ⟨rfl, hb⟩
    go_upto_region 3 with fail
    go_quiet (fail)
    go_wp2_with fail
    exact bodyPost_ret (v := .tuple #[.string (s.extract 0 k), .string (s.extract (k + 1) s.size)]) (by simp [results, Tryd.results35, go_sem]) rfl ⟨_, _, rfl, HB.out.1, HB.out.2, (IsGr.of_below hb).trans (by with_reducible repeat (first | exact IsGr.refl _ | refine IsGr.gr ?_ _ _ | refine IsGr.alloc ?_ _ | refine IsGr.drew ?_ | refine IsGr.drewN ?_ _))⟩
theorem pre_eq : ∀ l : List UInt8, Lib.hasPrefix l [45] = decide ((l.map fun b => (b.toNat : Int)).getD 0 0 = 45)
  | [] => rfl
  | b :: l => by
    have e1 : (45 = b) ↔ ((b.toNat : Int) = 45) := by rw [← UInt8.toNat_inj]; simp; omega
    unfold Lib.hasPrefix
    by_cases h : (b.toNat : Int) = 45
    · rw [List.map_cons, List.getD_cons_zero, decide_eq_true h, ← e1.2 h]; rfl
    · rw [List.map_cons, List.getD_cons_zero, decide_eq_false h]
      have : (45 == b) = false := by rw [beq_eq_false_iff_ne]; exact fun e => h (e1.1 e)
      simp [List.isPrefixOf, this]
set_option maxRecDepth 20000 in set_option maxHeartbeats 2000000 in
theorem dwritten_any (s : ByteArray) (w : World) (hs : s.size ≤ 3000) (ha : Asc (bts s)) : Calls Tryd.prog 37 #[.string s] w fun e w' => e = .returned (.int .i64 (wrI (bts s))) ∧ IsGr w w' := by
  have CP := fun w => Tryd.strings_HasPrefix s { data := #[45] } w
  have e1 : Lib.hasPrefix s.data.toList (ByteArray.mk #[45]).data.toList = decide ((bts s).getD 0 0 = 45) := pre_eq _
  have CC := fun w => dcount_any s w (by omega) ha
  have hr := cnF_range (bts s) (n := 0) (by omega)
  have HW : Hid (wrI (bts s) = if (bts s).getD 0 0 = 45 then - cnF 0 (bts s) else cnF 0 (bts s)) := rfl
  obtain ⟨n, hn⟩ : ∃ n, cnF 0 (bts s) = n := ⟨_, rfl⟩
  rw [hn] at CC hr HW
  rw [e1] at CP
  have e2 : IntKind.i64.wrap (-n) = -n := by rw [IntKind.wrap_i64]; omega
  by_cases h45 : (bts s).getD 0 0 = 45
  · rw [decide_eq_true h45] at CP
    rw [if_pos h45] at HW
    clear e1 hn ha hs h45
    go_enter Tryd.func37, Tryd.ntmps37
    go_wp2_with fail
    refine (CP _).mono ?_
    rintro e w1 ⟨rfl, rfl⟩
    go_wp2_with fail
    refine (CC _).mono ?_
    rintro e w2 ⟨rfl, hg⟩
    go_wp2_with fail
    go_ret
    exact ⟨by rw [HW.out]; rfl, hg⟩
  · rw [decide_eq_false h45] at CP
    rw [if_neg h45] at HW
    clear e1 hn ha hs h45
    go_enter Tryd.func37, Tryd.ntmps37
    go_wp2_with fail
    refine (CP _).mono ?_
    rintro e w1 ⟨rfl, rfl⟩
    go_wp2_with fail
    refine (CC _).mono ?_
    rintro e w2 ⟨rfl, hg⟩
    go_wp2_with fail
    go_ret
    exact ⟨by rw [HW.out]; rfl, hg⟩
end Go.Proofs.YtfpifbfnebfdaaaDoor
