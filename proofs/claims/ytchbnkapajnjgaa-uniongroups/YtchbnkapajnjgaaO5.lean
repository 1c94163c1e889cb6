/- Contracts of package union over the loaded program: sets in memory; has, top, Len, Count, Least, Size, Same. -/
import Derived.Test.YtchbnkapajnjgaaO4
import Derived.Test.YtchbnkapajnjgaaO2
import Derived.Test.YtchbnkapajnjgaaH2b
import Derived.Test.YtchbnkapajnjgaaS11
namespace Go.Proofs.Ytchbnkapajnjgaa
open Go.RowKit Go.Shelf
attribute [local go_sem] Gr.size Gr.cell? Gr.frozen? Gr.setCell Gr.drew Gr.drewN Gr.of_drew Gr.of_drewN Gr.gr Gr.lt_of1 Gr.le_of1 Gr.lt_of2 Gr.le_of2 Gr.lt_of3 Gr.le_of3 Gr.lt_of4 Gr.le_of4 Gr.lt_of5 Gr.le_of5 Gr.lt_of6 Gr.le_of6 Gr.lt_of7 Gr.le_of7 Gr.lt_of8 Gr.le_of8 Gr.lt_of9 Gr.le_of9 Gr.lt_of10 Gr.le_of10 Gr.lt_of11 Gr.le_of11 Gr.lt_of12 Gr.le_of12 Gr.lt_of13 Gr.le_of13 Gr.lt_of14 Gr.le_of14 Gr.lt_of15 Gr.le_of15 Gr.lt_of16 Gr.le_of16 Gr.lt_of17 Gr.le_of17 Gr.lt_of18 Gr.le_of18 Gr.lt_of19 Gr.le_of19 Gr.lt_of20 Gr.le_of20 Gr.lt_of21 Gr.le_of21 Gr.lt_of22 Gr.le_of22 Gr.lt_of23 Gr.le_of23 Gr.lt_of24 Gr.le_of24
/-- The block of sets. -/
def Sb (w : World) (t gu gz gm n : Nat) (k : Int) : Prop := w.heap[t]? = some (.cells #[.slice (some ⟨gu, 0, none⟩) n n, .slice (some ⟨gz, 0, none⟩) n n, .slice (some ⟨gm, 0, none⟩) n n, .int .i64 k] 51 (0, 0))
section
variable {w w' : World} {t gu gz gm n : Nat} {k : Int}
theorem Sb.c0 (h : Sb w t gu gz gm n k) : w.cell? ⟨t, 0, none⟩ = some (.slice (some ⟨gu, 0, none⟩) n n) := by unfold Sb at h; simp [World.cell?, h]
theorem Sb.c1 (h : Sb w t gu gz gm n k) : w.cell? ⟨t, 1, none⟩ = some (.slice (some ⟨gz, 0, none⟩) n n) := by unfold Sb at h; simp [World.cell?, h]
theorem Sb.c2 (h : Sb w t gu gz gm n k) : w.cell? ⟨t, 2, none⟩ = some (.slice (some ⟨gm, 0, none⟩) n n) := by unfold Sb at h; simp [World.cell?, h]
theorem Sb.c3 (h : Sb w t gu gz gm n k) : w.cell? ⟨t, 3, none⟩ = some (.int .i64 k) := by unfold Sb at h; simp [World.cell?, h]
theorem Sb.fz (h : Sb w t gu gz gm n k) (i : Nat) : w.frozen? ⟨t, i, none⟩ = false := by unfold Sb at h; simp [World.frozen?, h]
theorem Sb.lt (h : Sb w t gu gz gm n k) : t < w.heap.size := (Array.getElem?_eq_some_iff.1 h).1
theorem Sb.set3 (h : Sb w t gu gz gm n k) (y : Int) : Sb (w.setCell ⟨t, 3, none⟩ (.int .i64 y)) t gu gz gm n y := by
  unfold Sb at *; simp only [World.setCell]; rw [Array.getElem?_modify, if_pos rfl, h]; rfl
theorem Sb.wr {S : List Nat} (h : Sb w t gu gz gm n k) (hg : Wr S w w') (ht : t ∉ S) : Sb w' t gu gz gm n k := by
  have := h.lt
  unfold Sb at *; rw [hg.block t this ht]; exact h
theorem Sb.other {b : Nat} (h : Sb w t gu gz gm n k) (o : Nat) (v : Value) (hb : t ≠ b) : Sb (w.setCell ⟨b, o, none⟩ v) t gu gz gm n k := by
  unfold Sb at *; rw [set_block _ _ _ _ _ hb]; exact h
end
/-- Sets in memory: their block, and the three rows. -/
structure Um (w : World) (t gu gz gm : Nat) (u z m : List Int) (n : Nat) (k : Int) : Prop where
  b : Sb w t gu gz gm n k
  ru : Row w gu u
  rz : Row w gz z
  rm : Row w gm m
/-- The four blocks are not the same. -/
def Ds (t gu gz gm : Nat) : Prop := t ≠ gu ∧ t ≠ gz ∧ t ≠ gm ∧ gu ≠ gz ∧ gu ≠ gm ∧ gz ≠ gm
/-- The sets at t are those of which x tells the least numbers. -/
structure Un (w : World) (base t gu gz gm : Nat) (x : List Int) : Prop where
  ds : Ds t gu gz gm
  low : base ≤ t ∧ base ≤ gu ∧ base ≤ gz ∧ base ≤ gm
  max : x.length ≤ 1048576
  tr : ∃ u z m, Up u z m x ∧ Um w t gu gz gm u z m x.length (cntU x x.length : Nat)
section
variable {w w' : World} {base t gu gz gm n : Nat} {k : Int} {u z m x : List Int}
theorem Um.wr {S : List Nat} (h : Um w t gu gz gm u z m n k) (hg : Wr S w w') (hS : ∀ b ∈ S, b ∉ [t, gu, gz, gm]) : Um w' t gu gz gm u z m n k :=
  ⟨h.b.wr hg (fun e => hS _ e (by simp)), h.ru.wr hg (fun e => hS _ e (by simp)), h.rz.wr hg (fun e => hS _ e (by simp)), h.rm.wr hg (fun e => hS _ e (by simp))⟩
theorem Um.gr (h : Um w t gu gz gm u z m n k) (hg : IsGr w w') : Um w' t gu gz gm u z m n k := h.wr (S := []) (Wr.of_gr hg) (by simp)
theorem Um.lt (h : Um w t gu gz gm u z m n k) : ∀ b ∈ [t, gu, gz, gm], b < w.heap.size := fun b hb => by
  simp at hb
  rcases hb with rfl | rfl | rfl | rfl
  · exact h.b.lt
  · exact h.ru.lt
  · exact h.rz.lt
  · exact h.rm.lt
theorem Un.wr {S : List Nat} (h : Un w base t gu gz gm x) (hg : Wr S w w') (hS : ∀ b ∈ S, b ∉ [t, gu, gz, gm]) : Un w' base t gu gz gm x := by
  obtain ⟨u, z, m, h1, h2⟩ := h.tr
  exact ⟨h.ds, h.low, h.max, u, z, m, h1, h2.wr hg hS⟩
theorem Un.gr (h : Un w base t gu gz gm x) (hg : IsGr w w') : Un w' base t gu gz gm x := h.wr (S := []) (Wr.of_gr hg) (by simp)
theorem Un.below (h : Un w base t gu gz gm x) (hg : Below w.heap.size w w') : Un w' base t gu gz gm x := h.wr (S := []) (Wr.of_below hg) (by simp)
theorem Un.lt (h : Un w base t gu gz gm x) : ∀ b ∈ [t, gu, gz, gm], b < w.heap.size := by
  obtain ⟨u, z, m, h1, h2⟩ := h.tr
  exact h2.lt
theorem Un.lea (h : Un w base t gu gz gm x) : Lea x := by
  obtain ⟨u, z, m, h1, h2⟩ := h.tr
  exact h1.lea
theorem Un.low' (h : Un w base t gu gz gm x) : ∀ b ∈ [t, gu, gz, gm], base ≤ b := fun b hb => by
  have := h.low
  simp at hb
  omega
end
section
variable {base t gu gz gm n : Nat} {k : Int} {u z m x : List Int}
set_option maxRecDepth 20000 in set_option maxHeartbeats 2000000 in
theorem has_any (a : Int) (w : World) (h : Sb w t gu gz gm n k) : Calls Try.prog 23 #[.pointer (some ⟨t, 0, none⟩), .int .i64 a] w fun e w' => e = .returned (.bool (wth a n)) ∧ w' = w := by
  have c0 := h.c0
  obtain ⟨b, hb⟩ : ∃ b, wth a n = b := ⟨_, rfl⟩
  rw [hb]
  unfold wth at hb
  clear h
  by_cases h : 0 ≤ a
  · have hb2 : decide (a < n) = b := by rw [← hb, decide_eq_true h]; rfl
    have h' : decide (0 ≤ a) = true := decide_eq_true h
    clear hb
    go_enter Try.func23, Try.ntmps23
    go_wp2_with fail
    go_ret
    first | exact ⟨rfl, rfl⟩ | (refine ⟨?_, rfl⟩; rw [← hb2]; rfl)
  · have hb2 : b = false := by rw [← hb, decide_eq_false h]; rfl
    subst hb2
    have h' : decide (0 ≤ a) = false := decide_eq_false h
    clear hb
    go_enter Try.func23, Try.ntmps23
    go_wp2_with fail
    go_ret
    exact ⟨rfl, rfl⟩
set_option maxRecDepth 20000 in set_option maxHeartbeats 2000000 in
theorem Len_any (w : World) (h : Sb w t gu gz gm n k) : Calls Try.prog 17 #[.pointer (some ⟨t, 0, none⟩)] w fun e w' => e = .returned (.int .i64 n) ∧ w' = w := by
  have c0 := h.c0
  clear h
  go_enter Try.func17, Try.ntmps17
  go_wp2_with fail
  go_ret
  exact ⟨rfl, rfl⟩
set_option maxRecDepth 20000 in set_option maxHeartbeats 2000000 in
theorem Count_any (w : World) (h : Sb w t gu gz gm n k) : Calls Try.prog 14 #[.pointer (some ⟨t, 0, none⟩)] w fun e w' => e = .returned (.int .i64 k) ∧ w' = w := by
  have c3 := h.c3
  clear h
  go_enter Try.func14, Try.ntmps14
  go_wp2_with fail
  go_ret
  exact ⟨rfl, rfl⟩
set_option maxRecDepth 20000 in set_option maxHeartbeats 2000000 in
theorem top_any (hU : Up u z m x) (i r : Nat) (w : World) (h : Um w t gu gz gm u z m x.length k) (hi : i < x.length) (hr : Tp u x i r) :
    Calls Try.prog 24 #[.pointer (some ⟨t, 0, none⟩), .int .i64 i] w fun e w' => e = .returned (.int .i64 r) ∧ w' = w := by
  have c0 := h.b.c0
  obtain ⟨d, hd⟩ := hU.up
  obtain ⟨n, hxn⟩ : ∃ n, x.length = n := ⟨_, rfl⟩
  have HH : Hid (Row w gu u ∧ u.length = n) := ⟨h.ru, hxn ▸ hU.lu⟩
  have HD : Hid (∀ i, i < n → ∃ j : Nat, u.getD i 0 = j ∧ j < n ∧ x.getD j 0 = x.getD i 0 ∧ (j = i ∨ d j < d i)) := hxn ▸ hd
  have HR : Hid (∀ j, j < n → u.getD j 0 = j → x.getD j 0 = x.getD i 0 → j = r) := fun j h1 h2 h3 => hU.one j r (hxn ▸ h1) hr.lt h2 hr.top (h3.trans hr.same.symm)
  rw [hxn] at c0 hi
  clear h hd hxn hU hr
  go_enter Try.func24, Try.ntmps24
  go_wp2_with fail
  go_loopg [1] (d i) (fun q p1 wr => wr = w ∧ ∃ j : Nat, d j = q ∧ p1 = .int .i64 j ∧ j < n ∧ Hid (x.getD j 0 = x.getD i 0))
  case atStart => exact ⟨rfl, i, rfl, rfl, hi, rfl⟩
  case round =>
    obtain ⟨hww, j, hj, rfl, hjn, HX⟩ := hrel
    obtain rfl := hww.symm
    obtain ⟨y, h1, h2, h3, h4⟩ := HD.out j hjn
    have cj := HH.out.1.cell (i := j) (by have := HH.out.2; omega)
    rw [h1] at cj
    have hjn' : (j : Int) < n := by omega
    have HY : Hid (u.getD j 0 = y ∧ y < n ∧ x.getD y 0 = x.getD j 0 ∧ (y = j ∨ d y < d j)) := ⟨h1, h2, h3, h4⟩
    clear h1 h2 h3 h4
    by_cases hyj : y = j
    · have hb : ((y : Int) != (j : Int)) = false := by simp [hyj]
      have HJ : Hid (j = r) := HR.out j hjn (by rw [HY.out.1, hyj]) HX.out
      clear hyj
      go_wp2_with fail
      go_ret
      exact ⟨by rw [HJ.out]; rfl, rfl⟩
    · have hb : ((y : Int) != (j : Int)) = true := by simp; omega
      have HJ : Hid (d y < d j) := HY.out.2.2.2.resolve_left hyj
      clear hyj
      go_wp2_with fail
      go_roundg (d y)
      case measure => have := HJ.out; omega
      case rel => exact ⟨rfl, y, rfl, rfl, HY.out.2.1, by rw [HY.out.2.2.1]; exact HX.out⟩
end
end Go.Proofs.Ytchbnkapajnjgaa
