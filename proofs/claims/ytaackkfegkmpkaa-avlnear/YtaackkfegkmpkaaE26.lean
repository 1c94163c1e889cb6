/- gromalaw05 over the loaded program: AvlTells' law. -/
import Derived.Test.YtaackkfegkmpkaaE25
namespace Go.Proofs.Ytaackkfegkmpkaa
open Go.RowKit Go.Shelf
attribute [local go_sem] Gr.size Gr.cell? Gr.frozen? Gr.setCell Gr.drew Gr.drewN Gr.of_drew Gr.of_drewN Gr.gr Gr.lt_of1 Gr.le_of1 Gr.lt_of2 Gr.le_of2 Gr.lt_of3 Gr.le_of3 Gr.lt_of4 Gr.le_of4 Gr.lt_of5 Gr.le_of5 Gr.lt_of6 Gr.le_of6 Gr.lt_of7 Gr.le_of7 Gr.lt_of8 Gr.le_of8 Gr.lt_of9 Gr.le_of9 Gr.lt_of10 Gr.le_of10 Gr.lt_of11 Gr.le_of11 Gr.lt_of12 Gr.le_of12 Gr.lt_of13 Gr.le_of13 Gr.lt_of14 Gr.le_of14 Gr.lt_of15 Gr.le_of15 Gr.lt_of16 Gr.le_of16 Gr.lt_of17 Gr.le_of17 Gr.lt_of18 Gr.le_of18 Gr.lt_of19 Gr.le_of19 Gr.lt_of20 Gr.le_of20 Gr.lt_of21 Gr.le_of21 Gr.lt_of22 Gr.le_of22 Gr.lt_of23 Gr.le_of23 Gr.lt_of24 Gr.le_of24
theorem All_any (t : Nat) (w : World) : Calls Try.prog 17 #[.pointer (some ⟨t, 0, none⟩)] w fun e w' => ∃ Bt, e = .returned (.func (.func 35) #[] #[.pointer (some ⟨Bt, 0, none⟩)]) ∧ w'.cell? ⟨Bt, 0, none⟩ = some (.pointer (some ⟨t, 0, none⟩)) ∧ IsGr w w' :=
  (callsIn_wide.1 (all_in Fence.wide 9 trivial rfl ⟨t, 0, none⟩ w)).mono fun _ _ ⟨h1, h2⟩ => ⟨_, h1, h2 ▸ (cell_new w _ _).1, h2 ▸ (IsGr.refl w).alloc _⟩

set_option maxRecDepth 20000 in set_option maxHeartbeats 2000000 in
theorem law_avltells_many (a : Option Addr) (n c : Nat) (stop : Int) (w : World) (hn : 150 < n) : Calls Try.prog 5 #[.slice a n c, .int .i64 stop] w fun e w' => e = .returned (.bool true) ∧ Below w.heap.size w w' := by
  have hn' : (150 : Int) < n := by omega
  go_enter Try.func5, Try.ntmps5
  go_wp2_with fail
  refine (New_any 9 w).mono ?_
  rintro e w1 ⟨rfl, e1⟩
  have B1 : Below w.heap.size w w1 := e1 ▸ ((IsGr.refl w).alloc _).below
  clear e1
  go_wp2_with fail
  refine (awake_any _).mono ?_
  rintro e w2 ⟨rfl, B2⟩
  go_wp2_with fail
  go_ret
  exact ⟨rfl, B1.trans (B2.mono B1.size)⟩

set_option maxRecDepth 20000 in set_option maxHeartbeats 2000000 in
theorem law_avltells_few (a : Option Addr) (n c : Nat) (l : List (Int × Int)) (stop : Int) (w : World) (h : Ops w a n l) (hn : n ≤ 150) : Calls Try.prog 5 #[.slice a n c, .int .i64 stop] w fun e w' => e = .returned (.bool true) ∧ Below w.heap.size w w' := by
  have hn' : ¬ (150 : Int) < n := by omega
  have hn2 : (n : Int) ≤ 150 := by omega
  have HP : Hid (Ops w a n l) := h
  clear h
  go_enter Try.func5, Try.ntmps5
  go_wp2_with fail
  refine (New_any 9 w).mono ?_
  rintro e w1 ⟨rfl, e1⟩
  have B1 : Below w.heap.size w w1 := e1 ▸ ((IsGr.refl w).alloc _).below
  have S1 : Both w1 w.heap.size w.heap.size (.slice none 0 0) .nil := e1 ▸ New_Both w
  clear e1
  go_wp2_with fail
  go_loopg [6, 24] n (fun r p4 p24 wr => ∃ (k : Nat) (T : AT), k + r = n ∧ p24 = .int .i64 k ∧ Hid (Both wr w.heap.size w.heap.size p4 T ∧ T.inl.length ≤ k ∧ Below w.heap.size w wr) ∧ ∃ sa sn sc, p4 = .slice sa sn sc)
  case atStart => exact ⟨0, .nil, by omega, rfl, ⟨S1, by simp [AT.inl], B1⟩, none, 0, 0, rfl⟩
  case round =>
    clear S1 B1
    obtain ⟨k, T, hk, rfl, HB, sa, sn, sc, rfl⟩ := hrel
    by_cases hkn : k < n
    · obtain ⟨g, o, x, y, rfl, hy, hcs⟩ := HP.out.at hkn
      obtain ⟨c1, c2⟩ := hcs _ HB.out.2.2
      have hkn' : (k : Int) < n := by omega
      have e1 : IntKind.i64.wrap ((k : Int) + 1) = (k : Int) + 1 := by rw [IntKind.wrap_i64]; omega
      clear hcs
      have HA := (IsGr.refl wr).alloc (.cells #[.int .i64 x, .int .i64 y] 29)
      go_wp2_with fail
      refine (step_any w.heap.size w.heap.size _ T x y _ (HB.out.1.gr HA) (Nat.le_trans HB.out.2.2.size HA.size) (by have := HB.out.2.1; omega) hy).mono ?_
      rintro e w2 ⟨T', v', rfl, hB2, hbl, hlen, _⟩
      obtain ⟨sa', sc', rfl, _⟩ := hB2.lst.form
      have HB2 : Hid (Both w2 w.heap.size w.heap.size (.slice sa' T'.vals.length sc') T' ∧ T'.inl.length ≤ k + 1 ∧ Below w.heap.size w w2) := ⟨hB2, by have := HB.out.2.1; omega, HB.out.2.2.trans ((HA.below.mono HB.out.2.2.size).trans hbl)⟩
      clear hB2 hbl hlen HB c1 c2 HA hy
      go_wp2_with fail
      go_roundg (n - (k + 1))
      case measure => omega
      case rel => exact ⟨k + 1, T', by omega, by simp, HB2, sa', T'.vals.length, sc', rfl⟩
    · have hkn' : ¬ (k : Int) < n := by omega
      have Told := fun (Bt : Nat) (s : Int) (w1 : World) (hs : 0 ≤ s) (hg : Below wr.heap.size wr w1) (hc : w1.cell? ⟨Bt, 0, none⟩ = some (.pointer (some ⟨w.heap.size, 0, none⟩))) => told_yes w.heap.size w.heap.size Bt _ T s w1 (HB.out.1.wr (Wr.of_below hg)) hc (by have := HB.out.2.1; omega) hs
      go_wp2_with fail
      refine (All_any _ _).mono ?_
      rintro e w2 ⟨Bt, rfl, hbt, hg2⟩
      go_wp2_with fail
      all_goals
        refine (Told Bt _ _ (by omega) hg2.below hbt).mono ?_
        rintro e w3 ⟨rfl, h3⟩
        have b3 := hg2.below.trans (h3.mono hg2.size)
        go_wp2_with fail
        refine (All_any _ _).mono ?_
        rintro e w4 ⟨Bu, rfl, hbu, hg4⟩
        have b4 := b3.trans (hg4.below.mono b3.size)
        go_wp2_with fail
        refine (Told Bu 0 _ (by omega) b4 hbu).mono ?_
        rintro e w5 ⟨rfl, h5⟩
        have b5 := b4.trans (h5.mono b4.size)
        go_wp2_with fail
        refine (awake_any _).mono ?_
        rintro e w6 ⟨rfl, h6⟩
        have b6 := b5.trans (h6.mono b5.size)
        go_wp2_with fail
        go_ret
        exact ⟨rfl, HB.out.2.2.trans (b6.mono HB.out.2.2.size)⟩
theorem law_tells (a : Option Addr) (n c : Nat) (l : List (Int × Int)) (stop : Int) (_ : -9223372036854775808 ≤ stop) (_ : stop < 9223372036854775808) (w : World) (h : Ops w a n l) : Calls Try.prog 5 #[.slice a n c, .int .i64 stop] w fun e w' => e = .returned (.bool true) ∧ Below w.heap.size w w' := by
  by_cases hn : n ≤ 150
  · exact law_avltells_few a n c l stop w h hn
  · exact law_avltells_many a n c stop w (by omega)
end Go.Proofs.Ytaackkfegkmpkaa
