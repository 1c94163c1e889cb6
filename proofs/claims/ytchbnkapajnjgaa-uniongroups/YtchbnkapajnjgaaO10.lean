/- gromalaw08 over the loaded program: awake. -/
import Derived.Test.YtchbnkapajnjgaaO9
namespace Go.Proofs.Ytchbnkapajnjgaa
open Go.RowKit Go.Shelf
attribute [local go_sem] Gr.size Gr.cell? Gr.frozen? Gr.setCell Gr.drew Gr.drewN Gr.of_drew Gr.of_drewN Gr.gr Gr.lt_of1 Gr.le_of1 Gr.lt_of2 Gr.le_of2 Gr.lt_of3 Gr.le_of3 Gr.lt_of4 Gr.le_of4 Gr.lt_of5 Gr.le_of5 Gr.lt_of6 Gr.le_of6 Gr.lt_of7 Gr.le_of7 Gr.lt_of8 Gr.le_of8 Gr.lt_of9 Gr.le_of9 Gr.lt_of10 Gr.le_of10 Gr.lt_of11 Gr.le_of11 Gr.lt_of12 Gr.le_of12 Gr.lt_of13 Gr.le_of13 Gr.lt_of14 Gr.le_of14 Gr.lt_of15 Gr.le_of15 Gr.lt_of16 Gr.le_of16 Gr.lt_of17 Gr.le_of17 Gr.lt_of18 Gr.le_of18 Gr.lt_of19 Gr.le_of19 Gr.lt_of20 Gr.le_of20 Gr.lt_of21 Gr.le_of21 Gr.lt_of22 Gr.le_of22 Gr.lt_of23 Gr.le_of23 Gr.lt_of24 Gr.le_of24
/-- What Join answers. -/
theorem Join_any {base t gu gz gm : Nat} {x : List Int} (a b : Nat) (w : World) (h : Un w base t gu gz gm x) (ha : a < x.length) (hb : b < x.length) :
    Calls Try.prog 10 #[.pointer (some ⟨t, 0, none⟩), .int .i64 a, .int .i64 b] w fun e w' => e = .returned (.tuple #[.bool (decide (x.getD a 0 ≠ x.getD b 0)), .int .i64 0]) ∧ Un w' base t gu gz gm (jn x a b) ∧ Wr [t, gu, gz, gm] w w' := by
  by_cases he : x.getD a 0 = x.getD b 0
  · rw [jn_same he, decide_eq_false (fun h => h he)]
    exact (Join_same a b w h ha hb he).mono fun e w' ⟨h1, h2⟩ => ⟨h1, h2 ▸ h, h2 ▸ Wr.refl _ _⟩
  · rw [decide_eq_true he]
    exact Join_ne a b w h ha hb he
theorem Un.sb {w : World} {base t gu gz gm : Nat} {x : List Int} (h : Un w base t gu gz gm x) : Sb w t gu gz gm x.length (cntU x x.length : Nat) := by
  obtain ⟨u, z, m, h1, h2⟩ := h.tr
  exact h2.b
theorem Un.bw {w w' : World} {base t gu gz gm : Nat} {x : List Int} (h : Un w base t gu gz gm x) (hg : Wr [t, gu, gz, gm] w w') {n : Nat} (hn : n ≤ base) (hb : base ≤ w.heap.size) : Below n w w' :=
  hg.below (by omega) (fun b hb => by have := h.low' b hb; omega)
theorem un_low {w w1 : World} {t : Nat} {x : List Int} (h : UnE w1 w.heap.size t x) : ∃ gu gz gm, Un w1 w.heap.size t gu gz gm x := h
set_option maxRecDepth 20000 in set_option maxHeartbeats 2000000 in
theorem awake_any (w : World) : Calls Try.prog 7 #[] w fun e w' => e = .returned (.bool true) ∧ Below w.heap.size w w' := by
  have CN := New_any 4 w
  rw [show mkn 4 = 4 from rfl] at CN
  go_enter Try.func7, Try.ntmps7
  go_wp2_with fail
  refine CN.mono ?_
  clear CN
  rintro e w1 ⟨t, rfl, ⟨gu, gz, gm, hu⟩, hb⟩
  have C1 := Join_any 1 3 w1 hu (by decide) (by decide)
  rw [show decide ((rng 4).getD 1 0 ≠ (rng 4).getD 3 0) = true from rfl, show jn (rng 4) 1 3 = [0, 1, 2, 1] from rfl] at C1
  have HB : Hid (Below w.heap.size w w1 ∧ w.heap.size ≤ w1.heap.size) := ⟨hb, hb.size⟩
  have HU : Hid (Un w1 w.heap.size t gu gz gm (rng 4)) := hu
  clear hu hb
  go_wp2_with fail
  refine C1.mono ?_
  clear C1
  rintro e w2 ⟨rfl, hu, hw⟩
  have HB2 : Hid (Below w.heap.size w w2) := HB.out.1.trans (HU.out.bw hw (Nat.le_refl _) HB.out.2)
  have C2 := Join_same 3 1 w2 hu (by decide) (by decide) rfl
  have C3 := Join_no 4 1 w2 hu.sb rfl
  have C4 := Least_yes 3 w2 hu (by decide)
  rw [show ([0, 1, 2, 1] : List Int).getD 3 0 = 1 from rfl] at C4
  have HU2 : Hid (Un w2 w.heap.size t gu gz gm [0, 1, 2, 1]) := hu
  clear hu hw HU HB
  go_wp2_with fail
  refine C2.mono ?_
  clear C2
  rintro e w3 ⟨rfl, e3⟩
  obtain rfl := e3.symm
  go_wp2_with fail
  refine C3.mono ?_
  clear C3
  rintro e w3 ⟨rfl, e3⟩
  obtain rfl := e3.symm
  go_wp2_with fail
  refine C4.mono ?_
  clear C4
  rintro e w3 ⟨rfl, hg3⟩
  have HU3 : Hid (Un w3 w.heap.size t gu gz gm [0, 1, 2, 1] ∧ Below w.heap.size w w3) := ⟨HU2.out.gr hg3, HB2.out.trans (hg3.below.mono HB2.out.size)⟩
  have C5 := Count_any w3 HU3.out.1.sb
  have C6 := Same_any 1 3 w3 HU3.out.1
  have C7 := Same_any 1 2 w3 HU3.out.1
  rw [show ((cntU [0, 1, 2, 1] ([0, 1, 2, 1] : List Int).length : Nat) : Int) = 3 from rfl] at C5
  rw [show smB [0, 1, 2, 1] 1 3 = true from rfl] at C6
  rw [show smB [0, 1, 2, 1] 1 2 = false from rfl] at C7
  clear HU2 HB2 hg3
  go_wp2_with fail
  refine C5.mono ?_
  clear C5
  rintro e w4 ⟨rfl, e4⟩
  obtain rfl := e4.symm
  go_wp2_with fail
  refine C6.mono ?_
  clear C6
  rintro e w4 ⟨rfl, e4⟩
  obtain rfl := e4.symm
  go_wp2_with fail
  refine C7.mono ?_
  clear C7
  rintro e w4 ⟨rfl, e4⟩
  obtain rfl := e4.symm
  go_wp2_with fail
  go_ret
  exact ⟨rfl, HU3.out.2⟩
end Go.Proofs.Ytchbnkapajnjgaa
