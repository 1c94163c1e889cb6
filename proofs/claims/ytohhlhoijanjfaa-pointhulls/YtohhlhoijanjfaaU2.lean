/- Contracts of package point over the loaded program: product, difference, sum, turn, Turn. -/
import Derived.Test.YtohhlhoijanjfaaU1
import Derived.Test.YtohhlhoijanjfaaW9
import Derived.Test.YtohhlhoijanjfaaW11
namespace Go.Proofs.Ytohhlhoijanjfaa
open Go.RowKit Go.Shelf
attribute [local go_sem] Gr.size Gr.cell? Gr.frozen? Gr.setCell Gr.drew Gr.drewN Gr.of_drew Gr.of_drewN Gr.gr Gr.lt_of1 Gr.le_of1 Gr.lt_of2 Gr.le_of2 Gr.lt_of3 Gr.le_of3 Gr.lt_of4 Gr.le_of4 Gr.lt_of5 Gr.le_of5 Gr.lt_of6 Gr.le_of6 Gr.lt_of7 Gr.le_of7 Gr.lt_of8 Gr.le_of8 Gr.lt_of9 Gr.le_of9 Gr.lt_of10 Gr.le_of10 Gr.lt_of11 Gr.le_of11 Gr.lt_of12 Gr.le_of12 Gr.lt_of13 Gr.le_of13 Gr.lt_of14 Gr.le_of14 Gr.lt_of15 Gr.le_of15 Gr.lt_of16 Gr.le_of16 Gr.lt_of17 Gr.le_of17 Gr.lt_of18 Gr.le_of18 Gr.lt_of19 Gr.le_of19 Gr.lt_of20 Gr.le_of20 Gr.lt_of21 Gr.le_of21 Gr.lt_of22 Gr.le_of22 Gr.lt_of23 Gr.le_of23 Gr.lt_of24 Gr.le_of24

theorem IsGr.cell_at {w w' : World} (h : IsGr w w') {g o : Nat} {v : Value} (hg : g < w.heap.size) (hc : w.cell? ⟨g, o, none⟩ = some v) : w'.cell? ⟨g, o, none⟩ = some v := (h.below.cell (p := ⟨g, o, none⟩) hg).trans hc
theorem IsGr.frozen_at {w w' : World} (h : IsGr w w') {g o : Nat} {v : Bool} (hg : g < w.heap.size) (hc : w.frozen? ⟨g, o, none⟩ = v) : w'.frozen? ⟨g, o, none⟩ = v := by
  obtain ⟨os, n, rfl⟩ := h
  rw [Gr.frozen? _ _ _ _ _ hg]; exact hc
theorem Below.gro {B : Nat} {w X : World} (h : Below B w X) (hB : B ≤ X.heap.size) (os : Array Obj) (n : Nat) : Below B w (Gr X os n) :=
  h.trans (((IsGr.refl X).gr os n).below.mono hB)
theorem Told.yes {z s0 s1 s2 s3 : Int} {ok : Bool} (h : Told z s0 s1 s2 s3 ok) (hz : -57896044618658097711785492504343953926634992332820282019728792003956564819968 ≤ z ∧ z < 57896044618658097711785492504343953926634992332820282019728792003956564819968) : ok = true ∧ IsI s0 s1 s2 s3 z := by
  rcases h with h | ⟨_, h, _⟩
  · exact h
  · exact absurd hz h


set_option maxRecDepth 20000 in set_option maxHeartbeats 4000000 in
theorem product_any (x0 x1 x2 x3 x y0 y1 y2 y3 y : Int) (hx : IsI x0 x1 x2 x3 x) (hy : IsI y0 y1 y2 y3 y) (hb : -57896044618658097711785492504343953926634992332820282019728792003956564819968 ≤ x * y ∧ x * y < 57896044618658097711785492504343953926634992332820282019728792003956564819968) (w : World) :
    Calls Try.prog 84 #[.agg #[.int .u64 x0, .int .u64 x1, .int .u64 x2, .int .u64 x3], .agg #[.int .u64 y0, .int .u64 y1, .int .u64 y2, .int .u64 y3]] w fun e w' => ∃ s0 s1 s2 s3 : Int, e = .returned (.agg #[.int .u64 s0, .int .u64 s1, .int .u64 s2, .int .u64 s3]) ∧ IsI s0 s1 s2 s3 (x * y) ∧ IsGr w w' := by
  have CM := fun w => Mul_any x0 x1 x2 x3 x y0 y1 y2 y3 y hx hy w
  have HB : Hid (-57896044618658097711785492504343953926634992332820282019728792003956564819968 ≤ x * y ∧ x * y < 57896044618658097711785492504343953926634992332820282019728792003956564819968) := hb
  clear hb hx hy
  go_enter Try.func84, Try.ntmps84
  go_wp2_with fail
  refine (CM _).mono ?_
  rintro e w1 ⟨s0, s1, s2, s3, ok, rfl, hT, os1, n1, rfl⟩
  obtain ⟨rfl, hs⟩ := hT.yes HB.out
  clear hT HB
  go_wp2
  exact bodyPost_ret (v := .agg #[.int .u64 s0, .int .u64 s1, .int .u64 s2, .int .u64 s3]) (by simp [results, Try.results84, go_sem]) rfl ⟨s0, s1, s2, s3, rfl, hs, (by with_reducible repeat (first | exact IsGr.refl _ | refine IsGr.gr ?_ _ _ | refine IsGr.alloc ?_ _ | refine IsGr.drew ?_ | refine IsGr.drewN ?_ _))⟩

set_option maxRecDepth 20000 in set_option maxHeartbeats 4000000 in
theorem difference_any (x0 x1 x2 x3 x y0 y1 y2 y3 y : Int) (hx : IsI x0 x1 x2 x3 x) (hy : IsI y0 y1 y2 y3 y) (hb : -57896044618658097711785492504343953926634992332820282019728792003956564819968 ≤ x - y ∧ x - y < 57896044618658097711785492504343953926634992332820282019728792003956564819968) (w : World) :
    Calls Try.prog 103 #[.agg #[.int .u64 x0, .int .u64 x1, .int .u64 x2, .int .u64 x3], .agg #[.int .u64 y0, .int .u64 y1, .int .u64 y2, .int .u64 y3]] w fun e w' => ∃ s0 s1 s2 s3 : Int, e = .returned (.agg #[.int .u64 s0, .int .u64 s1, .int .u64 s2, .int .u64 s3]) ∧ IsI s0 s1 s2 s3 (x - y) ∧ IsGr w w' := by
  have CM := fun w => Sub_any x0 x1 x2 x3 x y0 y1 y2 y3 y hx hy w
  have HB : Hid (-57896044618658097711785492504343953926634992332820282019728792003956564819968 ≤ x - y ∧ x - y < 57896044618658097711785492504343953926634992332820282019728792003956564819968) := hb
  clear hb hx hy
  go_enter Try.func103, Try.ntmps103
  go_wp2_with fail
  refine (CM _).mono ?_
  rintro e w1 ⟨s0, s1, s2, s3, ok, rfl, hT, os1, n1, rfl⟩
  obtain ⟨rfl, hs⟩ := hT.yes HB.out
  clear hT HB
  go_wp2
  exact bodyPost_ret (v := .agg #[.int .u64 s0, .int .u64 s1, .int .u64 s2, .int .u64 s3]) (by simp [results, Try.results103, go_sem]) rfl ⟨s0, s1, s2, s3, rfl, hs, (by with_reducible repeat (first | exact IsGr.refl _ | refine IsGr.gr ?_ _ _ | refine IsGr.alloc ?_ _ | refine IsGr.drew ?_ | refine IsGr.drewN ?_ _))⟩

set_option maxRecDepth 20000 in set_option maxHeartbeats 4000000 in
theorem sum_any (x0 x1 x2 x3 x y0 y1 y2 y3 y : Int) (hx : IsI x0 x1 x2 x3 x) (hy : IsI y0 y1 y2 y3 y) (hb : -57896044618658097711785492504343953926634992332820282019728792003956564819968 ≤ x + y ∧ x + y < 57896044618658097711785492504343953926634992332820282019728792003956564819968) (w : World) :
    Calls Try.prog 83 #[.agg #[.int .u64 x0, .int .u64 x1, .int .u64 x2, .int .u64 x3], .agg #[.int .u64 y0, .int .u64 y1, .int .u64 y2, .int .u64 y3]] w fun e w' => ∃ s0 s1 s2 s3 : Int, e = .returned (.agg #[.int .u64 s0, .int .u64 s1, .int .u64 s2, .int .u64 s3]) ∧ IsI s0 s1 s2 s3 (x + y) ∧ IsGr w w' := by
  have CM := fun w => Add_any x0 x1 x2 x3 x y0 y1 y2 y3 y hx hy w
  have HB : Hid (-57896044618658097711785492504343953926634992332820282019728792003956564819968 ≤ x + y ∧ x + y < 57896044618658097711785492504343953926634992332820282019728792003956564819968) := hb
  clear hb hx hy
  go_enter Try.func83, Try.ntmps83
  go_wp2_with fail
  refine (CM _).mono ?_
  rintro e w1 ⟨s0, s1, s2, s3, ok, rfl, hT, os1, n1, rfl⟩
  obtain ⟨rfl, hs⟩ := hT.yes HB.out
  clear hT HB
  go_wp2
  exact bodyPost_ret (v := .agg #[.int .u64 s0, .int .u64 s1, .int .u64 s2, .int .u64 s3]) (by simp [results, Try.results83, go_sem]) rfl ⟨s0, s1, s2, s3, rfl, hs, (by with_reducible repeat (first | exact IsGr.refl _ | refine IsGr.gr ?_ _ _ | refine IsGr.alloc ?_ _ | refine IsGr.drew ?_ | refine IsGr.drewN ?_ _))⟩
end Go.Proofs.Ytohhlhoijanjfaa
