/- gromalaw10.divides. -/
import Derived.Test.YtfpifbfnebfdaaaDoorI4
import Derived.Deep.CutRange
import Derived.Deep.LoopGhost
namespace Go.Proofs.YtfpifbfnebfdaaaDoor
open Go.RowKit Go.Shelf
attribute [local go_sem] Gr.size Gr.cell? Gr.frozen? Gr.setCell Gr.drew Gr.drewN Gr.of_drew Gr.of_drewN Gr.gr Gr.lt_of1 Gr.le_of1 Gr.lt_of2 Gr.le_of2 Gr.lt_of3 Gr.le_of3 Gr.lt_of4 Gr.le_of4 Gr.lt_of5 Gr.le_of5 Gr.lt_of6 Gr.le_of6 Gr.lt_of7 Gr.le_of7 Gr.lt_of8 Gr.le_of8 Gr.lt_of9 Gr.le_of9 Gr.lt_of10 Gr.le_of10 Gr.lt_of11 Gr.le_of11 Gr.lt_of12 Gr.le_of12 Gr.lt_of13 Gr.le_of13 Gr.lt_of14 Gr.le_of14 Gr.lt_of15 Gr.le_of15 Gr.lt_of16 Gr.le_of16 Gr.lt_of17 Gr.le_of17 Gr.lt_of18 Gr.le_of18 Gr.lt_of19 Gr.le_of19 Gr.lt_of20 Gr.le_of20 Gr.lt_of21 Gr.le_of21 Gr.lt_of22 Gr.le_of22 Gr.lt_of23 Gr.le_of23 Gr.lt_of24 Gr.le_of24
/-- What lies in memory while divides reckons: the two boxes, the list of multiples. -/
structure DvI (w : World) (z y : Int) (v : Value) (vs : List Bw) (W : World) : Prop where
  bx : BgB W w.heap.size z
  bs : BgB W (w.heap.size + 1) y
  ls : LsB W (w.heap.size + 2) v vs
  ni : NoI W v
  bg : BgL W vs y
  bel : Below w.heap.size w W
theorem DvI.gr {w W W' : World} {z y : Int} {v : Value} {vs : List Bw} (h : DvI w z y v vs W) (hg : IsGr W W') : DvI w z y v vs W' :=
  ⟨h.bx.gr hg, h.bs.gr hg, h.ls.gr hg, h.ni.keep (fun g e => hg.below.block g (h.ls.own g e).2), h.bg.gr hg, h.bel.trans (hg.below.mono h.bel.size)⟩
theorem dv_app {w W W1 w9 : World} {z y : Int} {v v9 : Value} {vs : List Bw} {t : Bw} {P : Nat} {d : Int} (h : DvI w z y v vs W) (hP : BgB W P d) (hne : ∀ g, v.ownBlock = some g → g ≠ P) (ht : IsBig W (bwV t) (y * 2 ^ vs.length))
    (hg1 : IsGr W W1) (h9 : LsB w9 (w.heap.size + 2) v9 (vs ++ [t])) (i9 : NoI w9 v9) (g9 : W1.grownBy w9 v.ownBlock) : DvI w z y v9 (vs ++ [t]) w9 ∧ BgB w9 P d := by
  have h1 := h.gr hg1
  have hk := h1.ni.kb g9
  have hs := h1.bel.size
  have lo : ∀ g, v.ownBlock = some g → w.heap.size + 2 ≤ g := fun g e => (h.ls.own g e).1
  refine ⟨⟨h1.bx.kb hk (g9.block _ h1.bx.lt (fun e => by have := lo _ e.symm; omega)), h1.bs.kb hk (g9.block _ h1.bs.lt (fun e => by have := lo _ e.symm; omega)), h9, i9, (h1.bg.kb hk).snoc ((ht.gr hg1).kb hk), ?_⟩, ?_⟩
  · exact h1.bel.grown g9 hs (fun r e => by have := lo _ e; omega)
  · exact (hP.gr hg1).kb hk (g9.block _ (hP.gr hg1).lt (fun e => hne _ e.symm rfl))
theorem dv_put {w W : World} {z y : Int} {v : Value} {vs : List Bw} {P : Nat} {d d' : Int} {s : Bool} {a : Option Addr} {n c : Nat} (h : DvI w z y v vs W) (hP : BgB W P d) (hlo : w.heap.size + 2 ≤ P) (hne : ∀ g, v.ownBlock = some g → g ≠ P) (hd : IsBig W (.agg #[.bool s, .slice a n c]) d') :
    DvI w z y v vs ((W.setCell ⟨P, 0, none⟩ (.bool s)).setCell ⟨P, 1, none⟩ (.slice a n c)) ∧ BgB ((W.setCell ⟨P, 0, none⟩ (.bool s)).setCell ⟨P, 1, none⟩ (.slice a n c)) P d' := by
  have hk : Kb W ((W.setCell ⟨P, 0, none⟩ (.bool s)).setCell ⟨P, 1, none⟩ (.slice a n c)) := kb_put hP
  have hb : ∀ k, k ≠ P → ((W.setCell ⟨P, 0, none⟩ (.bool s)).setCell ⟨P, 1, none⟩ (.slice a n c)).heap[k]? = W.heap[k]? := fun k hk => by rw [set_block _ _ _ _ _ hk, set_block _ _ _ _ _ hk]
  exact ⟨⟨h.bx.kb hk (hb _ (by omega)), h.bs.kb hk (hb _ (by omega)), h.ls.keep (fun g e => hb g (hne g e)), h.ni.keep (fun g e => hb g (hne g e)), h.bg.kb hk, below_put h.bel (by omega)⟩, hP.put hd⟩
theorem dv_x {w W : World} {z z' y : Int} {v : Value} {vs : List Bw} {s : Bool} {a : Option Addr} {n c : Nat} (h : DvI w z y v vs W) (hd : IsBig W (.agg #[.bool s, .slice a n c]) z') :
    DvI w z' y v vs ((W.setCell ⟨w.heap.size, 0, none⟩ (.bool s)).setCell ⟨w.heap.size, 1, none⟩ (.slice a n c)) := by
  have hk : Kb W ((W.setCell ⟨w.heap.size, 0, none⟩ (.bool s)).setCell ⟨w.heap.size, 1, none⟩ (.slice a n c)) := kb_put h.bx
  have hb : ∀ k, k ≠ w.heap.size → ((W.setCell ⟨w.heap.size, 0, none⟩ (.bool s)).setCell ⟨w.heap.size, 1, none⟩ (.slice a n c)).heap[k]? = W.heap[k]? := fun k hk => by rw [set_block _ _ _ _ _ hk, set_block _ _ _ _ _ hk]
  have lo : ∀ g, v.ownBlock = some g → g ≠ w.heap.size := fun g e => by have := (h.ls.own g e).1; omega
  exact ⟨h.bx.put hd, h.bs.kb hk (hb _ (by omega)), h.ls.keep (fun g e => hb g (lo g e)), h.ni.keep (fun g e => hb g (lo g e)), h.bg.kb hk, below_put h.bel (Nat.le_refl _)⟩
theorem BgB.at {W : World} {P : Nat} {z : Int} {s : Bool} {a : Option Addr} {n c : Nat} (h : BgB W P z) (hb : W.heap[P]? = some (.cells #[.bool s, .slice a n c] 29 (0, 0))) : IsBig W (.agg #[.bool s, .slice a n c]) z := by
  obtain ⟨s', a', n', c', h1, h2⟩ := h
  have e := h1.symm.trans hb
  simp only [Option.some.injEq, Obj.cells.injEq, Array.mk.injEq, List.cons.injEq, Value.bool.injEq, Value.slice.injEq, and_true] at e
  obtain ⟨rfl, rfl, rfl, rfl⟩ := e
  exact h2
/-- How the remainder stands: below so many times y, and the same but for multiples of y. -/
def RmI (x y : Int) (j : Nat) (z : Int) : Prop := 0 ≤ z ∧ z < y * 2 ^ j ∧ (z ≤ 2 * 10 ^ 175 ∧ (∀ i, i < j → y * 2 ^ i ≤ 2 * 10 ^ 175)) ∧ z % y = x % y
theorem RmI.sub {x y z : Int} {i : Nat} (h : RmI x y (i + 1) z) (hz : y * 2 ^ i ≤ z) (hy : 0 < y) : RmI x y i (z - y * 2 ^ i) := by
  obtain ⟨h1, h2, ⟨h3, h4⟩, h5⟩ := h
  rw [Int.pow_succ, ← Int.mul_assoc] at h2
  have h6 : 0 ≤ y * 2 ^ i := Int.mul_nonneg (by omega) (Int.le_of_lt (Int.pow_pos (by omega)))
  exact ⟨by omega, by omega, ⟨by omega, fun k hk => h4 k (by omega)⟩, by rw [Int.sub_mul_emod_self_left]; exact h5⟩
theorem RmI.less {x y z : Int} {i : Nat} (h : RmI x y (i + 1) z) (hz : ¬ y * 2 ^ i ≤ z) : RmI x y i z := ⟨h.1, by omega, ⟨h.2.2.1.1, fun k hk => h.2.2.1.2 k (by omega)⟩, h.2.2.2⟩
theorem RmI.start {x y : Int} {k : Nat} (hx0 : 0 ≤ x) (hx : x ≤ 10 ^ 175) (hy : 0 < y) (h : ¬ y * 2 ^ k ≤ x) (hk : y * 2 ^ k ≤ 2 * 10 ^ 175) : RmI x y k x := by
  refine ⟨hx0, by omega, ⟨by omega, fun i hi => ?_⟩, rfl⟩
  have h1 := pow_le_pow' (by decide : (1 : Int) ≤ 2) (Nat.le_of_lt hi)
  have h2 : y * 2 ^ i ≤ y * 2 ^ k := Int.mul_le_mul_of_nonneg_left h1 (by omega)
  omega
theorem RmI.fin {x y z : Int} (h : RmI x y 0 z) : (cmpI z 0 == 0) = decide (x % y = 0) := by
  obtain ⟨h1, h2, -, h3⟩ := h
  rw [Int.pow_zero, Int.mul_one] at h2
  rw [Int.emod_eq_of_lt h1 h2] at h3
  rw [← h3, Bool.eq_iff_iff, beq_iff_eq, decide_eq_true_eq]
  unfold cmpI
  repeat' split
  all_goals omega
theorem dbl_lt {x y : Int} {k : Nat} (hy : 0 < y) (hx : x ≤ 10 ^ 175) (h : y * 2 ^ k ≤ x) : k < 600 := by
  rcases Nat.lt_or_ge k 600 with h1 | h1
  · exact h1
  · exfalso
    have h2 := pow_le_pow' (by decide : (1 : Int) ≤ 2) h1
    have h3 : (10 : Int) ^ 175 < 2 ^ 600 := by decide +kernel
    have h4 : 1 * (2 : Int) ^ k ≤ y * 2 ^ k := Int.mul_le_mul_of_nonneg_right (by omega) (by have : (0 : Int) < 2 ^ k := Int.pow_pos (by omega); omega)
    omega
end Go.Proofs.YtfpifbfnebfdaaaDoor
