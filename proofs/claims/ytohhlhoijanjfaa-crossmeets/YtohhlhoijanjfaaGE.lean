/- Boxes of six cells that a region lays in whatever order: what stays so behind an alloc, a call that lets the world grow, and a store into one of them. Boxes with a spot of package gromaref04 in them, that a region lays in whatever order; two spots of package cross that are the same. -/
import Derived.Test.YtohhlhoijanjfaaGA
import Derived.Test.YtohhlhoijanjfaaGD
namespace Go.Proofs.Ytohhlhoijanjfaa
open Go


/-- v points to a box of 6 cells, laid behind W. -/
def Bx6 (W w : World) (T : TypeId) (v : Value) : Prop := ∃ b c0 c1 c2 c3 c4 c5, v = .pointer (some ⟨b, 0, none⟩) ∧ W.heap.size ≤ b ∧ w.heap[b]? = some (.cells #[c0, c1, c2, c3, c4, c5] T)
/-- v points to a box that holds these 6. -/
def Hx6 (w : World) (T : TypeId) (v c0 c1 c2 c3 c4 c5 : Value) : Prop := ∃ b, v = .pointer (some ⟨b, 0, none⟩) ∧ w.heap[b]? = some (.cells #[c0, c1, c2, c3, c4, c5] T)
section
variable {W w w' : World} {T : TypeId} {u v : Value}
theorem Bx6.gr (h : Bx6 W w T v) (hg : IsGr w w') : Bx6 W w' T v := by
  obtain ⟨b, c0, c1, c2, c3, c4, c5, h1, h2, h3⟩ := h
  exact ⟨b, c0, c1, c2, c3, c4, c5, h1, h2, hg.block h3⟩
theorem Hx6.gr {c0 c1 c2 c3 c4 c5 : Value} (h : Hx6 w T v c0 c1 c2 c3 c4 c5) (hg : IsGr w w') : Hx6 w' T v c0 c1 c2 c3 c4 c5 := by
  obtain ⟨b, h1, h2⟩ := h
  exact ⟨b, h1, hg.block h2⟩
theorem Bx6.lay (hg : IsGr W w) (c0 c1 c2 c3 c4 c5 : Value) : Bx6 W (w.alloc (.cells #[c0, c1, c2, c3, c4, c5] T)) T (.pointer (some ⟨w.heap.size, 0, none⟩)) :=
  ⟨w.heap.size, c0, c1, c2, c3, c4, c5, rfl, hg.size, by show (w.heap.push _)[w.heap.size]? = _; simp⟩
theorem Bx6.ne (h : Bx6 W w T v) : v ≠ .pointer (some ⟨w.heap.size, 0, none⟩) := by
  obtain ⟨b, c0, c1, c2, c3, c4, c5, h1, h2, h3⟩ := h
  have := (Array.getElem?_eq_some_iff.1 h3).1
  rintro rfl
  injection h1 with h1
  injection h1 with h1
  injection h1 with h1
  omega
/-- A store into the cells of a box. -/
def put6 (w : World) (b : Nat) (c0 c1 c2 c3 c4 c5 : Value) : World := ((((((w.setCell ⟨b, 0, none⟩ c0).setCell ⟨b, 1, none⟩ c1).setCell ⟨b, 2, none⟩ c2).setCell ⟨b, 3, none⟩ c3).setCell ⟨b, 4, none⟩ c4).setCell ⟨b, 5, none⟩ c5)
theorem put6_block {b g : Nat} {d0 d1 d2 d3 d4 d5 c0 c1 c2 c3 c4 c5 : Value} (hb : w.heap[b]? = some (.cells #[d0, d1, d2, d3, d4, d5] T)) : (put6 w b c0 c1 c2 c3 c4 c5).heap[g]? = if g = b then some (.cells #[c0, c1, c2, c3, c4, c5] T) else w.heap[g]? := by
  unfold put6
  simp only [World.setCell, Option.isSome_none, Bool.false_eq_true, if_false]
  by_cases h : g = b
  · subst h; simp [Array.getElem?_modify, hb]
  · have : b ≠ g := Ne.symm h
    simp [Array.getElem?_modify, h, this]
theorem put6_gr {b : Nat} {c0 c1 c2 c3 c4 c5 : Value} (hg : IsGr W w) (hW : W.heap.size ≤ b) : IsGr W (put6 w b c0 c1 c2 c3 c4 c5) :=
  IsGr.of_below (Go.RowKit.Below.setCell (Go.RowKit.Below.setCell (Go.RowKit.Below.setCell (Go.RowKit.Below.setCell (Go.RowKit.Below.setCell (Go.RowKit.Below.setCell hg.below (by simpa using hW) _) (by simpa using hW) _) (by simpa using hW) _) (by simpa using hW) _) (by simpa using hW) _) (by simpa using hW) _)
theorem put6_hx {b : Nat} {d0 d1 d2 d3 d4 d5 c0 c1 c2 c3 c4 c5 e0 e1 e2 e3 e4 e5 : Value} (hb : w.heap[b]? = some (.cells #[d0, d1, d2, d3, d4, d5] T)) (h : Hx6 w T u e0 e1 e2 e3 e4 e5) (hn : u ≠ .pointer (some ⟨b, 0, none⟩)) : Hx6 (put6 w b c0 c1 c2 c3 c4 c5) T u e0 e1 e2 e3 e4 e5 := by
  obtain ⟨g, h1, h3⟩ := h
  have hgb : g ≠ b := by rintro rfl; exact hn h1
  exact ⟨g, h1, by rw [put6_block hb, if_neg hgb]; exact h3⟩
theorem put6_new {b : Nat} {d0 d1 d2 d3 d4 d5 c0 c1 c2 c3 c4 c5 : Value} (hb : w.heap[b]? = some (.cells #[d0, d1, d2, d3, d4, d5] T)) : Hx6 (put6 w b c0 c1 c2 c3 c4 c5) T (.pointer (some ⟨b, 0, none⟩)) c0 c1 c2 c3 c4 c5 :=
  ⟨b, rfl, by rw [put6_block hb, if_pos rfl]⟩
theorem block_cells6 {b : Nat} {c0 c1 c2 c3 c4 c5 : Value} (hb : w.heap[b]? = some (.cells #[c0, c1, c2, c3, c4, c5] T)) : b < w.heap.size ∧ (w.cell? ⟨b, 0, none⟩ = some c0 ∧ w.cell? ⟨b, 1, none⟩ = some c1 ∧ w.cell? ⟨b, 2, none⟩ = some c2 ∧ w.cell? ⟨b, 3, none⟩ = some c3 ∧ w.cell? ⟨b, 4, none⟩ = some c4 ∧ w.cell? ⟨b, 5, none⟩ = some c5) ∧ w.frozen? ⟨b, 0, none⟩ = false ∧ w.frozen? ⟨b, 1, none⟩ = false ∧ w.frozen? ⟨b, 2, none⟩ = false ∧ w.frozen? ⟨b, 3, none⟩ = false ∧ w.frozen? ⟨b, 4, none⟩ = false ∧ w.frozen? ⟨b, 5, none⟩ = false := by
  refine ⟨(Array.getElem?_eq_some_iff.1 hb).1, ⟨?_, ?_, ?_, ?_, ?_, ?_⟩, ?_, ?_, ?_, ?_, ?_, ?_⟩ <;> simp [World.cell?, World.frozen?, hb]
end
end Go.Proofs.Ytohhlhoijanjfaa
namespace Go.Proofs.Ytohhlhoijanjfaa
open Go Go.RowKit

/-- The cells of a spot's box. -/
def spCells (c0 c1 c2 c3 c4 c5 : Value) : Prop := ∃ (xs : Bool) (xa : Option Addr) (xn xc : Nat) (ys : Bool) (ya : Option Addr) (yn yc : Nat) (zs : Bool) (za : Option Addr) (zn zc : Nat), c0 = .bool xs ∧ c1 = .slice xa xn xc ∧ c2 = .bool ys ∧ c3 = .slice ya yn yc ∧ c4 = .bool zs ∧ c5 = .slice za zn zc
/-- v points to a box of a spot, laid behind W. -/
def BxS (W w : World) (T : TypeId) (v : Value) : Prop := ∃ b c0 c1 c2 c3 c4 c5, v = .pointer (some ⟨b, 0, none⟩) ∧ W.heap.size ≤ b ∧ w.heap[b]? = some (.cells #[c0, c1, c2, c3, c4, c5] T) ∧ spCells c0 c1 c2 c3 c4 c5
section
variable {W w w' : World} {T : TypeId} {u v : Value}
theorem BxS.gr (h : BxS W w T v) (hg : IsGr w w') : BxS W w' T v := by
  obtain ⟨b, c0, c1, c2, c3, c4, c5, h1, h2, h3, h4⟩ := h
  exact ⟨b, c0, c1, c2, c3, c4, c5, h1, h2, hg.block h3, h4⟩
theorem BxS.lay (hg : IsGr W w) : BxS W (w.alloc (.cells #[.bool false, .slice none 0 0, .bool false, .slice none 0 0, .bool false, .slice none 0 0] T)) T (.pointer (some ⟨w.heap.size, 0, none⟩)) :=
  ⟨w.heap.size, .bool false, .slice none 0 0, .bool false, .slice none 0 0, .bool false, .slice none 0 0, rfl, hg.size, by show (w.heap.push _)[w.heap.size]? = _; simp, ⟨false, none, 0, 0, false, none, 0, 0, false, none, 0, 0, rfl, rfl, rfl, rfl, rfl, rfl⟩⟩
theorem BxS.ne (h : BxS W w T v) : v ≠ .pointer (some ⟨w.heap.size, 0, none⟩) := by
  obtain ⟨b, c0, c1, c2, c3, c4, c5, h1, h2, h3, h4⟩ := h
  have := (Array.getElem?_eq_some_iff.1 h3).1
  rintro rfl
  injection h1 with h1
  injection h1 with h1
  injection h1 with h1
  omega
theorem put6_bxS {b : Nat} {d0 d1 d2 d3 d4 d5 c0 c1 c2 c3 c4 c5 : Value} (hb : w.heap[b]? = some (.cells #[d0, d1, d2, d3, d4, d5] T)) (hp : spCells c0 c1 c2 c3 c4 c5) (h : BxS W w T u) : BxS W (put6 w b c0 c1 c2 c3 c4 c5) T u := by
  obtain ⟨g, e0, e1, e2, e3, e4, e5, h1, h2, h3, h4⟩ := h
  by_cases hgb : g = b
  · exact ⟨g, c0, c1, c2, c3, c4, c5, h1, h2, by rw [put6_block hb, if_pos hgb], hp⟩
  · exact ⟨g, e0, e1, e2, e3, e4, e5, h1, h2, by rw [put6_block hb, if_neg hgb]; exact h3, h4⟩
theorem put6_kb {b : Nat} {d0 d1 d2 d3 d4 d5 c0 c1 c2 c3 c4 c5 : Value} (hb : w.heap[b]? = some (.cells #[d0, d1, d2, d3, d4, d5] T)) (hd : spCells d0 d1 d2 d3 d4 d5) : Kb w (put6 w b c0 c1 c2 c3 c4 c5) := by
  refine ⟨by simp [put6], fun g o n e => ?_⟩
  have : g ≠ b := by
    rintro rfl
    obtain ⟨xs, xa, xn, xc, ys, ya, yn, yc, zs, za, zn, zc, rfl, rfl, rfl, rfl, rfl, rfl⟩ := hd
    simp only [World.cell?, hb] at e
    match o with
    | 0 => simp at e
    | 1 => simp at e
    | 2 => simp at e
    | 3 => simp at e
    | 4 => simp at e
    | 5 => simp at e
    | m + 6 => simp at e
  simp only [World.cell?] at e ⊢
  rw [put6_block hb, if_neg this]
  exact e
theorem sp_cells {x y z : Int} (h : IsSp w v x y z) : ∃ c0 c1 c2 c3 c4 c5 : Value, v = .agg #[c0, c1, c2, c3, c4, c5] ∧ spCells c0 c1 c2 c3 c4 c5 := by
  obtain ⟨xs, xa, xn, xc, ys, ya, yn, yc, zs, za, zn, zc, rfl, _⟩ := h
  exact ⟨_, _, _, _, _, _, rfl, ⟨_, _, _, _, _, _, _, _, _, _, _, _, rfl, rfl, rfl, rfl, rfl, rfl⟩⟩
/-- The cells of a point. -/
def Pc (w : World) (b : Nat) (x y : Int) : Prop := w.cell? ⟨b, 0, none⟩ = some (.int .i64 x) ∧ w.cell? ⟨b, 1, none⟩ = some (.int .i64 y)
theorem Pc.gr {w w' : World} {b : Nat} {x y : Int} (h : Pc w b x y) (hg : IsGr w w') (hb : b < w.heap.size) : Pc w' b x y :=
  ⟨hg.cell_at hb h.1, hg.cell_at hb h.2⟩
/-- The cells of a segment. -/
def Sc (w : World) (b : Nat) (x y u v : Int) : Prop := w.cell? ⟨b, 0, none⟩ = some (.int .i64 x) ∧ w.cell? ⟨b, 1, none⟩ = some (.int .i64 y) ∧ w.cell? ⟨b, 2, none⟩ = some (.int .i64 u) ∧ w.cell? ⟨b, 3, none⟩ = some (.int .i64 v)
theorem Sc.gr {w w' : World} {b : Nat} {x y u v : Int} (h : Sc w b x y u v) (hg : IsGr w w') (hb : b < w.heap.size) : Sc w' b x y u v :=
  ⟨hg.cell_at hb h.1, hg.cell_at hb h.2.1, hg.cell_at hb h.2.2.1, hg.cell_at hb h.2.2.2⟩
/-- The cells of a spot of package cross. -/
def Kc (w : World) (b : Nat) (x y z : Int) : Prop := w.cell? ⟨b, 0, none⟩ = some (.int .u64 (wd0 x)) ∧ w.cell? ⟨b, 1, none⟩ = some (.int .u64 (wd1 x)) ∧ w.cell? ⟨b, 2, none⟩ = some (.int .u64 (wd2 x)) ∧ w.cell? ⟨b, 3, none⟩ = some (.int .u64 (wd3 x)) ∧ w.cell? ⟨b, 4, none⟩ = some (.int .u64 (wd0 y)) ∧ w.cell? ⟨b, 5, none⟩ = some (.int .u64 (wd1 y)) ∧ w.cell? ⟨b, 6, none⟩ = some (.int .u64 (wd2 y)) ∧ w.cell? ⟨b, 7, none⟩ = some (.int .u64 (wd3 y)) ∧ w.cell? ⟨b, 8, none⟩ = some (.int .u64 (wd0 z)) ∧ w.cell? ⟨b, 9, none⟩ = some (.int .u64 (wd1 z)) ∧ w.cell? ⟨b, 10, none⟩ = some (.int .u64 (wd2 z)) ∧ w.cell? ⟨b, 11, none⟩ = some (.int .u64 (wd3 z))
theorem Kc.gr {w w' : World} {b : Nat} {x y z : Int} (h : Kc w b x y z) (hg : IsGr w w') (hb : b < w.heap.size) : Kc w' b x y z :=
  ⟨hg.cell_at hb h.1, hg.cell_at hb h.2.1, hg.cell_at hb h.2.2.1, hg.cell_at hb h.2.2.2.1, hg.cell_at hb h.2.2.2.2.1, hg.cell_at hb h.2.2.2.2.2.1, hg.cell_at hb h.2.2.2.2.2.2.1, hg.cell_at hb h.2.2.2.2.2.2.2.1, hg.cell_at hb h.2.2.2.2.2.2.2.2.1, hg.cell_at hb h.2.2.2.2.2.2.2.2.2.1, hg.cell_at hb h.2.2.2.2.2.2.2.2.2.2.1, hg.cell_at hb h.2.2.2.2.2.2.2.2.2.2.2⟩
/-- The cells of a zero spot. -/
def Zc (w : World) (b : Nat)  : Prop := w.cell? ⟨b, 0, none⟩ = some (.int .u64 0) ∧ w.cell? ⟨b, 1, none⟩ = some (.int .u64 0) ∧ w.cell? ⟨b, 2, none⟩ = some (.int .u64 0) ∧ w.cell? ⟨b, 3, none⟩ = some (.int .u64 0) ∧ w.cell? ⟨b, 4, none⟩ = some (.int .u64 0) ∧ w.cell? ⟨b, 5, none⟩ = some (.int .u64 0) ∧ w.cell? ⟨b, 6, none⟩ = some (.int .u64 0) ∧ w.cell? ⟨b, 7, none⟩ = some (.int .u64 0) ∧ w.cell? ⟨b, 8, none⟩ = some (.int .u64 0) ∧ w.cell? ⟨b, 9, none⟩ = some (.int .u64 0) ∧ w.cell? ⟨b, 10, none⟩ = some (.int .u64 0) ∧ w.cell? ⟨b, 11, none⟩ = some (.int .u64 0)
theorem Zc.gr {w w' : World} {b : Nat}  (h : Zc w b ) (hg : IsGr w w') (hb : b < w.heap.size) : Zc w' b  :=
  ⟨hg.cell_at hb h.1, hg.cell_at hb h.2.1, hg.cell_at hb h.2.2.1, hg.cell_at hb h.2.2.2.1, hg.cell_at hb h.2.2.2.2.1, hg.cell_at hb h.2.2.2.2.2.1, hg.cell_at hb h.2.2.2.2.2.2.1, hg.cell_at hb h.2.2.2.2.2.2.2.1, hg.cell_at hb h.2.2.2.2.2.2.2.2.1, hg.cell_at hb h.2.2.2.2.2.2.2.2.2.1, hg.cell_at hb h.2.2.2.2.2.2.2.2.2.2.1, hg.cell_at hb h.2.2.2.2.2.2.2.2.2.2.2⟩
/-- The cells of a spot of package gromaref04. -/
def Rc (w : World) (b : Nat) (xs : Bool) (xa : Option Addr) (xn xc : Nat) (ys : Bool) (ya : Option Addr) (yn yc : Nat) (zs : Bool) (za : Option Addr) (zn zc : Nat) : Prop := w.cell? ⟨b, 0, none⟩ = some (.bool xs) ∧ w.cell? ⟨b, 1, none⟩ = some (.slice xa xn xc) ∧ w.cell? ⟨b, 2, none⟩ = some (.bool ys) ∧ w.cell? ⟨b, 3, none⟩ = some (.slice ya yn yc) ∧ w.cell? ⟨b, 4, none⟩ = some (.bool zs) ∧ w.cell? ⟨b, 5, none⟩ = some (.slice za zn zc)
theorem Rc.gr {w w' : World} {b : Nat} {xs : Bool} {xa : Option Addr} {xn xc : Nat} {ys : Bool} {ya : Option Addr} {yn yc : Nat} {zs : Bool} {za : Option Addr} {zn zc : Nat} (h : Rc w b xs xa xn xc ys ya yn yc zs za zn zc) (hg : IsGr w w') (hb : b < w.heap.size) : Rc w' b xs xa xn xc ys ya yn yc zs za zn zc :=
  ⟨hg.cell_at hb h.1, hg.cell_at hb h.2.1, hg.cell_at hb h.2.2.1, hg.cell_at hb h.2.2.2.1, hg.cell_at hb h.2.2.2.2.1, hg.cell_at hb h.2.2.2.2.2⟩
/-- v points to a box that holds a spot. -/
def SpBox (w : World) (v : Value) (x y z : Int) : Prop := ∃ (g : Nat) (xs : Bool) (xa : Option Addr) (xn xc : Nat) (ys : Bool) (ya : Option Addr) (yn yc : Nat) (zs : Bool) (za : Option Addr) (zn zc : Nat), v = .pointer (some ⟨g, 0, none⟩) ∧ g < w.heap.size ∧
  Rc w g xs xa xn xc ys ya yn yc zs za zn zc ∧
  IsSp w (.agg #[.bool xs, .slice xa xn xc, .bool ys, .slice ya yn yc, .bool zs, .slice za zn zc]) x y z
theorem SpBox.of {s : Value} {x y z : Int} (h : ∃ c0 c1 c2 c3 c4 c5 : Value, s = .agg #[c0, c1, c2, c3, c4, c5] ∧ Hx6 w T v c0 c1 c2 c3 c4 c5) (hs : IsSp w s x y z) : SpBox w v x y z := by
  obtain ⟨c0, c1, c2, c3, c4, c5, rfl, b, rfl, hb⟩ := h
  have hs' := hs
  obtain ⟨xs, xa, xn, xc, ys, ya, yn, yc, zs, za, zn, zc, he, _⟩ := hs
  simp at he
  obtain ⟨rfl, rfl, rfl, rfl, rfl, rfl⟩ := he
  obtain ⟨k1, k2, _⟩ := block_cells6 hb
  exact ⟨b, xs, xa, xn, xc, ys, ya, yn, yc, zs, za, zn, zc, rfl, k1, k2, hs'⟩
end
theorem eq4_self (f : Nat) (a0 a1 a2 a3 : Int) (w : World) : (Op.equalIn (f + 1 + 1) 44 (.agg #[.int .u64 a0, .int .u64 a1, .int .u64 a2, .int .u64 a3]) (.agg #[.int .u64 a0, .int .u64 a1, .int .u64 a2, .int .u64 a3])).run Try.prog w = .ok true w := by
  have h22 : ∀ (a b : Int) w, (Op.equalIn (f + 1) 42 (.int .u64 a) (.int .u64 b)).run Try.prog w = .ok (a == b) w := fun a b w => run_equalIn_int w f 42 .u64 .u64 a b Try.underlying42
  rw [Op.equalIn]
  simp only [Sem.run_bind, run_underlying Try.underlying44, Result.andThen_ok]
  simp [go_sem, h22, List.range']
/-- A spot is the same as itself. -/
theorem eqS_self (a0 a1 a2 a3 b0 b1 b2 b3 c0 c1 c2 c3 : Int) (w : World) :
    (Op.equalIn 10000 46 (.agg #[.int .u64 a0, .int .u64 a1, .int .u64 a2, .int .u64 a3, .int .u64 b0, .int .u64 b1, .int .u64 b2, .int .u64 b3, .int .u64 c0, .int .u64 c1, .int .u64 c2, .int .u64 c3]) (.agg #[.int .u64 a0, .int .u64 a1, .int .u64 a2, .int .u64 a3, .int .u64 b0, .int .u64 b1, .int .u64 b2, .int .u64 b3, .int .u64 c0, .int .u64 c1, .int .u64 c2, .int .u64 c3])).run Try.prog w = .ok true w := by
  show (Op.equalIn (9999 + 1) 46 _ _).run Try.prog w = _
  have h1 := fun w => eq4_self 9997 a0 a1 a2 a3 w
  have h2 := fun w => eq4_self 9997 b0 b1 b2 b3 w
  have h3 := fun w => eq4_self 9997 c0 c1 c2 c3 w
  rw [Op.equalIn]
  simp only [Sem.run_bind, run_underlying Try.underlying46, Result.andThen_ok]
  simp [go_sem, h1, h2, h3]
end Go.Proofs.Ytohhlhoijanjfaa
