/- Numbers of decimal digits of package gromaref01. -/
import Derived.Test.YtfpifbfnebfdaaaDoorR11
import Derived.Test.YtfpifbfnebfdaaaDoorM7
import Derived.Deep.DeepCutAuto
namespace Go.Proofs.YtfpifbfnebfdaaaDoor
open Go.RowKit
attribute [local go_sem] Gr.size Gr.cell? Gr.frozen? Gr.setCell Gr.drew Gr.drewN Gr.of_drew Gr.of_drewN Gr.gr Gr.lt_of1 Gr.le_of1 Gr.lt_of2 Gr.le_of2 Gr.lt_of3 Gr.le_of3 Gr.lt_of4 Gr.le_of4 Gr.lt_of5 Gr.le_of5 Gr.lt_of6 Gr.le_of6 Gr.lt_of7 Gr.le_of7 Gr.lt_of8 Gr.le_of8

/-- What Digits answers: z, if the text has digits; else nothing. -/
def DigTold (w : World) (l : List Int) (v : Value) (ok : Bool) : Prop := (ok = true ∧ ∃ z, dspec l = some z ∧ IsBig w v z) ∨ (ok = false ∧ dspec l = none ∧ v = .agg #[.bool false, .slice none 0 0])

theorem IsGr.app (W : World) (os os' : Array Obj) (n n' : Nat) : IsGr (Gr W os n) (Gr W (os ++ os') n') := ⟨os', n', (Gr.gr _ _ _ _ _).symm⟩

/-- How the loop of Digits stands: k digits gathered in Z. -/
def Dl (l : List Int) (q : Option Int) (i k : Nat) (Z : Int) : Prop := 0 ≤ Z ∧ Z < 10 ^ k ∧ k ≤ i ∧ dval (l.drop i) Z = q

theorem Dl.sm {l : List Int} {q : Option Int} {i k : Nat} {Z : Int} (h : Dl l q i k Z) (hk : k ≤ 120) : Sm Z := by
  obtain ⟨h1, h2, _⟩ := h
  have h3 := pow_le_pow' (by decide : (1 : Int) ≤ 10) hk
  have h4 : (10 : Int) ^ 120 ≤ 4149515568880992958512407863691161151012446232242436899995657329690652811412908146399707048947103794288197886611300789182395151075411775307886874834113963687061181803401509523685376 := by decide +kernel
  unfold Sm; omega
theorem Dl.step {l : List Int} {q : Option Int} {i k : Nat} {Z c : Int} (h : Dl l q i k Z) (hc : l.drop i = c :: l.drop (i + 1)) (c0 : 48 ≤ c) (c1 : c ≤ 57) : Dl l q (i + 1) (k + 1) (Z * 10 + (c - 48)) := by
  obtain ⟨h1, h2, h3, h4⟩ := h
  rw [hc, dval_good c0 c1] at h4
  exact ⟨by omega, by rw [Int.pow_succ]; omega, by omega, h4⟩
theorem Dl.bad {l : List Int} {q : Option Int} {i k : Nat} {Z c : Int} (h : Dl l q i k Z) (hc : l.drop i = c :: l.drop (i + 1)) (hb : c < 48 ∨ 57 < c) : q = none := by
  obtain ⟨h1, h2, h3, h4⟩ := h
  rw [hc, dval_bad hb] at h4; exact h4.symm
theorem Dl.fin {l : List Int} {q : Option Int} {i k : Nat} {Z : Int} (h : Dl l q i k Z) (hi : l.length ≤ i) : q = some Z := by
  obtain ⟨h1, h2, h3, h4⟩ := h
  rw [List.drop_eq_nil_of_le hi] at h4
  exact h4.symm

/-- What the loop answers: the number of the digits, with its sign; or nothing. -/
def DgT (neg : Bool) (q : Option Int) (w : World) (v : Value) (ok : Bool) : Prop := (ok = true ∧ ∃ z, q = some z ∧ IsBig w v (sgn neg z)) ∨ (ok = false ∧ q = none ∧ v = .agg #[.bool false, .slice none 0 0])
/-- The whole of it. -/
def DgP (neg : Bool) (q : Option Int) (w : World) (e : Ending) (w' : World) : Prop := ∃ v ok, e = .returned (.tuple #[v, .bool ok]) ∧ DgT neg q w' v ok ∧ IsGr w w'
theorem DgP.no {neg : Bool} {q : Option Int} {w w' : World} (hq : q = none) (hg : IsGr w w') : DgP neg q w (.returned (.tuple #[.agg #[.bool false, .slice none 0 0], .bool false])) w' := ⟨_, _, rfl, Or.inr ⟨rfl, hq, rfl⟩, hg⟩
theorem DgP.yes {neg : Bool} {q : Option Int} {w w' : World} {v : Value} {z : Int} (hq : q = some z) (hb : IsBig w' v (sgn neg z)) (hg : IsGr w w') : DgP neg q w (.returned (.tuple #[v, .bool true])) w' := ⟨_, _, rfl, Or.inl ⟨rfl, z, hq, hb⟩, hg⟩

end Go.Proofs.YtfpifbfnebfdaaaDoor
