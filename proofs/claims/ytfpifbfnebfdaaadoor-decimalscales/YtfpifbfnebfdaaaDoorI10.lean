/- What the functions of package decimal answer, as propositions; gromalaw10.awake, given these. -/
import Derived.Test.YtfpifbfnebfdaaaDoorI9
import Derived.Test.YtfpifbfnebfdaaaDoorI2
import Derived.Test.YtfpifbfnebfdaaaDoorC2
import Derived.Lib.LaidTab
import Derived.Lib.ItoaNum
import Derived.Lib.SmallJoins
namespace Go.Proofs.YtfpifbfnebfdaaaDoor
open Go.RowKit Go.Shelf
attribute [local go_sem] Gr.size Gr.cell? Gr.frozen? Gr.setCell Gr.drew Gr.drewN Gr.of_drew Gr.of_drewN Gr.gr Gr.lt_of1 Gr.le_of1 Gr.lt_of2 Gr.le_of2 Gr.lt_of3 Gr.le_of3 Gr.lt_of4 Gr.le_of4 Gr.lt_of5 Gr.le_of5 Gr.lt_of6 Gr.le_of6 Gr.lt_of7 Gr.le_of7 Gr.lt_of8 Gr.le_of8 Gr.lt_of9 Gr.le_of9 Gr.lt_of10 Gr.le_of10 Gr.lt_of11 Gr.le_of11 Gr.lt_of12 Gr.le_of12 Gr.lt_of13 Gr.le_of13 Gr.lt_of14 Gr.le_of14 Gr.lt_of15 Gr.le_of15 Gr.lt_of16 Gr.le_of16 Gr.lt_of17 Gr.le_of17 Gr.lt_of18 Gr.le_of18 Gr.lt_of19 Gr.le_of19 Gr.lt_of20 Gr.le_of20 Gr.lt_of21 Gr.le_of21 Gr.lt_of22 Gr.le_of22 Gr.lt_of23 Gr.le_of23 Gr.lt_of24 Gr.le_of24
/-- What Digits answers: the digits, the power, below 0 or not. -/
def DgR (M E : Int) (d : List Int) (p : Int) (below : Bool) : Prop :=
  (M = 0 ∧ d = [] ∧ p = 0 ∧ below = false) ∨
  (M ≠ 0 ∧ Dgs d ∧ d ≠ [] ∧ d.getD 0 0 ≠ 48 ∧ d.getD (d.length - 1) 0 ≠ 48 ∧ below = decide (M < 0) ∧ ∃ t : Nat, dvl d * 10 ^ t = (M.natAbs : Int) ∧ p = (if E + t < -1099511627776 then -1099511627776 else if 1099511627776 < E + t then 1099511627776 else E + t))
/-- The library's table of tens lies as its text lays it. -/
def TabW (w : World) : Prop := Lib.TabIs Tryd.prog w "internal/strconv.uint64pow10" .u64 Lib.pow10Tab
theorem TabW.gr {w w' : World} (h : TabW w) (hg : IsGr w w') : TabW w' := Joins.var_stays (g := 0) (by kernel_rfl) h hg.below (Nat.le_refl _)
/-- What the functions of package decimal answer. -/
structure DecC : Prop where
  scale : ∀ (s : ByteArray) (fine : Int) (w : World) (M E : Int), s.size ≤ 3000 → I64 fine → NumIs (bts s) M E → Calls Tryd.prog 8 #[.string s, .int .i64 fine] w fun e w' => ∃ n err, e = .returned (.tuple #[.int .i64 n, .int .i64 err]) ∧ ScR M E fine n err ∧ IsGr w w'
  scaleNo : ∀ (s : ByteArray) (fine : Int) (w : World), s.size ≤ 3000 → I64 fine → rgtB (bts s) = false → Calls Tryd.prog 8 #[.string s, .int .i64 fine] w fun e w' => e = .returned (.tuple #[.int .i64 0, .int .i64 10]) ∧ IsGr w w'
  text : ∀ (n fine : Int) (w : World), TabW w → I64 n → I64 fine → Calls Tryd.prog 18 #[.int .i64 n, .int .i64 fine] w fun e w' => e = .returned (.string (strOfNums (textU n fine))) ∧ IsGr w w'
  digits : ∀ (s : ByteArray) (w : World) (M E : Int), s.size ≤ 3000 → NumIs (bts s) M E → Calls Tryd.prog 19 #[.string s] w fun e w' => ∃ d p below, e = .returned (.tuple #[.string d, .int .i64 p, .bool below, .bool true]) ∧ DgR M E (bts d) p below ∧ d.size ≤ s.size ∧ IsGr w w'
  digitsNo : ∀ (s : ByteArray) (w : World), s.size ≤ 3000 → rgtB (bts s) = false → Calls Tryd.prog 19 #[.string s] w fun e w' => e = .returned (.tuple #[.string { data := #[] }, .int .i64 0, .bool false, .bool false]) ∧ IsGr w w'
set_option maxRecDepth 20000 in set_option maxHeartbeats 2000000 in
theorem dawake_any (C : DecC) (w : World) (HTB : TabW w) : Calls Tryd.prog 7 #[] w fun e w' => e = .returned (.bool true) ∧ IsGr w w' := by
  have i1 : I64 1 := by unfold I64; omega
  have i0 : I64 0 := by unfold I64; omega
  have it : I64 (-125) := by unfold I64; omega
  have n1 : NumIs (bts { data := #[45, 49, 46, 50, 53, 101, 49] }) (-125) (-1) := ⟨true, [45], [49], [46], [50, 53], [101, 49], 1, ⟨by decide, by decide, by unfold Dgs; decide, by decide, by unfold Dgs; decide, by decide, Or.inr ⟨101, [], [49], by decide, by decide, by decide, by unfold Dgs; decide, by decide⟩⟩, by decide, by decide⟩
  have n2 : NumIs (bts { data := #[48, 46, 48, 53] }) 5 (-2) := ⟨false, [], [48], [46], [48, 53], [], 0, ⟨by decide, by decide, by unfold Dgs; decide, by decide, by unfold Dgs; decide, by decide, Or.inl ⟨rfl, rfl⟩⟩, by decide, by decide⟩
  have n3 : NumIs (bts { data := #[49, 101, 49, 51] }) 1 13 := ⟨false, [], [49], [], [], [101, 49, 51], 13, ⟨by decide, by decide, by unfold Dgs; decide, by decide, by unfold Dgs; decide, by decide, Or.inr ⟨101, [], [49, 51], by decide, by decide, by decide, by unfold Dgs; decide, by decide⟩⟩, by decide, by decide⟩
  have C1 := C.scale { data := #[45, 49, 46, 50, 53, 101, 49] } 1 w _ _ (by decide) i1 n1
  have C2 := fun w => C.scale { data := #[48, 46, 48, 53] } 1 w _ _ (by decide) i1 n2
  have C3 := fun w => C.scale { data := #[49, 101, 49, 51] } 0 w _ _ (by decide) i0 n3
  have C4 := fun w' (hg : IsGr w w') => C.text (-125) 1 w' (HTB.gr hg) it i1
  rw [show strOfNums (textU (-125) 1) = { data := #[45, 49, 50, 46, 53] } by decide +kernel] at C4
  have u1 : UnitIs (-125) (-1 + 1) (-125) := Or.inl ⟨by omega, by decide⟩
  have u2 : ∀ k, ¬ UnitIs 5 (-2 + 1) k := fun k hk => by
    rcases hk with ⟨h, _⟩ | ⟨_, h⟩
    · omega
    · rw [show ((-(-2 + 1) : Int)).toNat = 1 from rfl, Int.pow_one] at h; omega
  have u3 : UnitIs 1 (13 + 0) 10000000000000 := Or.inl ⟨by omega, by decide⟩
  clear n1 n2 n3 i0 i1 it C HTB
  go_enter Tryd.func7, Tryd.ntmps7
  go_wp2_with fail
  refine C1.mono ?_
  clear C1
  rintro e w1 ⟨n, er, rfl, hr, hg1⟩
  obtain ⟨rfl, rfl⟩ := hr.ok (by omega) u1 (by unfold MxU; omega) (by unfold MxU; omega)
  go_wp2_with fail
  refine (C2 _).mono ?_
  clear C2
  rintro e w2 ⟨n, er, rfl, hr2, hg2⟩
  obtain ⟨rfl, rfl⟩ := hr2.fine (by omega) u2
  go_wp2_with fail
  refine (C3 _).mono ?_
  clear C3
  rintro e w3 ⟨n, er, rfl, hr3, hg3⟩
  obtain ⟨rfl, rfl⟩ := hr3.far (by omega) u3 (by unfold MxU; omega)
  have HG : Hid (IsGr w w3) := (hg1.trans hg2).trans hg3
  clear hr hr2 hr3 hg1 hg2 hg3 u1 u2 u3
  go_wp2_with fail
  refine (C4 _ HG.out).mono ?_
  clear C4
  rintro e w4 ⟨rfl, hg4⟩
  have HG4 : Hid (IsGr w w4) := HG.out.trans hg4
  clear hg4
  go_wp2_with fail
  go_ret
  exact ⟨rfl, HG4.out⟩
end Go.Proofs.YtfpifbfnebfdaaaDoor
