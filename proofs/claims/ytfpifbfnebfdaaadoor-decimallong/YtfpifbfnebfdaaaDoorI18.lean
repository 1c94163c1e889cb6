/- gromalaw10.DecimalLong, given what package decimal answers. -/
import Derived.Test.YtfpifbfnebfdaaaDoorI14
import Derived.Test.YtfpifbfnebfdaaaDoorI10
import Derived.Test.YtfpifbfnebfdaaaDoorI3
import Derived.BigQuiet
import Derived.Deep.CutRange
import Derived.Deep.LoopGhost
namespace Go.Proofs.YtfpifbfnebfdaaaDoor
open Go.RowKit Go.Shelf
attribute [local go_sem] Gr.size Gr.cell? Gr.frozen? Gr.setCell Gr.drew Gr.drewN Gr.of_drew Gr.of_drewN Gr.gr Gr.lt_of1 Gr.le_of1 Gr.lt_of2 Gr.le_of2 Gr.lt_of3 Gr.le_of3 Gr.lt_of4 Gr.le_of4 Gr.lt_of5 Gr.le_of5 Gr.lt_of6 Gr.le_of6 Gr.lt_of7 Gr.le_of7 Gr.lt_of8 Gr.le_of8 Gr.lt_of9 Gr.le_of9 Gr.lt_of10 Gr.le_of10 Gr.lt_of11 Gr.le_of11 Gr.lt_of12 Gr.le_of12 Gr.lt_of13 Gr.le_of13 Gr.lt_of14 Gr.le_of14 Gr.lt_of15 Gr.le_of15 Gr.lt_of16 Gr.le_of16 Gr.lt_of17 Gr.le_of17 Gr.lt_of18 Gr.le_of18 Gr.lt_of19 Gr.le_of19 Gr.lt_of20 Gr.le_of20 Gr.lt_of21 Gr.le_of21 Gr.lt_of22 Gr.le_of22 Gr.lt_of23 Gr.le_of23 Gr.lt_of24 Gr.le_of24
theorem bts_app (a b : ByteArray) : bts (a ++ b) = bts a ++ bts b := by
  unfold bts
  rw [ByteArray.data_append, Array.toList_append, List.map_append]
theorem rep_snoc (k : Nat) (l : List Int) : (48 : Int) :: (List.replicate k 48 ++ l) = List.replicate (k + 1) 48 ++ l := by
  rw [List.replicate_succ, List.cons_append]
theorem rep_back (l : List Int) (k : Nat) : (l ++ List.replicate k (48 : Int)) ++ [48] = l ++ List.replicate (k + 1) 48 := by
  rw [List.append_assoc]
  congr 1
  rw [List.replicate_succ', ]
theorem dgs_rep (k : Nat) : Dgs (List.replicate k 48) := fun c hc => by
  have := List.eq_of_mem_replicate hc
  subst this; rfl
theorem dvl_lead (k : Nat) (l : List Int) : dvl (List.replicate k 48 ++ l) = dvl l := by
  induction k with
  | zero => rfl
  | succ k ih => rw [List.replicate_succ, List.cons_append, dvl_cons, ih]; omega
/-- Noughts ahead and behind change no number of units. -/
theorem long_num {n fine : Int} {l1 l2 : List Int} {a b : Nat} {neg : Bool} {sg ep : List Int} {t : List Int} (hf : 0 ≤ fine ∧ fine ≤ 9) (h1 : Dgs l1) (hne : l1 ≠ []) (h2 : Dgs l2) (hl : l2.length ≤ fine.toNat) (hn : n = dvl (l1 ++ l2) * 10 ^ (fine.toNat - l2.length))
    (hsg : (sg = [] ∧ neg = false) ∨ (sg = [43] ∧ neg = false) ∨ (sg = [45] ∧ neg = true)) (hep : ep = [] ∨ ep = [101, 48]) (ht : t = sg ++ ((List.replicate a 48 ++ l1) ++ ([46] ++ ((l2 ++ List.replicate b 48) ++ ep)))) :
    ∃ M E, NumIs t M E ∧ UnitIs M (E + fine) (sgI neg n) := by
  have hval : dvl ((List.replicate a 48 ++ l1) ++ (l2 ++ List.replicate b 48)) = dvl (l1 ++ l2) * 10 ^ b := by
    rw [← dvl_zeros, List.append_assoc, dvl_lead, List.append_assoc]
  refine ⟨_, _, ⟨neg, sg, List.replicate a 48 ++ l1, [46], l2 ++ List.replicate b 48, ep, 0, ⟨ht, hsg, (dgs_rep a).app h1, Or.inr rfl, h2.app (dgs_rep b), fun e => ?_, ?_⟩, rfl, rfl⟩, ?_⟩
  · have := (List.append_eq_nil_iff.1 (List.append_eq_nil_iff.1 e).1).2
    exact hne this
  · rcases hep with rfl | rfl
    · exact Or.inl ⟨rfl, rfl⟩
    · exact Or.inr ⟨101, [], [48], Or.inl rfl, rfl, by simp, by unfold Dgs; decide, Or.inl ⟨Or.inl rfl, rfl⟩⟩
  · rw [hval, List.length_append, List.length_replicate]
    have key : ∀ s : Int, UnitIs (s * (dvl (l1 ++ l2) * 10 ^ b)) (0 - ((l2.length + b : Nat) : Int) + fine) (s * n) := fun s => by
      unfold UnitIs
      by_cases hq : 0 ≤ 0 - ((l2.length + b : Nat) : Int) + fine
      · refine Or.inl ⟨hq, ?_⟩
        rw [hn, Int.mul_assoc, Int.mul_assoc, ← Int.pow_add]
        congr 3
        omega
      · refine Or.inr ⟨by omega, ?_⟩
        rw [hn, Int.mul_assoc, Int.mul_assoc, ← Int.pow_add]
        congr 3
        omega
    cases neg with
    | false => have := key 1; simpa [sgI] using this
    | true => have := key (-1); simpa [sgI] using this
end Go.Proofs.YtfpifbfnebfdaaaDoor
