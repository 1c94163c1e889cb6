/- gromalaw03.PointAreas: the loop that gathers the way back and the sum of the turns. -/
import Derived.Test.YtohhlhoijanjfaaU17
import Derived.Test.YtohhlhoijanjfaaU18
import Derived.Test.YtohhlhoijanjfaaU10
import Derived.Test.YtohhlhoijanjfaaH1
import Derived.Test.YtohhlhoijanjfaaH5
import Derived.Test.YtohhlhoijanjfaaG3
namespace Go.Proofs.Ytohhlhoijanjfaa
open Go.RowKit Go.Shelf
attribute [local go_sem] Gr.size Gr.cell? Gr.frozen? Gr.setCell Gr.drew Gr.drewN Gr.of_drew Gr.of_drewN Gr.gr Gr.lt_of1 Gr.le_of1 Gr.lt_of2 Gr.le_of2 Gr.lt_of3 Gr.le_of3 Gr.lt_of4 Gr.le_of4 Gr.lt_of5 Gr.le_of5 Gr.lt_of6 Gr.le_of6 Gr.lt_of7 Gr.le_of7 Gr.lt_of8 Gr.le_of8 Gr.lt_of9 Gr.le_of9 Gr.lt_of10 Gr.le_of10 Gr.lt_of11 Gr.le_of11 Gr.lt_of12 Gr.le_of12 Gr.lt_of13 Gr.le_of13 Gr.lt_of14 Gr.le_of14 Gr.lt_of15 Gr.le_of15 Gr.lt_of16 Gr.le_of16 Gr.lt_of17 Gr.le_of17 Gr.lt_of18 Gr.le_of18 Gr.lt_of19 Gr.le_of19 Gr.lt_of20 Gr.le_of20 Gr.lt_of21 Gr.le_of21 Gr.lt_of22 Gr.le_of22 Gr.lt_of23 Gr.le_of23 Gr.lt_of24 Gr.le_of24

theorem info_pt : (Try.prog.info? 24).map (fun i => (i.zero, i.size, i.bytes)) = some (some (.agg #[.int .i64 0, .int .i64 0]), 2, 16) := by kernel_rfl
theorem Pts.kb {W W' : World} {v : Value} {l : List (Int × Int)} (h : Pts W v l) (hk : Kb W W') : Pts W' v l := by
  obtain ⟨a, c, h1, h2, h3, h4⟩ := h
  refine ⟨a, c, h1, h2, h3, ?_⟩
  rcases h4 with h4 | ⟨g, o, rfl, h5, h6⟩
  · exact Or.inl h4
  · exact Or.inr ⟨g, o, rfl, Nat.lt_of_lt_of_le h5 hk.1, fun i hi => ⟨hk.2 _ _ _ (h6 i hi).1, hk.2 _ _ _ (h6 i hi).2⟩⟩
/-- The turn that f sees, if all three are right. -/
def seenT (f1 f2 x y u v : Int) : Int := if right3 f1 f2 x y u v = true then turnI f1 f2 x y u v else 0
/-- The sum of the turns that f sees, as far as they are right. -/
def sumK (f1 f2 : Int) (l : List (Int × Int)) : Nat → Int
  | 0 => 0
  | k + 1 => sumK f1 f2 l k + seenT f1 f2 (l.getD k (0, 0)).1 (l.getD k (0, 0)).2 (nextP l k).1 (nextP l k).2
theorem seenT_bound (f1 f2 x y u v : Int) : -38685626227668133590597632 ≤ seenT f1 f2 x y u v ∧ seenT f1 f2 x y u v ≤ 38685626227668133590597632 := by
  unfold seenT
  split
  · rename_i h
    obtain ⟨h1, h2, h3⟩ := right3_t h
    exact turn_bound h1 h2 h3
  · omega
theorem sumK_bound (f1 f2 : Int) (l : List (Int × Int)) : ∀ k, -(38685626227668133590597632 * k) ≤ sumK f1 f2 l k ∧ sumK f1 f2 l k ≤ 38685626227668133590597632 * k
  | 0 => by simp [sumK]
  | k + 1 => by
    have h1 := sumK_bound f1 f2 l k
    have h2 := seenT_bound f1 f2 (l.getD k (0, 0)).1 (l.getD k (0, 0)).2 (nextP l k).1 (nextP l k).2
    unfold sumK
    omega
theorem sumK_seen {f1 f2 : Int} {l : List (Int × Int)} (hf : rightP f1 f2 = true) (h : allR l = true) : ∀ k, sumK f1 f2 l k = seenK f1 f2 l k
  | 0 => rfl
  | k + 1 => by
    unfold sumK seenK
    rw [sumK_seen hf h k]
    unfold seenT
    rw [if_pos]
    simp only [right3, Bool.and_eq_true]
    exact ⟨⟨hf, allR_get h k⟩, allR_get h _⟩
theorem take_getD {l : List (Int × Int)} {k : Nat} (h : k < l.length) : l.take (k + 1) = l.take k ++ [l.getD k (0, 0)] := by
  rw [List.take_succ_eq_append_getElem h]
  simp [List.getD, h]
theorem allR_take {l : List (Int × Int)} {k : Nat} (h : k < l.length) : allR (l.take (k + 1)) = (allR (l.take k) && rightP (l.getD k (0, 0)).1 (l.getD k (0, 0)).2) := by
  rw [take_getD h]; unfold allR; simp
theorem back_take {l : List (Int × Int)} {k : Nat} (h : k < l.length) : (l.take (k + 1)).reverse = l.getD k (0, 0) :: (l.take k).reverse := by
  rw [take_getD h]; simp

end Go.Proofs.Ytohhlhoijanjfaa
