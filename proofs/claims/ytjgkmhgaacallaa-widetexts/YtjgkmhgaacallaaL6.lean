/- gromalaw01.WideTexts: for every Int the law answers true. -/
import Derived.Test.YtjgkmhgaacallaaA1
import Derived.Test.YtjgkmhgaacallaaK1
import Derived.Test.YtjgkmhgaacallaaR15
import Derived.Test.YtjgkmhgaacallaaW16
namespace Go.Proofs.Ytjgkmhgaacallaa
open Go.RowKit Go.Shelf
attribute [local go_sem] Gr.size Gr.cell? Gr.frozen? Gr.setCell Gr.drew Gr.drewN Gr.of_drew Gr.of_drewN Gr.gr Gr.lt_of1 Gr.le_of1 Gr.lt_of2 Gr.le_of2 Gr.lt_of3 Gr.le_of3 Gr.lt_of4 Gr.le_of4 Gr.lt_of5 Gr.le_of5 Gr.lt_of6 Gr.le_of6 Gr.lt_of7 Gr.le_of7 Gr.lt_of8 Gr.le_of8

/-- Digits of a text that is a number's. -/
theorem Digits_some (s : ByteArray) (z : Int) (w : World) (hs : s.size ≤ 120) (h : dspec (nums s) = some z) :
    Calls Try.prog 30 #[.string s] w fun e w' => ∃ (t : Bool) (a : Option Addr) (n c : Nat), e = .returned (.tuple #[.agg #[.bool t, .slice a n c], .bool true]) ∧ IsBig w' (.agg #[.bool t, .slice a n c]) z ∧ IsGr w w' := by
  refine (Digits_any s w hs).mono ?_
  rintro e w' ⟨v, ok, rfl, hT, hg⟩
  rw [h] at hT
  rcases hT with ⟨rfl, y, hy, hb⟩ | ⟨_, h2, _⟩
  · injection hy with hy
    subst hy
    obtain ⟨t, a, n, c, rfl⟩ := hb.shape
    exact ⟨t, a, n, c, rfl, hb, hg⟩
  · cases h2
theorem Digits_none (s : ByteArray) (w : World) (hs : s.size ≤ 120) (h : dspec (nums s) = none) :
    Calls Try.prog 30 #[.string s] w fun e w' => e = .returned (.tuple #[.agg #[.bool false, .slice none 0 0], .bool false]) ∧ IsGr w w' := by
  refine (Digits_any s w hs).mono ?_
  rintro e w' ⟨v, ok, rfl, hT, hg⟩
  rw [h] at hT
  rcases hT with ⟨_, y, hy, _⟩ | ⟨rfl, _, rfl⟩
  · cases hy
  · exact ⟨rfl, hg⟩
/-- Parse of a text that is an Int's. -/
theorem Parse_some (s : ByteArray) (z : Int) (w : World) (hs : s.size ≤ 1000) (h : dspec (nums s) = some z) (hf : -57896044618658097711785492504343953926634992332820282019728792003956564819968 ≤ z ∧ z < 57896044618658097711785492504343953926634992332820282019728792003956564819968) :
    Calls Try.prog 32 #[.string s] w fun e w' => ∃ (s0 s1 s2 s3 : Int), e = .returned (.tuple #[.agg #[.int .u64 s0, .int .u64 s1, .int .u64 s2, .int .u64 s3], .bool true]) ∧ IsI s0 s1 s2 s3 z ∧ IsGr w w' := by
  refine (Parse_any s w hs).mono ?_
  rintro e w' ⟨s0, s1, s2, s3, ok, rfl, hT, hg⟩
  rw [h] at hT
  rcases hT with ⟨rfl, y, hy, hb⟩ | ⟨_, _, h2⟩
  · injection hy with hy
    subst hy
    exact ⟨s0, s1, s2, s3, rfl, hb, hg⟩
  · exact absurd hf (h2 z rfl)
theorem Parse_none (s : ByteArray) (w : World) (hs : s.size ≤ 1000) (h : ∀ z, dspec (nums s) = some z → ¬ (-57896044618658097711785492504343953926634992332820282019728792003956564819968 ≤ z ∧ z < 57896044618658097711785492504343953926634992332820282019728792003956564819968)) :
    Calls Try.prog 32 #[.string s] w fun e w' => e = .returned (.tuple #[.agg #[.int .u64 0, .int .u64 0, .int .u64 0, .int .u64 0], .bool false]) ∧ IsGr w w' := by
  refine (Parse_any s w hs).mono ?_
  rintro e w' ⟨s0, s1, s2, s3, ok, rfl, hT, hg⟩
  rcases hT with ⟨_, y, hy, hb⟩ | ⟨rfl, ⟨rfl, rfl, rfl, rfl⟩, _⟩
  · exact absurd hb.2 (h y hy)
  · exact ⟨rfl, hg⟩

set_option maxHeartbeats 4000000 in
theorem law_texts (x0 x1 x2 x3 x : Int) (hx : IsI x0 x1 x2 x3 x) (w : World) :
    Calls Try.prog 6 #[.agg #[.int .u64 x0, .int .u64 x1, .int .u64 x2, .int .u64 x3]] w fun e w' => e = .returned (.bool true) ∧ IsGr w w' := by
  have CT := fun w => Text_any x0 x1 x2 x3 x hx w
  have hn : nums (strOfNums (txt x)) = txt x := nums_str _ (txt_bytes x)
  have hl : (strOfNums (txt x)).size ≤ 79 := by rw [strOfNums_size]; exact txt_len x
  have hr := txt_read x (by
    have := hx.2; unfold abs; rw [show (10 : Int) ^ 77 = 100000000000000000000000000000000000000000000000000000000000000000000000000000 by decide]; split <;> omega)
  rw [← hn] at hr
  generalize strOfNums (txt x) = S at CT hl hr
  have CD := fun w => Digits_some S x w (by omega) hr
  have CP := fun w => Parse_some S x w (by omega) hr hx.2
  have sx : Sm x := by have := hx.2; unfold Sm; omega
  have CA := fun w => awake_any w
  clear hn hl hr
  go_enter Try.func6, Try.ntmps6
  go_wp2_with fail
  refine (CT _).mono ?_
  rintro e w1 ⟨rfl, os1, d1, rfl⟩
  go_wp2_with fail
  refine (CD _).mono ?_
  rintro e w1 ⟨t, a, n, c, rfl, hb, os2, d2, rfl⟩
  go_wp2_with fail
  refine (CT _).mono ?_
  rintro e w1 ⟨rfl, os3, d3, rfl⟩
  go_wp2_with fail
  refine (CP _).mono ?_
  rintro e w1 ⟨p0, p1, p2, p3, rfl, hp, os4, d4, rfl⟩
  have he := fun w => eqI_t hp.1 hx.1 rfl w
  have CI := fun w1 v (hg : IsBig w1 v x) => is_any hx v x w1 hg sx
  rw [show same x x = true by rw [same_eq]; simp] at CI
  go_wp2_with fail
  refine (CI _ _ (hb.gr ?_)).mono ?_
  exact (by repeat (first | with_reducible exact IsGr.refl _ | (refine ⟨#[], d2, ?_⟩; (try simp only [Gr.of_drew]); (try simp only [Gr.gr]); (try simp only [Array.append_assoc]); (try simp only [Array.append_empty]); (try with_reducible rfl); done) | with_reducible refine IsGr.alloc ?_ _ | with_reducible refine IsGr.gr ?_ _ _ | with_reducible refine IsGr.drew ?_ | with_reducible refine IsGr.drewN ?_ _))
  rintro e w1 ⟨rfl, os5, d5, rfl⟩
  go_wp2_with fail
  refine (CA _).mono ?_
  rintro e w1 ⟨rfl, os6, d6, rfl⟩
  go_wp2
  go_ret
  exact ⟨rfl, (by with_reducible repeat (first | exact IsGr.refl _ | refine IsGr.gr ?_ _ _ | refine IsGr.alloc ?_ _ | refine IsGr.drew ?_ | refine IsGr.drewN ?_ _))⟩
end Go.Proofs.Ytjgkmhgaacallaa
