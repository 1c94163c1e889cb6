/- gromalaw07 over the loaded program: MergeOnce's law. -/
import Derived.Test.YtblnpabgakmghaaN10
import Derived.Test.YtblnpabgakmghaaN14
namespace Go.Proofs.Ytblnpabgakmghaa
open Go.RowKit Go.Shelf
attribute [local go_sem] Gr.size Gr.cell? Gr.frozen? Gr.setCell Gr.drew Gr.drewN Gr.of_drew Gr.of_drewN Gr.gr Gr.lt_of1 Gr.le_of1 Gr.lt_of2 Gr.le_of2 Gr.lt_of3 Gr.le_of3 Gr.lt_of4 Gr.le_of4 Gr.lt_of5 Gr.le_of5 Gr.lt_of6 Gr.le_of6 Gr.lt_of7 Gr.le_of7 Gr.lt_of8 Gr.le_of8 Gr.lt_of9 Gr.le_of9 Gr.lt_of10 Gr.le_of10 Gr.lt_of11 Gr.le_of11 Gr.lt_of12 Gr.le_of12 Gr.lt_of13 Gr.le_of13 Gr.lt_of14 Gr.le_of14 Gr.lt_of15 Gr.le_of15 Gr.lt_of16 Gr.le_of16 Gr.lt_of17 Gr.le_of17 Gr.lt_of18 Gr.le_of18 Gr.lt_of19 Gr.le_of19 Gr.lt_of20 Gr.le_of20 Gr.lt_of21 Gr.le_of21 Gr.lt_of22 Gr.le_of22 Gr.lt_of23 Gr.le_of23 Gr.lt_of24 Gr.le_of24
set_option maxRecDepth 20000 in set_option maxHeartbeats 2000000 in
theorem law_once_many (a : Option Addr) (n c : Nat) (w : World) (h : ¬ n ≤ 200) : Calls Try.prog 6 #[.slice a n c] w fun e w' => e = .returned (.bool true) ∧ Below w.heap.size w w' := by
  have h1 : (200 : Int) < n := by omega
  clear h
  have CA := awake_any w
  go_enter Try.func6, Try.ntmps6
  go_wp2_with fail
  refine CA.mono ?_
  rintro e w2 ⟨rfl, hb⟩
  go_wp2_with fail
  go_ret
  exact ⟨rfl, hb⟩
set_option maxRecDepth 20000 in set_option maxHeartbeats 2000000 in
theorem law_once_few (a : Option Addr) (n c : Nat) (l : List Int) (w : World) (h : Rd w (.slice a n c) l) (hz : Zn (.slice a n c)) (hn : n ≤ 200) :
    Calls Try.prog 6 #[.slice a n c] w fun e w' => e = .returned (.bool true) ∧ Below w.heap.size w w' := by
  have q1 : ¬ (200 : Int) < n := by omega
  have HR : Hid (∀ W, Below w.heap.size w W → Rd W (.slice a n c) l) := fun W hB => h.below hB
  have HN : Hid (n = l.length ∧ n ≤ 200 ∧ ∀ x ∈ l, I64 x) := ⟨h.len.1, hn, h.ints⟩
  have CS := Once_any tens_ordr _ l w h hz (by have := HN.out; omega)
  obtain ⟨s, hs⟩ : ∃ s, onc tq none (isort tq l) = s := ⟨_, rfl⟩
  have HS : Hid ((∀ x ∈ s, I64 x) ∧ s.length ≤ 2000 ∧ onc tq none (isort tq l) = s) := by
    refine ⟨?_, ?_, hs⟩
    · rw [← hs]
      have : ∀ (p : Option Int) (L : List Int), ∀ x ∈ onc tq p L, x ∈ L := by
        intro p L
        induction L generalizing p with
        | nil => intro x hx; exact hx
        | cons y L ih =>
          intro x hx
          unfold onc at hx
          split at hx
          · exact List.mem_cons_of_mem _ (ih _ x hx)
          · rcases List.mem_cons.1 hx with rfl | hx
            · exact List.mem_cons_self
            · exact List.mem_cons_of_mem _ (ih _ x hx)
      exact fun x hx => isort_ints HN.out.2.2 x (this _ _ x hx)
    · rw [← hs]
      have := onc_len tq none (isort tq l)
      rw [isort_len] at this
      have := HN.out
      omega
  rw [hs] at CS
  clear h hz hs hn
  go_enter Try.func6, Try.ntmps6
  go_wp2_with fail
  refine CS.mono ?_
  clear CS
  rintro e w2 ⟨v2, rfl, hl2, hb2⟩
  have CR := ROnce_any _ l w2 (HR.out w2 hb2) (by have := HN.out; omega)
  rw [HS.out.2.2] at CR
  have H2 : Hid (Lst w2 w.heap.size v2 s ∧ Below w.heap.size w w2) := ⟨hl2, hb2⟩
  clear hl2 hb2
  go_wp2_with fail
  refine CR.mono ?_
  clear CR
  rintro e w3 ⟨v3, rfl, hl3, hb3⟩
  have B3 : Hid (Below w.heap.size w w3) := H2.out.2.trans (hb3.mono H2.out.2.size)
  have E1 := equal_any v2 v3 _ _ w3 ((Rd.of_lst H2.out.1 HS.out.1).below hb3) (Rd.of_lst hl3 HS.out.1) HS.out.2.1
  rw [decide_eq_true rfl] at E1
  clear hl3 hb3
  go_wp2_with fail
  refine E1.mono ?_
  clear E1
  rintro e w4 ⟨rfl, hg⟩
  have B4 : Hid (Below w.heap.size w w4) := B3.out.trans (hg.below.mono B3.out.size)
  have CA := awake_any w4
  clear hg
  go_wp2_with fail
  refine CA.mono ?_
  clear CA
  rintro e w9 ⟨rfl, hb9⟩
  have B9 : Hid (Below w.heap.size w w9) := B4.out.trans (hb9.mono B4.out.size)
  clear hb9
  go_wp2_with fail
  go_ret
  exact ⟨rfl, B9.out⟩
theorem law_once (a : Option Addr) (n c : Nat) (l : List Int) (w : World) (h : Rd w (.slice a n c) l ∧ Zn (.slice a n c)) : Calls Try.prog 6 #[.slice a n c] w fun e w' => e = .returned (.bool true) ∧ Below w.heap.size w w' := by
  by_cases hn : n ≤ 200
  · exact law_once_few a n c l w h.1 h.2 hn
  · exact law_once_many a n c w hn
end Go.Proofs.Ytblnpabgakmghaa
