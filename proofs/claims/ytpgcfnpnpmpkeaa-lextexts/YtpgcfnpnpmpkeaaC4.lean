/- What the functions of package lex answer, as propositions; gromalaw09 over the loaded program, given these: awake, LexNumbers, LexTexts. -/
import Derived.Test.YtpgcfnpnpmpkeaaC3
import Derived.Test.YtpgcfnpnpmpkeaaH2b
namespace Go.Proofs.Ytpgcfnpnpmpkeaa
open Go.RowKit Go.Shelf
attribute [local go_sem] Gr.size Gr.cell? Gr.frozen? Gr.setCell Gr.drew Gr.drewN Gr.of_drew Gr.of_drewN Gr.gr Gr.lt_of1 Gr.le_of1 Gr.lt_of2 Gr.le_of2 Gr.lt_of3 Gr.le_of3 Gr.lt_of4 Gr.le_of4 Gr.lt_of5 Gr.le_of5 Gr.lt_of6 Gr.le_of6 Gr.lt_of7 Gr.le_of7 Gr.lt_of8 Gr.le_of8 Gr.lt_of9 Gr.le_of9 Gr.lt_of10 Gr.le_of10 Gr.lt_of11 Gr.le_of11 Gr.lt_of12 Gr.le_of12 Gr.lt_of13 Gr.le_of13 Gr.lt_of14 Gr.le_of14 Gr.lt_of15 Gr.le_of15 Gr.lt_of16 Gr.le_of16 Gr.lt_of17 Gr.le_of17 Gr.lt_of18 Gr.le_of18 Gr.lt_of19 Gr.le_of19 Gr.lt_of20 Gr.le_of20 Gr.lt_of21 Gr.le_of21 Gr.lt_of22 Gr.le_of22 Gr.lt_of23 Gr.le_of23 Gr.lt_of24 Gr.le_of24
/-- A token's text. -/
def txtOf (s : ByteArray) (i j : Int) : ByteArray := if 0 ≤ i ∧ i ≤ j ∧ j ≤ s.size then s.extract i.toNat j.toNat else ByteArray.empty
/-- What Tokens answers. -/
def LTokR (b : List Int) (w : World) (e : Ending) (w' : World) : Prop :=
  (match (tks b 0).2 with
  | none => ∃ v', e = .returned (.tuple #[v', .int .i64 0, .int .i64 0]) ∧ Ls3 31 w' w.heap.size v' (tok3 (tks b 0).1)
  | some q => ∃ a c, e = .returned (.tuple #[.slice a 0 c, .int .i64 (q : Nat), .int .i64 21])) ∧ Below w.heap.size w w'
theorem LTokR.yes {b : List Int} {w w' : World} {e : Ending} {pre : List (Nat × Nat × Nat)} (hr : LTokR b w e w') (h : tks b 0 = (pre, none)) : ∃ v', e = .returned (.tuple #[v', .int .i64 0, .int .i64 0]) ∧ Ls3 31 w' w.heap.size v' (tok3 pre) ∧ Below w.heap.size w w' := by
  unfold LTokR at hr
  rw [h] at hr
  obtain ⟨⟨v', h1, h2⟩, h3⟩ := hr
  exact ⟨v', h1, h2, h3⟩
theorem LTokR.no {b : List Int} {w w' : World} {e : Ending} {pre : List (Nat × Nat × Nat)} {q : Nat} (hr : LTokR b w e w') (h : tks b 0 = (pre, some q)) : ∃ a c, e = .returned (.tuple #[.slice a 0 c, .int .i64 (q : Nat), .int .i64 21]) ∧ Below w.heap.size w w' := by
  unfold LTokR at hr
  rw [h] at hr
  obtain ⟨⟨a, c, h1⟩, h3⟩ := hr
  exact ⟨a, c, h1, h3⟩
theorem RTok.yes' {b : List Int} {w w' : World} {e : Ending} {pre : List (Nat × Nat × Nat)} (hr : RTok b w e w') (h : tks b 0 = (pre, none)) : ∃ v', e = .returned (.tuple #[v', .int .i64 (-1)]) ∧ Ls3 32 w' w.heap.size v' (tok3 pre) ∧ Below w.heap.size w w' := by
  unfold RTok at hr
  rw [h] at hr
  obtain ⟨⟨v', h1, h2⟩, h3⟩ := hr
  exact ⟨v', h1, h2, h3⟩
theorem RTok.no' {b : List Int} {w w' : World} {e : Ending} {pre : List (Nat × Nat × Nat)} {q : Nat} (hr : RTok b w e w') (h : tks b 0 = (pre, some q)) : e = .returned (.tuple #[.slice none 0 0, .int .i64 (q : Nat)]) ∧ Below w.heap.size w w' := by
  unfold RTok at hr
  rw [h] at hr
  exact hr
/-- What the functions of package lex answer. -/
structure LexC : Prop where
  tokens : ∀ (s : ByteArray) (w : World), s.size ≤ 3000 → Calls Try.prog 8 #[.string s] w fun e w' => LTokR (bts s) w e w'
  right : ∀ (s : ByteArray) (w : World), s.size ≤ 3000 → Calls Try.prog 11 #[.string s] w fun e w' => e = .returned (.bool (rgtB (bts s))) ∧ IsGr w w'
  upper : ∀ (s : ByteArray) (w : World), s.size ≤ 3000 → Calls Try.prog 13 #[.string s] w fun e w' => e = .returned (.string (strOfNums (upL (bts s)))) ∧ IsGr w w'
  text : ∀ (k i j : Int) (s : ByteArray) (w : World), s.size ≤ 3000 → Calls Try.prog 10 #[.agg #[.int .i64 k, .int .i64 i, .int .i64 j], .string s] w fun e w' => e = .returned (.string (txtOf s i j)) ∧ IsGr w w'
set_option maxRecDepth 20000 in set_option maxHeartbeats 2000000 in
theorem awake_any (C : LexC) (w : World) : Calls Try.prog 7 #[] w fun e w' => e = .returned (.bool true) ∧ Below w.heap.size w w' := by
  have t1 : tks (bts { data := #[80, 111, 105, 110, 116, 40, 49, 32, 45, 50, 46, 53, 101, 51, 41] }) 0 = ([(1, 0, 5), (3, 5, 6), (2, 6, 7), (2, 8, 14), (4, 14, 15)], none) := by decide +kernel
  have t2 : tks (bts { data := #[97, 32, 49, 101] }) 0 = ([(1, 0, 1)], some 2) := by decide +kernel
  have C1 := C.tokens { data := #[80, 111, 105, 110, 116, 40, 49, 32, 45, 50, 46, 53, 101, 51, 41] } w (by decide)
  have C2 := fun w => C.tokens { data := #[97, 32, 49, 101] } w (by decide)
  have C3 := fun w => C.upper { data := #[97, 90, 49] } w (by decide)
  have C4 := fun w => C.right { data := #[46, 53] } w (by decide)
  have C5 := fun w => C.right { data := #[46] } w (by decide)
  rw [show strOfNums (upL (bts { data := #[97, 90, 49] })) = { data := #[65, 90, 49] } by decide +kernel] at C3
  rw [show rgtB (bts { data := #[46, 53] }) = true by decide +kernel] at C4
  rw [show rgtB (bts { data := #[46] }) = false by decide +kernel] at C5
  go_enter Try.func7, Try.ntmps7
  go_wp2_with fail
  refine C1.mono ?_
  clear C1
  rintro e w1 h1
  obtain ⟨v1, rfl, hl1, hb1⟩ := h1.yes t1
  obtain ⟨a1, c1, rfl, hlc, hf⟩ := hl1.form
  rcases hf with ⟨h, -⟩ | ⟨g1, rfl, -, hg1, hc⟩
  · simp [tok3] at h
  have h9 := (hc 3 (by decide)).1
  have h10 := (hc 3 (by decide)).2.1
  have h11 := (hc 3 (by decide)).2.2
  have hlen : (tok3 [(1, 0, 5), (3, 5, 6), (2, 6, 7), (2, 8, 14), (4, 14, 15)]).length = 5 := rfl
  rw [hlen] at hlc ⊢
  have HB1 : Hid (Below w.heap.size w w1) := hb1
  have HC : Hid (w1.cell? ⟨g1, 9, none⟩ = some (.int .i64 2) ∧ w1.cell? ⟨g1, 10, none⟩ = some (.int .i64 8) ∧ w1.cell? ⟨g1, 11, none⟩ = some (.int .i64 14)) := ⟨h9, h10, h11⟩
  clear h1 hl1 hb1 hc hlen h9 h10 h11
  go_wp2_with fail
  refine (C2 _).mono ?_
  clear C2
  rintro e w2 h2
  obtain ⟨a2, c2, rfl, hb2⟩ := h2.no t2
  have k9 := (hb2.cell (p := ⟨g1, 9, none⟩) (block_lt HC.out.1)).trans HC.out.1
  have k10 := (hb2.cell (p := ⟨g1, 10, none⟩) (block_lt HC.out.2.1)).trans HC.out.2.1
  have k11 := (hb2.cell (p := ⟨g1, 11, none⟩) (block_lt HC.out.2.2)).trans HC.out.2.2
  have HB2 : Hid (Below w.heap.size w w2) := HB1.out.trans (hb2.mono HB1.out.size)
  clear h2 hb2 HC
  go_wp2_with fail
  refine (C3 _).mono ?_
  clear C3
  rintro e w3 ⟨rfl, hg3⟩
  have HB3 : Hid (Below w.heap.size w w3) := HB2.out.trans (hg3.below.mono HB2.out.size)
  clear k9 k10 k11 hg3
  go_wp2_with fail
  refine (C4 _).mono ?_
  clear C4
  rintro e w4 ⟨rfl, hg4⟩
  have HB4 : Hid (Below w.heap.size w w4) := HB3.out.trans (hg4.below.mono HB3.out.size)
  clear hg4
  go_wp2_with fail
  refine (C5 _).mono ?_
  clear C5
  rintro e w5 ⟨rfl, hg5⟩
  have HB5 : Hid (Below w.heap.size w w5) := HB4.out.trans (hg5.below.mono HB4.out.size)
  clear hg5
  go_wp2_with fail
  go_ret
  exact ⟨rfl, HB5.out⟩
set_option maxRecDepth 20000 in set_option maxHeartbeats 2000000 in
theorem law_numbers (C : LexC) (s : ByteArray) (w : World) : Calls Try.prog 4 #[.string s] w fun e w' => e = .returned (.bool true) ∧ Below w.heap.size w w' := by
  have CA := fun w => awake_any C w
  by_cases hs : 2000 < s.size
  · have hs' : (2000 : Int) < s.size := by omega
    go_enter Try.func4, Try.ntmps4
    go_wp2_with fail
    refine (CA _).mono ?_
    rintro e w1 ⟨rfl, hb1⟩
    go_wp2_with fail
    go_ret
    exact ⟨rfl, hb1⟩
  · have hs' : ¬ (2000 : Int) < s.size := by omega
    have C1 := C.right s w (by omega)
    have C2 := fun w => RRight_any s w (by omega)
    obtain ⟨b, hb⟩ : ∃ b, rgtB (bts s) = b := ⟨_, rfl⟩
    rw [hb] at C1
    simp only [hb] at C2
    have hbb : (b == b) = true := by simp
    clear hb hs
    go_enter Try.func4, Try.ntmps4
    go_wp2_with fail
    refine C1.mono ?_
    clear C1
    rintro e w1 ⟨rfl, hg1⟩
    have HB1 : Hid (Below w.heap.size w w1) := hg1.below
    clear hg1
    go_wp2_with fail
    refine (C2 _).mono ?_
    clear C2
    rintro e w2 ⟨rfl, e2⟩
    obtain rfl := e2.symm
    go_wp2_with fail
    refine (CA _).mono ?_
    rintro e w3 ⟨rfl, hb3⟩
    go_wp2_with fail
    go_ret
    exact ⟨rfl, HB1.out.trans (hb3.mono HB1.out.size)⟩
end Go.Proofs.Ytpgcfnpnpmpkeaa
