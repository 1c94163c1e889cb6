/- Contracts of package heap over the loaded program: New; gromalaw06: awake, first. -/
import Derived.Test.YtdffpgfmodccgaaF5
import Derived.Test.YtdffpgfmodccgaaF6
namespace Go.Proofs.Ytdffpgfmodccgaa
open Go.RowKit Go.Shelf
attribute [local go_sem] Gr.size Gr.cell? Gr.frozen? Gr.setCell Gr.drew Gr.drewN Gr.of_drew Gr.of_drewN Gr.gr Gr.lt_of1 Gr.le_of1 Gr.lt_of2 Gr.le_of2 Gr.lt_of3 Gr.le_of3 Gr.lt_of4 Gr.le_of4 Gr.lt_of5 Gr.le_of5 Gr.lt_of6 Gr.le_of6 Gr.lt_of7 Gr.le_of7 Gr.lt_of8 Gr.le_of8 Gr.lt_of9 Gr.le_of9 Gr.lt_of10 Gr.le_of10 Gr.lt_of11 Gr.le_of11 Gr.lt_of12 Gr.le_of12 Gr.lt_of13 Gr.le_of13 Gr.lt_of14 Gr.le_of14 Gr.lt_of15 Gr.le_of15 Gr.lt_of16 Gr.le_of16 Gr.lt_of17 Gr.le_of17 Gr.lt_of18 Gr.le_of18 Gr.lt_of19 Gr.le_of19 Gr.lt_of20 Gr.le_of20 Gr.lt_of21 Gr.le_of21 Gr.lt_of22 Gr.le_of22 Gr.lt_of23 Gr.le_of23 Gr.lt_of24 Gr.le_of24
theorem Clone_any (a : Option Addr) (n c : Nat) (l : List Int) (w : World) (h : Ins w a n l) (hn : n ≤ 1000) : Calls Try.prog 21 #[.slice a n c] w fun e w' => ∃ v', e = .returned v' ∧ Lst w' w.heap.size v' l ∧ Below w.heap.size w w' := by
  obtain ⟨rfl, hi, h3⟩ := h
  rcases h3 with h3 | ⟨g, o, rfl, h4, h5⟩
  · obtain rfl := List.length_eq_zero_iff.1 h3
    cases a with
    | none => exact (Try.slices_Clone_int_nil _ c w).mono fun e w' ⟨h1, h2⟩ => ⟨_, h1, Lst.nil _ _, h2 ▸ Below.refl _ _⟩
    | some a => exact (Try.slices_Clone_int_zero a c w).mono fun e w' ⟨v', h1, h2, _, h4⟩ => ⟨v', h1, h2, h4⟩
  · refine (Try.slices_Clone_int g o l.length c l w (Nat.le_refl _) (by omega) h5).mono fun e w' ⟨v', h1, h2, _, h4⟩ => ⟨v', h1, ?_, h4⟩
    rw [List.take_length] at h2
    exact h2
/-- A new heap: of the things l. -/
def Fresh (k : Int → Int) (w : World) (f : Nat) (l : List Int) (e : Ending) (w' : World) : Prop :=
  ∃ t v L, e = .returned (.pointer (some ⟨t, 0, none⟩)) ∧ w.heap.size ≤ t ∧ Hs w' w.heap.size t f v L ∧ Hp k L ∧ L.Perm l ∧ Below w.heap.size w w'
/-- On the way: from place j on it is a heap. -/
def NewR (k : Int → Int) (w : World) (t f : Nat) (v : Value) (l : List Int) (j : Nat) (w' : World) : Prop :=
  ∃ L, Hs w' w.heap.size t f v L ∧ HpF k j L ∧ L.Perm l ∧ Below w.heap.size w w'
set_option maxRecDepth 20000 in set_option maxHeartbeats 2000000 in
theorem New_any {f : Nat} {k : Int → Int} (hO : Ordr f k) (a : Option Addr) (n c : Nat) (l : List Int) (w : World) (h : Ins w a n l) (hn : n ≤ 900) :
    Calls Try.prog 8 #[.func (.func f) #[] #[], .slice a n c] w fun e w' => Fresh k w f l e w' := by
  have C := Clone_any a n c l w h (by omega)
  have hl : n = l.length := h.1
  have hi := h.2.1
  have HI : Hid (n = l.length ∧ ∀ x ∈ l, I64 x) := ⟨hl, hi⟩
  clear h hl hi
  have e1 : (n : Int).tdiv 2 = ((n / 2 : Nat) : Int) := by rw [Int.tdiv_eq_ediv_of_nonneg (by omega)]; omega
  obtain ⟨m, hm⟩ : ∃ m, n / 2 = m := ⟨_, rfl⟩
  rw [hm] at e1
  have hm2 : m ≤ 900 := by omega
  have HM : Hid (n ≤ 2 * m + 1 ∧ 2 * m ≤ n) := ⟨by omega, by omega⟩
  have e2 : IntKind.i64.wrap (m : Int) = (m : Int) := by rw [IntKind.wrap_i64]; omega
  have e3 : IntKind.i64.wrap ((m : Int) - 1) = (m : Int) - 1 := by rw [IntKind.wrap_i64]; omega
  clear hm
  go_enter Try.func8, Try.ntmps8
  go_wp2_with fail
  refine C.mono ?_
  clear C
  rintro e w1 ⟨v, rfl, hl1, hb1⟩
  have h0 : Hid (NewR k w w1.heap.size f v l m (w1.alloc (.cells #[.func (.func f) #[] #[], v] 48))) := by
    refine ⟨l, ⟨?_, hl1.gr ((IsGr.refl _).alloc _), fun e => ?_, HI.out.2⟩, HpF.low (by have := HM.out; have := HI.out.1; omega), List.Perm.refl _, hb1.trans (((IsGr.refl _).alloc _).below.mono hb1.size)⟩
    · unfold Hb World.alloc
      simp
    · have := (own_block hl1 _ e).2
      omega
  have hw1 := hb1.size
  obtain ⟨va, vc, rfl, _⟩ := hl1.form
  clear hl1
  go_wp2_with fail
  go_loopg [6] m (fun r p6 wr => p6 = .int .i64 ((r : Int) - 1) ∧ r ≤ m ∧ Hid (NewR k w w1.heap.size f (.slice va l.length vc) l r wr))
  case atStart => exact ⟨by simp, Nat.le_refl _, h0⟩
  case round =>
    clear h0
    obtain ⟨rfl, hr, H⟩ := hrel
    by_cases hz : gk = 0
    · subst hz
      go_wp2_with fail
      go_ret
      obtain ⟨L, h1, h2, h3, h4⟩ := H.out
      exact ⟨_, _, L, rfl, hw1, h1, h2.hp, h3, h4⟩
    · obtain ⟨j, rfl⟩ : ∃ j, gk = j + 1 := ⟨gk - 1, by omega⟩
      have ej : (((j + 1 : Nat) : Int) - 1) = (j : Int) := by omega
      have ej2 : IntKind.i64.wrap ((j : Int) - 1) = (j : Int) - 1 := by rw [IntKind.wrap_i64]; omega
      rw [ej]
      clear ej
      have CS : ∀ w2, NewR k w w1.heap.size f (.slice va l.length vc) l (j + 1) w2 → Calls Try.prog 22 #[.pointer (some ⟨w1.heap.size, 0, none⟩), .int .i64 j] w2 fun e w3 => e = .returned (.tuple #[]) ∧ NewR k w w1.heap.size f (.slice va l.length vc) l j w3 := fun w2 ⟨L, h1, h2, h3, h4⟩ => by
        have hL := h3.length_eq
        have hm1 := HM.out
        have hm3 := HI.out.1
        obtain ⟨g, cc, ev, hgt, hbg, _⟩ := h1.blk (by omega)
        rw [ev] at h1 ⊢
        refine (sink_any hO w.heap.size w1.heap.size g cc L j j w2 h1 hgt (by omega) h2.down (Nat.le_refl _) (by omega)).mono ?_
        rintro e w3 ⟨rfl, L', q1, q2, q3, q4⟩
        exact ⟨rfl, L', q1, q3, q2.trans h3, h4.trans (q4.below h4.size (fun b hb => by
          have e : b = g := by simpa using hb
          rw [e]; exact hbg))⟩
      go_wp2_with fail
      refine (CS _ H.out).mono ?_
      rintro e w3 ⟨rfl, hn3⟩
      have H3 : Hid (NewR k w w1.heap.size f (.slice va l.length vc) l j w3) := hn3
      clear hn3 CS
      go_wp2_with fail
      go_roundg j
      case measure => omega
      case rel => exact ⟨by simp, by omega, H3⟩
set_option maxRecDepth 20000 in set_option maxHeartbeats 2000000 in
theorem first_any (v : Value) (l : List Int) (x : Int) (b : Bool) (w : World) (h : Rd w v l) (hx : (l = [] ∧ x = 0 ∧ b = false) ∨ (0 < l.length ∧ x = l.getD 0 0 ∧ b = true)) :
    Calls Try.prog 15 #[.int .i64 x, .bool b, v] w fun e w' => e = .returned (.bool true) ∧ w' = w := by
  obtain ⟨a, c, rfl, _, hI⟩ := h
  rcases hx with ⟨rfl, rfl, rfl⟩ | ⟨hl, rfl, rfl⟩
  · clear hI
    go_enter Try.func15, Try.ntmps15
    go_wp2_with fail
    go_ret
    exact ⟨rfl, rfl⟩
  · obtain ⟨g, o, rfl, _, hc⟩ := hI.at hl
    have hc := hc w (Below.refl _ _)
    obtain ⟨y, hy⟩ : ∃ y, l.getD 0 0 = y := ⟨_, rfl⟩
    obtain ⟨n, hn⟩ : ∃ n, l.length = n := ⟨_, rfl⟩
    rw [hy] at hc ⊢
    rw [hn] at hl ⊢
    simp only [Nat.add_zero] at hc
    have h1 : ¬ (n : Int) = 0 := by omega
    have h2 : (0 : Int) < n := by omega
    clear hI hy hn
    go_enter Try.func15, Try.ntmps15
    go_wp2_with fail
    go_ret
    exact ⟨rfl, rfl⟩
theorem head_same {L l : List Int} (h : Hp id L) (hp : L.Perm l) (hr : Rises l) : L.getD 0 0 = l.getD 0 0 := (first_same h hp.symm hr).symm
theorem pop_same {L L1 l : List Int} (h : Hp id L) (hp : L.Perm l) (hr : Rises l) (hl : 0 < L.length) (h1 : L.Perm (L.getD 0 0 :: L1)) : L1.Perm l.tail := by
  have e := head_same h hp hr
  cases l with
  | nil => have := hp.length_eq; simp at this; rw [this] at hl; simp at hl
  | cons x l =>
    rw [e] at h1
    exact (h1.symm.trans hp).cons_inv
theorem tail_same {L l : List Int} (h : Hp id L) (hp : L.Perm l) (hr : Rises l) : L.tail.Perm l.tail := by
  cases L with
  | nil => rw [List.nil_perm.1 hp]
  | cons x L => exact pop_same h hp hr (by simp) (List.Perm.refl _)
/-- Of a heap that lies from base on, nothing below base turns. -/
theorem hbs_low {w : World} {base t f : Nat} {v : Value} {L : List Int} (h : Hs w base t f v L) (ht : base ≤ t) : ∀ b ∈ hbs t v, base ≤ b := fun b hb => by
  rcases mem_hbs.1 hb with rfl | hb
  · exact ht
  · exact (own_block h.lst b hb).1
theorem After.below {k : Int → Int} {w w' : World} {base t f : Nat} {v : Value} {L : List Int} {Lp : List Int → Prop} (h : Hs w base t f v L) (ht : base ≤ t) (hb : base ≤ w.heap.size) (ha : After k w base t f v Lp w') : Below base w w' := by
  obtain ⟨_, _, _, _, _, h1, _⟩ := ha
  exact h1.below hb (hbs_low h ht)
set_option maxRecDepth 20000 in set_option maxHeartbeats 2000000 in
theorem awake_any (w : World) : Calls Try.prog 7 #[] w fun e w' => e = .returned (.bool true) ∧ Below w.heap.size w w' := by
  have hI : Ins (w.alloc (.cells #[.int .i64 5, .int .i64 3, .int .i64 8] 3)) (some ⟨w.heap.size, 0, none⟩) 3 [5, 3, 8] := by
    refine ⟨rfl, fun x hx => ?_, Or.inr ⟨_, _, rfl, by simp, fun i hi => ?_⟩⟩
    · simp only [List.mem_cons, List.not_mem_nil, or_false] at hx
      rcases hx with rfl | rfl | rfl <;> exact i64_lit (by decide)
    · have : i = 0 ∨ i = 1 ∨ i = 2 := by omega
      rcases this with rfl | rfl | rfl <;> simp [go_sem]
  have CN := New_any cmp_ordr _ 3 3 _ _ hI (by omega)
  have HB : Hid (Below w.heap.size w (w.alloc (.cells #[.int .i64 5, .int .i64 3, .int .i64 8] 3))) := ((IsGr.refl w).alloc _).below
  clear hI
  go_enter Try.func7, Try.ntmps7
  go_wp2_with fail
  refine CN.mono ?_
  clear CN
  rintro e w1 ⟨t, v, L, rfl, ht, hs, hk, hp, hb⟩
  have hl := hp.length_eq
  simp only [List.length_cons, List.length_nil] at hl
  have hr : Rises [3, 5, 8] := by unfold Rises; decide
  have hp' : L.Perm [3, 5, 8] := hp.trans (by decide)
  have h3 : L.getD 0 0 = 3 := head_same hk hp' hr
  have hb0 : w.heap.size ≤ (w.alloc (.cells #[.int .i64 5, .int .i64 3, .int .i64 8] 3)).heap.size := by simp
  have CP := Pop_some cmp_ordr _ t v L w1 hs hk (by omega) (by omega)
  rw [h3] at CP
  obtain ⟨b, hbb⟩ : ∃ b, b = (w.alloc (.cells #[.int .i64 5, .int .i64 3, .int .i64 8] 3)).heap.size := ⟨_, rfl⟩
  rw [← hbb] at hs CP ht hb0 hb
  have HB1 : Hid (Below w.heap.size w w1 ∧ Hs w1 b t 9 v L ∧ b ≤ w1.heap.size ∧ w.heap.size ≤ b ∧ b ≤ t ∧ L.Perm [3, 5, 8] ∧ Hp id L ∧ L.length = 3) := ⟨HB.out.trans (hb.mono hb0), hs, by rw [hbb]; exact hb.size, hb0, ht, hp', hk, hl⟩
  clear hp hk hs hl hb h3 hp' hbb
  go_wp2_with fail
  refine CP.mono ?_
  clear CP
  rintro e w2 ⟨rfl, hA⟩
  have hB2 := hA.below HB1.out.2.1 HB1.out.2.2.2.2.1 HB1.out.2.2.1
  obtain ⟨v2, L2, hs2, hk2, hp2, hW2, hn2⟩ := hA
  have q2 : L2.Perm [5, 8] := pop_same HB1.out.2.2.2.2.2.2.1 HB1.out.2.2.2.2.2.1 hr (by rw [HB1.out.2.2.2.2.2.2.2]; omega) (by rw [head_same HB1.out.2.2.2.2.2.2.1 HB1.out.2.2.2.2.2.1 hr]; exact hp2)
  have r2 : Rises [5, 8] := by unfold Rises; decide
  have l2 : L2.length = 2 := q2.length_eq
  have CS := Swap_some cmp_ordr b t v2 L2 1 w2 hs2 hk2 (i64_lit (by decide)) (by omega) (by omega)
  rw [head_same hk2 q2 r2] at CS
  have HB2 : Hid (Below w.heap.size w w2 ∧ Hs w2 b t 9 v2 L2 ∧ b ≤ w2.heap.size ∧ (1 :: L2.tail).Perm [1, 8]) := ⟨HB1.out.1.trans (hB2.mono HB1.out.2.2.2.1), hs2, Nat.le_trans HB1.out.2.2.1 hB2.size, (tail_same hk2 q2 r2).cons 1⟩
  clear hs2 hk2 hp2 hW2 hn2 hB2 q2 l2
  go_wp2_with fail
  refine CS.mono ?_
  clear CS
  rintro e w3 ⟨rfl, hA⟩
  have hB3 := hA.below HB2.out.2.1 HB1.out.2.2.2.2.1 HB2.out.2.2.1
  obtain ⟨v3, L3, hs3, hk3, hp3, hW3, hn3⟩ := hA
  have q3 : L3.Perm [1, 8] := hp3.trans HB2.out.2.2.2
  have r3 : Rises [1, 8] := by unfold Rises; decide
  have l3 : L3.length = 2 := q3.length_eq
  have CF := First_some w3 hs3 (by omega)
  have CL := Len_any w3 hs3
  have CC := Check_any cmp_ordr b t v3 L3 w3 hs3 hk3 (by omega)
  rw [head_same hk3 q3 r3] at CF
  rw [l3] at CL
  have HB3 : Hid (Below w.heap.size w w3) := HB2.out.1.trans (hB3.mono HB1.out.2.2.2.1)
  clear hs3 hk3 hp3 hW3 hn3 hB3 q3 l3 hr r2 r3
  go_wp2_with fail
  refine CF.mono ?_
  rintro e w4 ⟨rfl, e4⟩
  obtain rfl := e4.symm
  go_wp2_with fail
  refine CL.mono ?_
  rintro e w4 ⟨rfl, e4⟩
  obtain rfl := e4.symm
  go_wp2_with fail
  refine CC.mono ?_
  rintro e w4 ⟨rfl, hg4⟩
  go_wp2_with fail
  go_ret
  exact ⟨rfl, HB3.out.trans (hg4.below.mono HB3.out.size)⟩
end Go.Proofs.Ytdffpgfmodccgaa
