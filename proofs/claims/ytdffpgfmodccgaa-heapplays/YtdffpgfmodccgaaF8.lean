/- gromalaw06 over the loaded program: a heap and its list side by side; step. -/
import Derived.Test.YtdffpgfmodccgaaF7
namespace Go.Proofs.Ytdffpgfmodccgaa
open Go.RowKit Go.Shelf
attribute [local go_sem] Gr.size Gr.cell? Gr.frozen? Gr.setCell Gr.drew Gr.drewN Gr.of_drew Gr.of_drewN Gr.gr Gr.lt_of1 Gr.le_of1 Gr.lt_of2 Gr.le_of2 Gr.lt_of3 Gr.le_of3 Gr.lt_of4 Gr.le_of4 Gr.lt_of5 Gr.le_of5 Gr.lt_of6 Gr.le_of6 Gr.lt_of7 Gr.le_of7 Gr.lt_of8 Gr.le_of8 Gr.lt_of9 Gr.le_of9 Gr.lt_of10 Gr.le_of10 Gr.lt_of11 Gr.le_of11 Gr.lt_of12 Gr.le_of12 Gr.lt_of13 Gr.le_of13 Gr.lt_of14 Gr.le_of14 Gr.lt_of15 Gr.le_of15 Gr.lt_of16 Gr.le_of16 Gr.lt_of17 Gr.le_of17 Gr.lt_of18 Gr.le_of18 Gr.lt_of19 Gr.le_of19 Gr.lt_of20 Gr.le_of20 Gr.lt_of21 Gr.le_of21 Gr.lt_of22 Gr.le_of22 Gr.lt_of23 Gr.le_of23 Gr.lt_of24 Gr.le_of24
/-- The heap at t and the list v hold the same. -/
structure Both (w : World) (base t : Nat) (hv : Value) (L : List Int) (v : Value) (l : List Int) : Prop where
  hs : Hs w base t 9 hv L
  hp : Hp id L
  rd : Rd w v l
  perm : L.Perm l
  rise : Rises l
  apart : ∀ g, v.ownBlock = some g → g ∉ hbs t hv
  low : base ≤ t
theorem Both.wr {w w' : World} {base t : Nat} {hv v : Value} {L l : List Int} {S : List Nat} (h : Both w base t hv L v l) (hg : Wr S w w') (h1 : ∀ b ∈ S, b ∉ hbs t hv) (h2 : ∀ g, v.ownBlock = some g → g ∉ S) : Both w' base t hv L v l :=
  ⟨h.hs.wr hg h1, h.hp, h.rd.wr hg h2, h.perm, h.rise, h.apart, h.low⟩
theorem Both.gr {w w' : World} {base t : Nat} {hv v : Value} {L l : List Int} (h : Both w base t hv L v l) (hg : IsGr w w') : Both w' base t hv L v l := h.wr (S := []) (Wr.of_gr hg) (by simp) (by simp)
theorem Both.below {w w' : World} {base t : Nat} {hv v : Value} {L l : List Int} (h : Both w base t hv L v l) (hg : Below w.heap.size w w') : Both w' base t hv L v l := h.wr (S := []) (Wr.of_below hg) (by simp) (by simp)
theorem Both.len {w : World} {base t : Nat} {hv v : Value} {L l : List Int} (h : Both w base t hv L v l) : L.length = l.length := h.perm.length_eq
theorem Both.ints {w : World} {base t : Nat} {hv v : Value} {L l : List Int} (h : Both w base t hv L v l) : ∀ x ∈ l, I64 x := fun x hx => h.hs.ints x (h.perm.symm.subset hx)
/-- What a step leaves. -/
def StepR (w : World) (base t : Nat) (l : List Int) (e : Ending) (w' : World) : Prop :=
  ∃ hv' L' v' l', e = .returned (.tuple #[v', .bool true]) ∧ Both w' base t hv' L' v' l' ∧ Below base w w' ∧ l'.length ≤ l.length + 1
theorem step_same {w w' : World} {base t : Nat} {hv v : Value} {L l : List Int} (h : Both w base t hv L v l) (hb : base ≤ w.heap.size) (hg : IsGr w w') : StepR w base t l (.returned (.tuple #[v, .bool true])) w' :=
  ⟨hv, L, v, l, rfl, h.gr hg, hg.below.mono hb, by omega⟩
theorem rd_tail {w : World} {g o o' m c : Nat} {l : List Int} (h : Rd w (.slice (some ⟨g, o, none⟩) m c) l) (ho : c = 1 ∧ o' = o ∨ o' = o + 1) : Rd w (.slice (some ⟨g, o', none⟩) (m - 1) (c - 1)) l.tail := by
  obtain ⟨a, c', e, hc, h1, h2, h3⟩ := h
  injection e with e1 e2 e3
  subst e1 e2 e3
  refine ⟨some ⟨g, o', none⟩, c - 1, by simp, by simp; omega, by simp, fun x hx => h2 x (List.mem_of_mem_tail hx), ?_⟩
  rcases ho with ⟨rfl, rfl⟩ | rfl
  · left; simp; omega
  · rcases h3 with h3 | ⟨g', o2, e, h4, h5⟩
    · left; simp; omega
    · injection e with e
      injection e with e1 e2
      subst e1 e2
      refine Or.inr ⟨g, o + 1, rfl, h4, fun i hi => ?_⟩
      simp at hi
      have := h5 (i + 1) (by omega)
      rw [show o + 1 + i = o + (i + 1) by omega, this]
      simp
theorem step_pop {w wb w2 : World} {base t : Nat} {hv v rv : Value} {L l : List Int} (h : Both w base t hv L v l) (hb : base ≤ w.heap.size) (hg : IsGr w wb) (hl : 0 < L.length) (hr : Rd w rv l.tail) (ho : rv.ownBlock = v.ownBlock)
    (ha : After id wb base t 9 hv (fun L' => L.Perm (L.getD 0 0 :: L')) w2) : StepR w base t l (.returned (.tuple #[rv, .bool true])) w2 := by
  have hB := (hg.below.mono hb).trans (ha.below (h.hs.gr hg) h.low (Nat.le_trans hb hg.size))
  obtain ⟨hv', L', h1, h2, h3, h4, h5⟩ := ha
  have hno : ∀ g, rv.ownBlock = some g → g ∉ hbs t hv := fun g e => h.apart g (ho ▸ e)
  refine ⟨hv', L', rv, l.tail, rfl, ⟨h1, h2, (hr.gr hg).wr h4 hno, pop_same h.hp h.perm h.rise hl h3, rises_tail h.rise, fun g e hm => ?_, h.low⟩, hB, by simp only [List.length_tail]; omega⟩
  rcases mem_hbs.1 hm with e1 | e1
  · exact hno g e (mem_hbs.2 (Or.inl e1))
  · rcases h5 g e1 with e2 | e2
    · exact hno g e (mem_hbs.2 (Or.inr e2))
    · obtain ⟨a', c', e3, _, q1, _, q3⟩ := h.rd
      have hlen := h.len
      have hgs := hg.size
      rcases q3 with q3 | ⟨g2, o2, rfl, q4, _⟩
      · omega
      · rw [ho, e3] at e
        have e4 : g2 = g := Option.some.inj e
        omega
theorem step_put {w wb w2 w3 : World} {base t : Nat} {hv v v' : Value} {L l l0 : List Int} {x : Int} (h : Both w base t hv L v l) (hb : base ≤ w.heap.size) (hg : IsGr w wb) (hr : Rises l0) (hi : ∀ y ∈ l0, I64 y) (hx : I64 x) (hl : l0.length ≤ l.length)
    (ha : After id wb base t 9 hv (fun L' => L'.Perm (x :: l0)) w2) (hp : Lst w3 w2.heap.size v' (pi x l0)) (h23 : Below w2.heap.size w2 w3) : StepR w base t l (.returned (.tuple #[v', .bool true])) w3 := by
  have hB := (hg.below.mono hb).trans (ha.below (h.hs.gr hg) h.low (Nat.le_trans hb hg.size))
  obtain ⟨hv', L', h1, h2, h3, h4, h5⟩ := ha
  refine ⟨hv', L', v', pi x l0, rfl, ⟨h1.wr (S := []) (Wr.of_below h23) (by simp), h2, Rd.of_lst hp (pi_ints hx hi), h3.trans (pi_perm x l0).symm, pi_rises hr, fun g e hm => ?_, h.low⟩, hB.trans (h23.mono (Nat.le_trans hb (Nat.le_trans hg.size h4.size))), by rw [pi_len]; omega⟩
  have e1 := (own_block hp g e).1
  have e2 := h1.lt g hm
  omega

set_option maxRecDepth 20000 in set_option maxHeartbeats 2000000 in
theorem step_pushE (base t : Nat) (hv : Value) (L : List Int) (a : Option Addr) (c : Nat) (n : Int) (w : World) (h : Both w base t hv L (.slice a 0 c) []) (hb : base ≤ w.heap.size) (hl : L.length ≤ 300) (hn : I64 n) :
    Calls Try.prog 12 #[.pointer (some ⟨t, 0, none⟩), .slice a 0 c, .agg #[.int .i64 1, .int .i64 n]] w fun e w' => StepR w base t [] e w' := by
  have hA := (IsGr.refl w).alloc (.cells #[.int .i64 1, .int .i64 n] 30)
  obtain rfl : L = [] := List.length_eq_zero_iff.1 (by rw [h.len]; rfl)
  have CP := Push_any cmp_ordr base t hv [] n _ (h.hs.gr hA) h.hp hn (by simp) (Nat.le_trans hb hA.size)
  have HH : Hid (Both w base t hv [] (.slice a 0 c) []) := h
  clear h
  go_enter Try.func12, Try.ntmps12
  go_wp2_with fail
  refine CP.mono ?_
  clear CP
  rintro e w2 ⟨rfl, ha⟩
  have hrd : Rd w2 (.slice a 0 c) [] := by
    obtain ⟨_, _, _, _, _, hW, _⟩ := ha
    exact (HH.out.rd.gr hA).wr hW (fun g e => HH.out.apart g e)
  have b1 : w2.cell? ⟨w.heap.size, 1, none⟩ = some (.int .i64 n) := by
    obtain ⟨_, _, _, _, _, hW, _⟩ := ha
    refine cell_wr (a := ⟨w.heap.size, 1, none⟩) (by simp [go_sem]) hW (fun hm => ?_)
    have := HH.out.hs.lt _ hm
    simp only at this
    omega
  obtain ⟨a2, c2, e2, _, hI⟩ := hrd
  have CU := RPut_any a2 _ c2 [] n w2 hI (by rw [← HH.out.len]; omega)
  rw [← e2] at CU
  clear e2 hI
  go_wp2_with fail
  refine CU.mono ?_
  rintro e w3 ⟨v', rfl, hl3, hb3⟩
  go_wp2_with fail
  refine bodyPost_ret (v := .tuple #[v', .bool true]) (by simp [results, Try.results12, go_sem]) rfl ?_
  obtain ⟨q1, q2, q3, q4, q5, q6⟩ := ha
  exact step_put HH.out hb hA HH.out.rise HH.out.ints hn (Nat.le_refl _) ⟨q1, q2, q3, q4, q5.trans (HH.out.perm.cons n), q6⟩ hl3 hb3

set_option maxRecDepth 20000 in set_option maxHeartbeats 2000000 in
theorem step_pushO (base t : Nat) (hv : Value) (L : List Int) (g o : Nat) (l : List Int) (n : Int) (w : World) (h : Both w base t hv L (.slice (some ⟨g, o, none⟩) 1 1) l) (hb : base ≤ w.heap.size) (hl : L.length ≤ 300) (hn : I64 n) :
    Calls Try.prog 12 #[.pointer (some ⟨t, 0, none⟩), .slice (some ⟨g, o, none⟩) 1 1, .agg #[.int .i64 1, .int .i64 n]] w fun e w' => StepR w base t l e w' := by
  have hA := (IsGr.refl w).alloc (.cells #[.int .i64 1, .int .i64 n] 30)
  have hm : 1 = l.length := by obtain ⟨_, _, e, _⟩ := h.rd; injection e
  have hLn : 0 < L.length := by rw [h.len]; omega
  have hR : Hid (Rd w (.slice (some ⟨g, o, none⟩) 0 0) l.tail) := by have := rd_tail (o' := o) h.rd (Or.inl ⟨rfl, rfl⟩); exact this
  have CP := Push_any cmp_ordr base t hv L n _ (h.hs.gr hA) h.hp hn (by omega) (Nat.le_trans hb hA.size)
  have HH : Hid (Both w base t hv L (.slice (some ⟨g, o, none⟩) 1 1) l) := h
  have HM : Hid (1 = l.length ∧ 0 < L.length) := ⟨hm, hLn⟩
  clear hm hLn
  clear h
  go_enter Try.func12, Try.ntmps12
  go_wp2_with fail
  refine CP.mono ?_
  clear CP
  rintro e w2 ⟨rfl, ha⟩
  have hrd : Rd w2 (.slice (some ⟨g, o, none⟩) 1 1) l := by
    obtain ⟨_, _, _, _, _, hW, _⟩ := ha
    exact (HH.out.rd.gr hA).wr hW (fun g e => HH.out.apart g e)
  have b1 : w2.cell? ⟨w.heap.size, 1, none⟩ = some (.int .i64 n) := by
    obtain ⟨_, _, _, _, _, hW, _⟩ := ha
    refine cell_wr (a := ⟨w.heap.size, 1, none⟩) (by simp [go_sem]) hW (fun hm => ?_)
    have := HH.out.hs.lt _ hm
    simp only at this
    omega
  obtain ⟨a2, c2, e2, _, hI⟩ := hrd
  have CU := RPut_any a2 _ c2 l n w2 hI (by rw [← HH.out.len]; omega)
  rw [← e2] at CU
  clear e2 hI
  go_wp2_with fail
  refine CU.mono ?_
  rintro e w3 ⟨v', rfl, hl3, hb3⟩
  go_wp2_with fail
  refine bodyPost_ret (v := .tuple #[v', .bool true]) (by simp [results, Try.results12, go_sem]) rfl ?_
  obtain ⟨q1, q2, q3, q4, q5, q6⟩ := ha
  exact step_put HH.out hb hA HH.out.rise HH.out.ints hn (Nat.le_refl _) ⟨q1, q2, q3, q4, q5.trans (HH.out.perm.cons n), q6⟩ hl3 hb3

set_option maxRecDepth 20000 in set_option maxHeartbeats 2000000 in
theorem step_pushM (base t : Nat) (hv : Value) (L : List Int) (g o m c : Nat) (l : List Int) (hc1 : ¬ c = 1) (n : Int) (w : World) (h : Both w base t hv L (.slice (some ⟨g, o, none⟩) m c) l) (hb : base ≤ w.heap.size) (hl : L.length ≤ 300) (hn : I64 n) (hlm : 0 < m) :
    Calls Try.prog 12 #[.pointer (some ⟨t, 0, none⟩), .slice (some ⟨g, o, none⟩) m c, .agg #[.int .i64 1, .int .i64 n]] w fun e w' => StepR w base t l e w' := by
  have hA := (IsGr.refl w).alloc (.cells #[.int .i64 1, .int .i64 n] 30)
  have hm : m = l.length := by obtain ⟨_, _, e, _⟩ := h.rd; injection e
  have hm' : (0 : Int) < m := by omega
  have hcc : m ≤ c := by obtain ⟨_, _, e, q, _⟩ := h.rd; injection e with e1 e2 e3; omega
  have hLn : 0 < L.length := by rw [h.len]; omega
  have hR : Hid (Rd w (.slice (some ⟨g, o + 1, none⟩) (m - 1) (c - 1)) l.tail) := by have := rd_tail (o' := o + 1) h.rd (Or.inr rfl); exact this
  have CP := Push_any cmp_ordr base t hv L n _ (h.hs.gr hA) h.hp hn (by omega) (Nat.le_trans hb hA.size)
  have HH : Hid (Both w base t hv L (.slice (some ⟨g, o, none⟩) m c) l) := h
  have HM : Hid (m = l.length ∧ 0 < L.length) := ⟨hm, hLn⟩
  clear hm hLn
  clear h
  go_enter Try.func12, Try.ntmps12
  go_wp2_with fail
  refine CP.mono ?_
  clear CP
  rintro e w2 ⟨rfl, ha⟩
  have hrd : Rd w2 (.slice (some ⟨g, o, none⟩) m c) l := by
    obtain ⟨_, _, _, _, _, hW, _⟩ := ha
    exact (HH.out.rd.gr hA).wr hW (fun g e => HH.out.apart g e)
  have b1 : w2.cell? ⟨w.heap.size, 1, none⟩ = some (.int .i64 n) := by
    obtain ⟨_, _, _, _, _, hW, _⟩ := ha
    refine cell_wr (a := ⟨w.heap.size, 1, none⟩) (by simp [go_sem]) hW (fun hm => ?_)
    have := HH.out.hs.lt _ hm
    simp only at this
    omega
  obtain ⟨a2, c2, e2, _, hI⟩ := hrd
  have CU := RPut_any a2 _ c2 l n w2 hI (by rw [← HH.out.len]; omega)
  rw [← e2] at CU
  clear e2 hI
  go_wp2_with fail
  refine CU.mono ?_
  rintro e w3 ⟨v', rfl, hl3, hb3⟩
  go_wp2_with fail
  refine bodyPost_ret (v := .tuple #[v', .bool true]) (by simp [results, Try.results12, go_sem]) rfl ?_
  obtain ⟨q1, q2, q3, q4, q5, q6⟩ := ha
  exact step_put HH.out hb hA HH.out.rise HH.out.ints hn (Nat.le_refl _) ⟨q1, q2, q3, q4, q5.trans (HH.out.perm.cons n), q6⟩ hl3 hb3

set_option maxRecDepth 20000 in set_option maxHeartbeats 2000000 in
theorem step_popE (base t : Nat) (hv : Value) (L : List Int) (a : Option Addr) (c : Nat) (n : Int) (w : World) (h : Both w base t hv L (.slice a 0 c) []) (hb : base ≤ w.heap.size) (hl : L.length ≤ 300) (_ : I64 n) :
    Calls Try.prog 12 #[.pointer (some ⟨t, 0, none⟩), .slice a 0 c, .agg #[.int .i64 2, .int .i64 n]] w fun e w' => StepR w base t [] e w' := by
  have hA := (IsGr.refl w).alloc (.cells #[.int .i64 2, .int .i64 n] 30)
  obtain rfl : L = [] := List.length_eq_zero_iff.1 (by rw [h.len]; rfl)
  have CP := Pop_none _ (h.hs.gr hA)
  have HH : Hid (Both w base t hv [] (.slice a 0 c) []) := h
  clear h
  go_enter Try.func12, Try.ntmps12
  go_wp2_with fail
  refine CP.mono ?_
  clear CP
  rintro e w2 ⟨rfl, e2⟩
  obtain rfl := e2.symm
  have CF := first_any (.slice a 0 c) [] 0 false _ (HH.out.rd.gr hA) (Or.inl ⟨rfl, rfl, rfl⟩)
  go_wp2_with fail
  refine CF.mono ?_
  rintro e w3 ⟨rfl, e2⟩
  obtain rfl := e2.symm
  go_wp2_with fail
  refine bodyPost_ret (v := .tuple #[.slice a 0 c, .bool true]) (by simp [results, Try.results12, go_sem]) rfl ?_
  exact step_same HH.out hb hA

set_option maxRecDepth 20000 in set_option maxHeartbeats 2000000 in
theorem step_popO (base t : Nat) (hv : Value) (L : List Int) (g o : Nat) (l : List Int) (n : Int) (w : World) (h : Both w base t hv L (.slice (some ⟨g, o, none⟩) 1 1) l) (hb : base ≤ w.heap.size) (hl : L.length ≤ 300) (_ : I64 n) :
    Calls Try.prog 12 #[.pointer (some ⟨t, 0, none⟩), .slice (some ⟨g, o, none⟩) 1 1, .agg #[.int .i64 2, .int .i64 n]] w fun e w' => StepR w base t l e w' := by
  have hA := (IsGr.refl w).alloc (.cells #[.int .i64 2, .int .i64 n] 30)
  have hm : 1 = l.length := by obtain ⟨_, _, e, _⟩ := h.rd; injection e
  have hLn : 0 < L.length := by rw [h.len]; omega
  have hR : Hid (Rd w (.slice (some ⟨g, o, none⟩) 0 0) l.tail) := by have := rd_tail (o' := o) h.rd (Or.inl ⟨rfl, rfl⟩); exact this
  have CP := Pop_some cmp_ordr base t hv L _ (h.hs.gr hA) h.hp hLn (by omega)
  rw [head_same h.hp h.perm h.rise] at CP
  obtain ⟨x, hx⟩ : ∃ x, l.getD 0 0 = x := ⟨_, rfl⟩
  have HX : Hid (l.getD 0 0 = x) := hx
  rw [hx] at CP
  clear hx
  have HH : Hid (Both w base t hv L (.slice (some ⟨g, o, none⟩) 1 1) l) := h
  have HM : Hid (1 = l.length ∧ 0 < L.length) := ⟨hm, hLn⟩
  clear hm hLn
  clear h
  go_enter Try.func12, Try.ntmps12
  go_wp2_with fail
  refine CP.mono ?_
  clear CP
  rintro e w2 ⟨rfl, ha⟩
  have hrd : Rd w2 (.slice (some ⟨g, o, none⟩) 1 1) l := by
    obtain ⟨_, _, _, _, _, hW, _⟩ := ha
    exact (HH.out.rd.gr hA).wr hW (fun g e => HH.out.apart g e)
  have CF := first_any (.slice (some ⟨g, o, none⟩) 1 1) l x true w2 hrd (Or.inr ⟨by have := HM.out; omega, HX.out.symm, rfl⟩)
  go_wp2_with fail
  refine CF.mono ?_
  rintro e w3 ⟨rfl, e2⟩
  obtain rfl := e2.symm
  go_wp2_with fail
  refine bodyPost_ret (v := .tuple #[.slice (some ⟨g, o, none⟩) 0 0, .bool true]) (by simp [results, Try.results12, go_sem]) rfl ?_
  refine step_pop HH.out hb hA HM.out.2 hR.out rfl ?_
  rw [head_same HH.out.hp HH.out.perm HH.out.rise, HX.out]
  exact ha

set_option maxRecDepth 20000 in set_option maxHeartbeats 2000000 in
theorem step_popM (base t : Nat) (hv : Value) (L : List Int) (g o m c : Nat) (l : List Int) (hc1 : ¬ c = 1) (n : Int) (w : World) (h : Both w base t hv L (.slice (some ⟨g, o, none⟩) m c) l) (hb : base ≤ w.heap.size) (hl : L.length ≤ 300) (_ : I64 n) (hlm : 0 < m) :
    Calls Try.prog 12 #[.pointer (some ⟨t, 0, none⟩), .slice (some ⟨g, o, none⟩) m c, .agg #[.int .i64 2, .int .i64 n]] w fun e w' => StepR w base t l e w' := by
  have hA := (IsGr.refl w).alloc (.cells #[.int .i64 2, .int .i64 n] 30)
  have hm : m = l.length := by obtain ⟨_, _, e, _⟩ := h.rd; injection e
  have hm' : (0 : Int) < m := by omega
  have hcc : m ≤ c := by obtain ⟨_, _, e, q, _⟩ := h.rd; injection e with e1 e2 e3; omega
  have hLn : 0 < L.length := by rw [h.len]; omega
  have hR : Hid (Rd w (.slice (some ⟨g, o + 1, none⟩) (m - 1) (c - 1)) l.tail) := by have := rd_tail (o' := o + 1) h.rd (Or.inr rfl); exact this
  have CP := Pop_some cmp_ordr base t hv L _ (h.hs.gr hA) h.hp hLn (by omega)
  rw [head_same h.hp h.perm h.rise] at CP
  obtain ⟨x, hx⟩ : ∃ x, l.getD 0 0 = x := ⟨_, rfl⟩
  have HX : Hid (l.getD 0 0 = x) := hx
  rw [hx] at CP
  clear hx
  have HH : Hid (Both w base t hv L (.slice (some ⟨g, o, none⟩) m c) l) := h
  have HM : Hid (m = l.length ∧ 0 < L.length) := ⟨hm, hLn⟩
  clear hm hLn
  clear h
  go_enter Try.func12, Try.ntmps12
  go_wp2_with fail
  refine CP.mono ?_
  clear CP
  rintro e w2 ⟨rfl, ha⟩
  have hrd : Rd w2 (.slice (some ⟨g, o, none⟩) m c) l := by
    obtain ⟨_, _, _, _, _, hW, _⟩ := ha
    exact (HH.out.rd.gr hA).wr hW (fun g e => HH.out.apart g e)
  have CF := first_any (.slice (some ⟨g, o, none⟩) m c) l x true w2 hrd (Or.inr ⟨by have := HM.out; omega, HX.out.symm, rfl⟩)
  go_wp2_with fail
  refine CF.mono ?_
  rintro e w3 ⟨rfl, e2⟩
  obtain rfl := e2.symm
  go_wp2_with fail
  refine bodyPost_ret (v := .tuple #[.slice (some ⟨g, o + 1, none⟩) (m - 1) (c - 1), .bool true]) (by simp [results, Try.results12, go_sem]) rfl ?_
  refine step_pop HH.out hb hA HM.out.2 hR.out rfl ?_
  rw [head_same HH.out.hp HH.out.perm HH.out.rise, HX.out]
  exact ha

set_option maxRecDepth 20000 in set_option maxHeartbeats 2000000 in
theorem step_swapE (base t : Nat) (hv : Value) (L : List Int) (a : Option Addr) (c : Nat) (n : Int) (w : World) (h : Both w base t hv L (.slice a 0 c) []) (hb : base ≤ w.heap.size) (hl : L.length ≤ 300) (hn : I64 n) :
    Calls Try.prog 12 #[.pointer (some ⟨t, 0, none⟩), .slice a 0 c, .agg #[.int .i64 3, .int .i64 n]] w fun e w' => StepR w base t [] e w' := by
  have hA := (IsGr.refl w).alloc (.cells #[.int .i64 3, .int .i64 n] 30)
  obtain rfl : L = [] := List.length_eq_zero_iff.1 (by rw [h.len]; rfl)
  have CP := Swap_none cmp_ordr base t hv n _ (h.hs.gr hA) hn (Nat.le_trans hb hA.size)
  have HH : Hid (Both w base t hv [] (.slice a 0 c) []) := h
  clear h
  go_enter Try.func12, Try.ntmps12
  go_wp2_with fail
  refine CP.mono ?_
  clear CP
  rintro e w2 ⟨rfl, ha⟩
  obtain ⟨q1, q2, q3, q4, q5, q6, q7⟩ := ha
  have hrd : Rd w2 (.slice a 0 c) [] := (HH.out.rd.gr hA).wr q6 (fun g e => HH.out.apart g e)
  have hrt : Rd w2 (.slice a 0 c) [] := hrd
  have b1 : w2.cell? ⟨w.heap.size, 1, none⟩ = some (.int .i64 n) := by
    refine cell_wr (a := ⟨w.heap.size, 1, none⟩) (by simp [go_sem]) q6 (fun hm => ?_)
    have := HH.out.hs.lt _ hm
    simp only at this
    omega
  obtain ⟨a2, c2, e2, _, hI⟩ := hrt
  have CU := RPut_any a2 _ c2 [] n w2 hI (by simp)
  rw [← e2] at CU
  clear e2 hI
  go_wp2_with fail
  refine CU.mono ?_
  rintro e w3 ⟨v', rfl, hl3, hb3⟩
  have CF := first_any (.slice a 0 c) [] 0 false w3 (hrd.wr (S := []) (Wr.of_below hb3) (by simp)) (Or.inl ⟨rfl, rfl, rfl⟩)
  go_wp2_with fail
  refine CF.mono ?_
  rintro e w4 ⟨rfl, e2⟩
  obtain rfl := e2.symm
  go_wp2_with fail
  refine bodyPost_ret (v := .tuple #[v', .bool true]) (by simp [results, Try.results12, go_sem]) rfl ?_
  exact step_put HH.out hb hA HH.out.rise (by simp) hn (by simp) ⟨q1, q2, q3, q4, q5, q6, q7⟩ hl3 hb3

set_option maxRecDepth 20000 in set_option maxHeartbeats 2000000 in
theorem step_swapO (base t : Nat) (hv : Value) (L : List Int) (g o : Nat) (l : List Int) (n : Int) (w : World) (h : Both w base t hv L (.slice (some ⟨g, o, none⟩) 1 1) l) (hb : base ≤ w.heap.size) (hl : L.length ≤ 300) (hn : I64 n) :
    Calls Try.prog 12 #[.pointer (some ⟨t, 0, none⟩), .slice (some ⟨g, o, none⟩) 1 1, .agg #[.int .i64 3, .int .i64 n]] w fun e w' => StepR w base t l e w' := by
  have hA := (IsGr.refl w).alloc (.cells #[.int .i64 3, .int .i64 n] 30)
  have hm : 1 = l.length := by obtain ⟨_, _, e, _⟩ := h.rd; injection e
  have hLn : 0 < L.length := by rw [h.len]; omega
  have hR : Hid (Rd w (.slice (some ⟨g, o, none⟩) 0 0) l.tail) := by have := rd_tail (o' := o) h.rd (Or.inl ⟨rfl, rfl⟩); exact this
  have CP := Swap_some cmp_ordr base t hv L n _ (h.hs.gr hA) h.hp hn hLn (by omega)
  rw [head_same h.hp h.perm h.rise] at CP
  obtain ⟨x, hx⟩ : ∃ x, l.getD 0 0 = x := ⟨_, rfl⟩
  have HX : Hid (l.getD 0 0 = x) := hx
  rw [hx] at CP
  clear hx
  have HH : Hid (Both w base t hv L (.slice (some ⟨g, o, none⟩) 1 1) l) := h
  have HM : Hid (1 = l.length ∧ 0 < L.length) := ⟨hm, hLn⟩
  clear hm hLn
  clear h
  go_enter Try.func12, Try.ntmps12
  go_wp2_with fail
  refine CP.mono ?_
  clear CP
  rintro e w2 ⟨rfl, ha⟩
  obtain ⟨q1, q2, q3, q4, q5, q6, q7⟩ := ha
  have hrd : Rd w2 (.slice (some ⟨g, o, none⟩) 1 1) l := (HH.out.rd.gr hA).wr q6 (fun g e => HH.out.apart g e)
  have hrt : Rd w2 (.slice (some ⟨g, o, none⟩) 0 0) l.tail := (hR.out.gr hA).wr q6 (fun g e => HH.out.apart g e)
  have b1 : w2.cell? ⟨w.heap.size, 1, none⟩ = some (.int .i64 n) := by
    refine cell_wr (a := ⟨w.heap.size, 1, none⟩) (by simp [go_sem]) q6 (fun hm => ?_)
    have := HH.out.hs.lt _ hm
    simp only at this
    omega
  obtain ⟨a2, c2, e2, _, hI⟩ := hrt
  have CU := RPut_any a2 _ c2 l.tail n w2 hI (by have := HH.out.len; simp; omega)
  rw [← e2] at CU
  clear e2 hI
  go_wp2_with fail
  refine CU.mono ?_
  rintro e w3 ⟨v', rfl, hl3, hb3⟩
  have CF := first_any (.slice (some ⟨g, o, none⟩) 1 1) l x true w3 (hrd.wr (S := []) (Wr.of_below hb3) (by simp)) (Or.inr ⟨by have := HM.out; omega, HX.out.symm, rfl⟩)
  go_wp2_with fail
  refine CF.mono ?_
  rintro e w4 ⟨rfl, e2⟩
  obtain rfl := e2.symm
  go_wp2_with fail
  refine bodyPost_ret (v := .tuple #[v', .bool true]) (by simp [results, Try.results12, go_sem]) rfl ?_
  exact step_put HH.out hb hA (rises_tail HH.out.rise) (fun y hy => HH.out.ints y (List.mem_of_mem_tail hy)) hn (by simp) ⟨q1, q2, q3, q4, q5.trans ((tail_same HH.out.hp HH.out.perm HH.out.rise).cons n), q6, q7⟩ hl3 hb3

set_option maxRecDepth 20000 in set_option maxHeartbeats 2000000 in
theorem step_swapM (base t : Nat) (hv : Value) (L : List Int) (g o m c : Nat) (l : List Int) (hc1 : ¬ c = 1) (n : Int) (w : World) (h : Both w base t hv L (.slice (some ⟨g, o, none⟩) m c) l) (hb : base ≤ w.heap.size) (hl : L.length ≤ 300) (hn : I64 n) (hlm : 0 < m) :
    Calls Try.prog 12 #[.pointer (some ⟨t, 0, none⟩), .slice (some ⟨g, o, none⟩) m c, .agg #[.int .i64 3, .int .i64 n]] w fun e w' => StepR w base t l e w' := by
  have hA := (IsGr.refl w).alloc (.cells #[.int .i64 3, .int .i64 n] 30)
  have hm : m = l.length := by obtain ⟨_, _, e, _⟩ := h.rd; injection e
  have hm' : (0 : Int) < m := by omega
  have hcc : m ≤ c := by obtain ⟨_, _, e, q, _⟩ := h.rd; injection e with e1 e2 e3; omega
  have hLn : 0 < L.length := by rw [h.len]; omega
  have hR : Hid (Rd w (.slice (some ⟨g, o + 1, none⟩) (m - 1) (c - 1)) l.tail) := by have := rd_tail (o' := o + 1) h.rd (Or.inr rfl); exact this
  have CP := Swap_some cmp_ordr base t hv L n _ (h.hs.gr hA) h.hp hn hLn (by omega)
  rw [head_same h.hp h.perm h.rise] at CP
  obtain ⟨x, hx⟩ : ∃ x, l.getD 0 0 = x := ⟨_, rfl⟩
  have HX : Hid (l.getD 0 0 = x) := hx
  rw [hx] at CP
  clear hx
  have HH : Hid (Both w base t hv L (.slice (some ⟨g, o, none⟩) m c) l) := h
  have HM : Hid (m = l.length ∧ 0 < L.length) := ⟨hm, hLn⟩
  clear hm hLn
  clear h
  go_enter Try.func12, Try.ntmps12
  go_wp2_with fail
  refine CP.mono ?_
  clear CP
  rintro e w2 ⟨rfl, ha⟩
  obtain ⟨q1, q2, q3, q4, q5, q6, q7⟩ := ha
  have hrd : Rd w2 (.slice (some ⟨g, o, none⟩) m c) l := (HH.out.rd.gr hA).wr q6 (fun g e => HH.out.apart g e)
  have hrt : Rd w2 (.slice (some ⟨g, o + 1, none⟩) (m - 1) (c - 1)) l.tail := (hR.out.gr hA).wr q6 (fun g e => HH.out.apart g e)
  have b1 : w2.cell? ⟨w.heap.size, 1, none⟩ = some (.int .i64 n) := by
    refine cell_wr (a := ⟨w.heap.size, 1, none⟩) (by simp [go_sem]) q6 (fun hm => ?_)
    have := HH.out.hs.lt _ hm
    simp only at this
    omega
  obtain ⟨a2, c2, e2, _, hI⟩ := hrt
  have CU := RPut_any a2 _ c2 l.tail n w2 hI (by have := HH.out.len; simp; omega)
  rw [← e2] at CU
  clear e2 hI
  go_wp2_with fail
  refine CU.mono ?_
  rintro e w3 ⟨v', rfl, hl3, hb3⟩
  have CF := first_any (.slice (some ⟨g, o, none⟩) m c) l x true w3 (hrd.wr (S := []) (Wr.of_below hb3) (by simp)) (Or.inr ⟨by have := HM.out; omega, HX.out.symm, rfl⟩)
  go_wp2_with fail
  refine CF.mono ?_
  rintro e w4 ⟨rfl, e2⟩
  obtain rfl := e2.symm
  go_wp2_with fail
  refine bodyPost_ret (v := .tuple #[v', .bool true]) (by simp [results, Try.results12, go_sem]) rfl ?_
  exact step_put HH.out hb hA (rises_tail HH.out.rise) (fun y hy => HH.out.ints y (List.mem_of_mem_tail hy)) hn (by simp) ⟨q1, q2, q3, q4, q5.trans ((tail_same HH.out.hp HH.out.perm HH.out.rise).cons n), q6, q7⟩ hl3 hb3

set_option maxRecDepth 20000 in set_option maxHeartbeats 2000000 in
theorem step_noneE (base t : Nat) (hv : Value) (L : List Int) (a : Option Addr) (c : Nat) (kd : Int) (k1 : ¬ kd = 1) (k2 : ¬ kd = 2) (k3 : ¬ kd = 3) (n : Int) (w : World) (h : Both w base t hv L (.slice a 0 c) []) (hb : base ≤ w.heap.size) (_ : L.length ≤ 300) (_ : I64 n) :
    Calls Try.prog 12 #[.pointer (some ⟨t, 0, none⟩), .slice a 0 c, .agg #[.int .i64 kd, .int .i64 n]] w fun e w' => StepR w base t [] e w' := by
  have hA := (IsGr.refl w).alloc (.cells #[.int .i64 kd, .int .i64 n] 30)
  obtain rfl : L = [] := List.length_eq_zero_iff.1 (by rw [h.len]; rfl)
  have HH : Hid (Both w base t hv [] (.slice a 0 c) []) := h
  clear h
  go_enter Try.func12, Try.ntmps12
  go_wp2_with fail
  refine bodyPost_ret (v := .tuple #[.slice a 0 c, .bool true]) (by simp [results, Try.results12, go_sem]) rfl ?_
  exact step_same HH.out hb hA

set_option maxRecDepth 20000 in set_option maxHeartbeats 2000000 in
theorem step_noneO (base t : Nat) (hv : Value) (L : List Int) (g o : Nat) (l : List Int) (kd : Int) (k1 : ¬ kd = 1) (k2 : ¬ kd = 2) (k3 : ¬ kd = 3) (n : Int) (w : World) (h : Both w base t hv L (.slice (some ⟨g, o, none⟩) 1 1) l) (hb : base ≤ w.heap.size) (_ : L.length ≤ 300) (_ : I64 n) :
    Calls Try.prog 12 #[.pointer (some ⟨t, 0, none⟩), .slice (some ⟨g, o, none⟩) 1 1, .agg #[.int .i64 kd, .int .i64 n]] w fun e w' => StepR w base t l e w' := by
  have hA := (IsGr.refl w).alloc (.cells #[.int .i64 kd, .int .i64 n] 30)
  have hm : 1 = l.length := by obtain ⟨_, _, e, _⟩ := h.rd; injection e
  have hLn : 0 < L.length := by rw [h.len]; omega
  have hR : Hid (Rd w (.slice (some ⟨g, o, none⟩) 0 0) l.tail) := by have := rd_tail (o' := o) h.rd (Or.inl ⟨rfl, rfl⟩); exact this
  have HH : Hid (Both w base t hv L (.slice (some ⟨g, o, none⟩) 1 1) l) := h
  have HM : Hid (1 = l.length ∧ 0 < L.length) := ⟨hm, hLn⟩
  clear hm hLn
  clear h
  go_enter Try.func12, Try.ntmps12
  go_wp2_with fail
  refine bodyPost_ret (v := .tuple #[.slice (some ⟨g, o, none⟩) 1 1, .bool true]) (by simp [results, Try.results12, go_sem]) rfl ?_
  exact step_same HH.out hb hA

set_option maxRecDepth 20000 in set_option maxHeartbeats 2000000 in
theorem step_noneM (base t : Nat) (hv : Value) (L : List Int) (g o m c : Nat) (l : List Int) (hc1 : ¬ c = 1) (kd : Int) (k1 : ¬ kd = 1) (k2 : ¬ kd = 2) (k3 : ¬ kd = 3) (n : Int) (w : World) (h : Both w base t hv L (.slice (some ⟨g, o, none⟩) m c) l) (hb : base ≤ w.heap.size) (_ : L.length ≤ 300) (_ : I64 n) (hlm : 0 < m) :
    Calls Try.prog 12 #[.pointer (some ⟨t, 0, none⟩), .slice (some ⟨g, o, none⟩) m c, .agg #[.int .i64 kd, .int .i64 n]] w fun e w' => StepR w base t l e w' := by
  have hA := (IsGr.refl w).alloc (.cells #[.int .i64 kd, .int .i64 n] 30)
  have hm : m = l.length := by obtain ⟨_, _, e, _⟩ := h.rd; injection e
  have hm' : (0 : Int) < m := by omega
  have hcc : m ≤ c := by obtain ⟨_, _, e, q, _⟩ := h.rd; injection e with e1 e2 e3; omega
  have hLn : 0 < L.length := by rw [h.len]; omega
  have hR : Hid (Rd w (.slice (some ⟨g, o + 1, none⟩) (m - 1) (c - 1)) l.tail) := by have := rd_tail (o' := o + 1) h.rd (Or.inr rfl); exact this
  have HH : Hid (Both w base t hv L (.slice (some ⟨g, o, none⟩) m c) l) := h
  have HM : Hid (m = l.length ∧ 0 < L.length) := ⟨hm, hLn⟩
  clear hm hLn
  clear h
  go_enter Try.func12, Try.ntmps12
  go_wp2_with fail
  refine bodyPost_ret (v := .tuple #[.slice (some ⟨g, o, none⟩) m c, .bool true]) (by simp [results, Try.results12, go_sem]) rfl ?_
  exact step_same HH.out hb hA
theorem step_any (base t : Nat) (hv : Value) (L : List Int) (v : Value) (l : List Int) (kd n : Int) (w : World) (h : Both w base t hv L v l) (hb : base ≤ w.heap.size) (hl : l.length ≤ 300) (hn : I64 n) :
    Calls Try.prog 12 #[.pointer (some ⟨t, 0, none⟩), v, .agg #[.int .i64 kd, .int .i64 n]] w fun e w' => StepR w base t l e w' := by
  have hL : L.length ≤ 300 := by rw [h.len]; exact hl
  obtain ⟨a, c, rfl, hc, hI⟩ := h.rd
  rcases Nat.eq_zero_or_pos l.length with h0 | h0
  · obtain rfl := List.length_eq_zero_iff.1 h0
    by_cases k1 : kd = 1
    · subst k1; exact step_pushE base t hv L a c n w h hb hL hn
    · by_cases k2 : kd = 2
      · subst k2; exact step_popE base t hv L a c n w h hb hL hn
      · by_cases k3 : kd = 3
        · subst k3; exact step_swapE base t hv L a c n w h hb hL hn
        · exact step_noneE base t hv L a c kd k1 k2 k3 n w h hb hL hn
  · obtain ⟨g, o, rfl, _⟩ := hI.at h0
    by_cases hc1 : c = 1
    · subst hc1
      have e1 : l.length = 1 := by omega
      have hE : (Value.slice (some ⟨g, o, none⟩) l.length 1) = .slice (some ⟨g, o, none⟩) 1 1 := by rw [e1]
      rw [hE] at h ⊢
      by_cases k1 : kd = 1
      · subst k1; exact step_pushO base t hv L g o l n w h hb hL hn
      · by_cases k2 : kd = 2
        · subst k2; exact step_popO base t hv L g o l n w h hb hL hn
        · by_cases k3 : kd = 3
          · subst k3; exact step_swapO base t hv L g o l n w h hb hL hn
          · exact step_noneO base t hv L g o l kd k1 k2 k3 n w h hb hL hn
    · by_cases k1 : kd = 1
      · subst k1; exact step_pushM base t hv L g o _ c l hc1 n w h hb hL hn h0
      · by_cases k2 : kd = 2
        · subst k2; exact step_popM base t hv L g o _ c l hc1 n w h hb hL hn h0
        · by_cases k3 : kd = 3
          · subst k3; exact step_swapM base t hv L g o _ c l hc1 n w h hb hL hn h0
          · exact step_noneM base t hv L g o _ c l hc1 kd k1 k2 k3 n w h hb hL hn h0
end Go.Proofs.Ytdffpgfmodccgaa
