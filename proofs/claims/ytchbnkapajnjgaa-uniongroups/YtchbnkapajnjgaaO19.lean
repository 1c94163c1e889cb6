/- Contracts of package union over the loaded program: groups. -/
import Derived.Test.YtchbnkapajnjgaaO10
import Derived.Test.YtchbnkapajnjgaaO18
import Derived.Test.YtchbnkapajnjgaaS8
import Derived.Maps.AppendAt
namespace Go.Proofs.Ytchbnkapajnjgaa
open Go.RowKit Go.Shelf
attribute [local go_sem] Gr.size Gr.cell? Gr.frozen? Gr.setCell Gr.drew Gr.drewN Gr.of_drew Gr.of_drewN Gr.gr Gr.lt_of1 Gr.le_of1 Gr.lt_of2 Gr.le_of2 Gr.lt_of3 Gr.le_of3 Gr.lt_of4 Gr.le_of4 Gr.lt_of5 Gr.le_of5 Gr.lt_of6 Gr.le_of6 Gr.lt_of7 Gr.le_of7 Gr.lt_of8 Gr.le_of8 Gr.lt_of9 Gr.le_of9 Gr.lt_of10 Gr.le_of10 Gr.lt_of11 Gr.le_of11 Gr.lt_of12 Gr.le_of12 Gr.lt_of13 Gr.le_of13 Gr.lt_of14 Gr.le_of14 Gr.lt_of15 Gr.le_of15 Gr.lt_of16 Gr.le_of16 Gr.lt_of17 Gr.le_of17 Gr.lt_of18 Gr.le_of18 Gr.lt_of19 Gr.le_of19 Gr.lt_of20 Gr.le_of20 Gr.lt_of21 Gr.le_of21 Gr.lt_of22 Gr.le_of22 Gr.lt_of23 Gr.le_of23 Gr.lt_of24 Gr.le_of24
/-- No list. -/
abbrev Vn : Value := .slice none 0 0
/-- The lists vs are a whole block. -/
def RowV (w : World) (g : Nat) (vs : List Value) : Prop := w.heap[g]? = some (.cells vs.toArray 26 (0, 0))
theorem RowV.cell {w : World} {g : Nat} {vs : List Value} (h : RowV w g vs) {i : Nat} (hi : i < vs.length) : w.cell? ⟨g, i, none⟩ = some (vs.getD i Vn) := by
  unfold RowV at h; simp [World.cell?, h, List.getD, hi]
theorem RowV.fz {w : World} {g : Nat} {vs : List Value} (h : RowV w g vs) (i : Nat) : w.frozen? ⟨g, i, none⟩ = false := by
  unfold RowV at h; simp [World.frozen?, h]
theorem RowV.lt {w : World} {g : Nat} {vs : List Value} (h : RowV w g vs) : g < w.heap.size := (Array.getElem?_eq_some_iff.1 h).1
theorem RowV.set {w : World} {g : Nat} {vs : List Value} (h : RowV w g vs) (i : Nat) (v : Value) : RowV (w.setCell ⟨g, i, none⟩ v) g (vs.set i v) := by
  unfold RowV at *
  simp only [World.setCell]
  rw [Array.getElem?_modify, if_pos rfl, h]
  simp
theorem RowV.wr {S : List Nat} {w w' : World} {g : Nat} {vs : List Value} (h : RowV w g vs) (hg : Wr S w w') (hS : g ∉ S) : RowV w' g vs := by
  have := h.lt
  unfold RowV at *; rw [hg.block g this hS]; exact h
theorem info_list : (Try.prog.info? 26).map (fun i => (i.zero, i.size, i.bytes)) = some (some Vn, 1, 24) := by kernel_rfl
/-- What make has left, of lists. -/
def MkV (W w' : World) (b n : Nat) : Prop := b = W.heap.size ∧ RowV w' b (List.replicate n Vn) ∧ Below W.heap.size W w'
theorem mk_none {W w' : World} {n : Nat} (h1 : w'.ownsRow W.heap.size 26 1 (.slice (some ⟨W.heap.size, 0, none⟩) n n) n (madeCells Vn.cells (n * 1)).toList) (h2 : W.grownBy w' none) : MkV W w' W.heap.size n := by
  refine ⟨rfl, ?_, (Below.refl _ W).grown h2 (Nat.le_refl _) (fun k e => by cases e)⟩
  rcases h1.2 with ⟨e, _⟩ | ⟨g, cap, cur, e, _, h4, h5, _, h6, h7⟩
  · injection e with e; cases e
  · injection e with e1 e2 e3
    injection e1 with e1
    injection e1 with e1
    subst e1 e3
    unfold RowV
    rw [h4]
    have hc : cur = (List.replicate n Vn).toArray := by
      apply Array.ext'
      have h8 : cur.toList.take (n * 1) = cur.toList := List.take_of_length_le (by simp; omega)
      rw [h8] at h7
      rw [h7]
      apply List.ext_getElem?
      intro i
      by_cases hi : i < n
      · simp [madeCells, Value.cells, hi, Nat.mod_one]
      · rw [List.getElem?_eq_none (by simp [madeCells]; omega), List.getElem?_eq_none (by simp; omega)]
    rw [hc]
/-- A new list of so many lists. -/
theorem wpList_make_lists {w : World} {ops : Array Oper} {rest : List Oper} {o : Oper} {a : Act} {Q : Exit → Act → World → Prop} (hgd : o.guard = none) (l : Operand) (hop : o.op = Op.makeSlice 53 l l) (n : Nat) (hl : a.eval l = .int .i64 (n : Int)) (hn : n ≤ 1048576)
    (hK : ∀ w' b, Hid (MkV w w' b n) → wpList Try.prog ops Q rest (a.put o.dst (.slice (some ⟨b, 0, none⟩) n n)) w') : wpList Try.prog ops Q (o :: rest) a w := by
  have hw : Region.wanted o (yielded ops a.tmps) = true := by simp [Region.wanted, hgd]
  obtain ⟨i0, hi, hz0, hz1, hz2⟩ := info_parts info_list
  obtain ⟨w', hrun, r1, r2⟩ := run_make_full (P := Try.prog) w w.heap.size 53 26 i0 Vn 1 Try.underlying53 hi hz0 hz1 .i64 .i64 n (by rw [hz2]; omega) (by unfold maxLen; omega) (Nat.le_refl _)
  unfold wpList
  rw [if_pos hw]
  refine Or.inl ?_
  unfold Oper.wp
  simp [execOp, hop, hl, hrun, Result.andThen]
  exact hK w' _ (mk_none r1 r2)
/-- The lists vs, in block G, hold what the first a numbers tell. -/
structure GrI (B G C : Nat) (x : List Int) (a : Nat) (vs : List Value) (w : World) : Prop where
  row : RowV w G vs
  len : vs.length = C
  lst : ∀ j, j < C → Lst w B (vs.getD j Vn) (grp (nums x) j a)
  apart : ∀ i j, i < C → j < C → i ≠ j → ∀ g, (vs.getD i Vn).ownBlock = some g → (vs.getD j Vn).ownBlock ≠ some g
  low : G < B
theorem getD_setV {vs : List Value} {i j : Nat} {v : Value} (hi : i < vs.length) : (vs.set j v).getD i Vn = if j = i then v else vs.getD i Vn := by
  simp only [List.getD_eq_getElem?_getD, List.getElem?_set]
  by_cases e : j = i
  · subst e; simp [hi]
  · simp [e]
theorem GrI.wr {S : List Nat} {B G C a : Nat} {x : List Int} {vs : List Value} {w w' : World} (h : GrI B G C x a vs w) (hg : Wr S w w') (hG : G ∉ S) (hS : ∀ b ∈ S, b < B) : GrI B G C x a vs w' :=
  ⟨h.row.wr hg hG, h.len, fun j hj => (h.lst j hj).wr hg (fun g e hm => by have h1 := (own_block (h.lst j hj) g e).1; have := hS g hm; omega), h.apart, h.low⟩
/-- The groups lie in block G. -/
def GrE (G C : Nat) (x : List Int) (w : World) : Prop := ∃ B vs, GrI B G C x x.length vs w ∧ B ≤ w.heap.size
/-- One number more. -/
theorem gr_step {w w1 : World} {B G C a j k c : Nat} {va : Option Addr} {vs : List Value} {x : List Int} {v1 : Value} {o : Obj} (h : GrI B G C x a vs w) (hj : j < C) (hv : vs.getD j Vn = .slice va k c) (hja : (nums x).getD a 0 = j)
    (h1o : w1.ownsRow B 3 1 v1 (k + 1) (((grp (nums x) j a).map fun x => Value.int .i64 x) ++ [.int .i64 a])) (h1g : (w.alloc o).grownBy w1 (Value.slice va k c).ownBlock) (h1b : v1.ownBlock = (Value.slice va k c).ownBlock ∨ v1.ownBlock = some (w.alloc o).heap.size) :
    (w1.cell? ⟨G, j, none⟩ = some (.slice va k c) ∧ w1.frozen? ⟨G, j, none⟩ = false) ∧ GrI B G C x (a + 1) (vs.set j v1) (w1.setCell ⟨G, j, none⟩ v1) ∧ Wr (G :: (Value.slice va k c).ownBlock.toList) w (w1.setCell ⟨G, j, none⟩ v1) ∧ ∀ g ∈ (Value.slice va k c).ownBlock.toList, B ≤ g := by
  have hlj := h.lst j hj
  rw [hv] at hlj
  have hown : ∀ g ∈ (Value.slice va k c).ownBlock.toList, B ≤ g ∧ g < w.heap.size := fun g hg => own_block hlj g (by simpa using hg)
  have hkl : k = (grp (nums x) j a).length := by obtain ⟨a', c', e, _⟩ := hlj.form; injection e
  have hw1 : Wr (Value.slice va k c).ownBlock.toList w w1 := by
    refine (Wr.of_gr (S := (Value.slice va k c).ownBlock.toList) ((IsGr.refl w).alloc o)).trans (S' := (Value.slice va k c).ownBlock.toList) ⟨h1g.os, h1g.tape, h1g.output, h1g.size, fun k hk hn => h1g.block k hk (fun e => hn (by simp [← e]))⟩ (fun b hb _ => hb)
  have hGn : G ∉ (Value.slice va k c).ownBlock.toList := fun hm => by have := (hown G hm).1; have := h.low; omega
  have hR1 : RowV w1 G vs := h.row.wr hw1 hGn
  have hW : Wr [G] w1 (w1.setCell ⟨G, j, none⟩ v1) := (Wr.refl _ _).set _ _ _ (Or.inl (by simp))
  have hnew : Lst w1 B v1 (grp (nums x) j (a + 1)) := by
    rw [grp_succ, if_pos hja]
    subst hkl
    exact Lst.snoc h1o
  have hnb : ∀ g, v1.ownBlock = some g → g ∈ (Value.slice va k c).ownBlock.toList ∨ w.heap.size < g := fun g e => by
    rcases h1b with h1 | h1
    · exact Or.inl (by rw [← h1, e]; simp)
    · rw [e] at h1; injection h1 with h1; simp at h1; exact Or.inr (by omega)
  have hBG : ∀ g, v1.ownBlock = some g → B ≤ g := fun g e => (own_block hnew g e).1
  refine ⟨⟨by rw [hR1.cell (by rw [h.len]; exact hj), hv], hR1.fz _⟩, ⟨hR1.set _ _, by rw [List.length_set, h.len], fun i hi => ?_, fun i i' hi hi' hne g e => ?_, h.low⟩, ?_, fun g hg => (hown g hg).1⟩
  · rw [getD_setV (by rw [h.len]; exact hi)]
    by_cases e : j = i
    · subst e
      rw [if_pos rfl]
      exact hnew.wr hW (fun g e hm => by simp at hm; have := hBG g e; have := h.low; omega)
    · rw [if_neg e]
      have e2 : grp (nums x) i (a + 1) = grp (nums x) i a := by rw [grp_succ, if_neg (by rw [hja]; omega)]
      rw [e2]
      have hli := h.lst i hi
      refine (hli.wr hw1 (fun g e3 hm => ?_)).wr hW (fun g e3 hm => ?_)
      · have e4 : (vs.getD j Vn).ownBlock = some g := by rw [hv]; simpa using hm
        exact h.apart i j hi hj (fun h => e h.symm) g e3 e4
      · simp at hm
        have := (own_block hli g e3).1
        have := h.low
        omega
  · rw [getD_setV (by rw [h.len]; exact hi)] at e
    rw [getD_setV (by rw [h.len]; exact hi')]
    have key : ∀ q, q < C → q ≠ j → ∀ g, v1.ownBlock = some g → (vs.getD q Vn).ownBlock ≠ some g := fun q hq hqj g e1 e2 => by
      rcases hnb g e1 with h1 | h1
      · have e4 : (vs.getD j Vn).ownBlock = some g := by rw [hv]; simpa using h1
        exact h.apart q j hq hj hqj g e2 e4
      · have := (own_block (h.lst q hq) g e2).2
        omega
    by_cases e1 : j = i
    · rw [if_pos e1] at e
      rw [if_neg (fun h => hne (by rw [← e1, h]))]
      exact key i' hi' (fun h => hne (by rw [← e1, h])) g e
    · rw [if_neg e1] at e
      by_cases e2 : j = i'
      · rw [if_pos e2]
        intro e3
        exact key i hi (fun h => e1 h.symm) g e3 e
      · rw [if_neg e2]
        exact h.apart i i' hi hi' hne g e
  · refine (hw1.mono (fun b hb => List.mem_cons_of_mem _ hb)).trans hW (fun b hb _ => ?_)
    simp at hb
    simp [hb]
set_option maxRecDepth 20000 in set_option maxHeartbeats 2000000 in
theorem groups_any {base t gu gz gm : Nat} {x : List Int} (w : World) (h : Un w base t gu gz gm x) (hx : x.length ≤ 1000) : Calls Try.prog 26 #[.pointer (some ⟨t, 0, none⟩)] w fun e w' => ∃ G, e = .returned (.slice (some ⟨G, 0, none⟩) (cntU x x.length) (cntU x x.length)) ∧ GrE G (cntU x x.length) x w' ∧ w.heap.size ≤ G ∧ Below w.heap.size w w' := by
  obtain ⟨i0, hi, hz0, hz1, hz2⟩ := info_parts info_int
  have c3 := h.sb.c3
  have hC := cntU_le x x.length
  obtain ⟨C, hCe⟩ : ∃ C, cntU x x.length = C := ⟨_, rfl⟩
  have HX : Hid (cntU x x.length = C ∧ C ≤ 1000 ∧ Lea x ∧ x.length ≤ 1000) := ⟨hCe, by omega, h.lea, hx⟩
  have HU : Hid (Un w base t gu gz gm x) := h
  rw [hCe] at c3 hC ⊢
  have q1 : (C : Int) ≤ 1048576 := by omega
  clear h hCe
  go_enter Try.func26, Try.ntmps26
  go_wp2_with (at_make; refine wpList_make_lists rfl (.tmp 9) rfl C rfl (by have := HX.out; omega) ?_; intro w1 G HM)
  have HU1 : Hid (Un w1 base t gu gz gm x) := HU.out.below HM.out.2.2
  have CN := Numbers_any w1 HU1.out
  obtain ⟨n, hn⟩ : ∃ n, x.length = n := ⟨_, rfl⟩
  have HN : Hid (x.length = n ∧ n ≤ 1000) := ⟨hn, hn ▸ hx⟩
  rw [hn] at CN hx hC
  clear c3 HU hn
  go_wp2_with fail
  refine CN.mono ?_
  clear CN
  rintro e w2 ⟨g, rfl, hr2, hg2, hb2⟩
  have HI : Hid (GrI w2.heap.size G C x 0 (List.replicate C Vn) w2 ∧ Row w2 g (nums x) ∧ Below w.heap.size w w2 ∧ w.heap.size ≤ G ∧ g < w2.heap.size ∧ g ≠ G) := by
    obtain ⟨e1, r1, b1⟩ := HM.out
    have l1 := r1.lt
    have s2 := hb2.size
    refine ⟨⟨r1.wr (S := []) (Wr.of_below hb2) (by simp), by simp, fun j hj => ?_, fun i j hi hj hne g e => ?_, by omega⟩, hr2, b1.trans (hb2.mono b1.size), by omega, hr2.lt, by omega⟩
    · have e9 : (List.replicate C Vn).getD j Vn = Vn := by simp [List.getD, hj]
      have e8 : grp (nums x) (j : Int) 0 = [] := by unfold grp; rw [rng_zero]; rfl
      rw [e9, e8]
      exact Lst.nil _ _
    · have e9 : (List.replicate C Vn).getD i Vn = Vn := by simp [List.getD, hi]
      rw [e9] at e
      cases e
  clear hr2 hg2 hb2 HM HU1
  go_wp2_with fail
  go_loopg [14] n (fun r p14 wr => ∃ (i : Nat) (vs : List Value), i + r = n ∧ p14 = .int .i64 i ∧ Hid (GrI w2.heap.size G C x i vs wr ∧ Row wr g (nums x) ∧ Below w.heap.size w wr ∧ w2.heap.size ≤ wr.heap.size))
  case atStart => exact ⟨0, _, by omega, rfl, HI.out.1, HI.out.2.1, HI.out.2.2.1, Nat.le_refl _⟩
  case round =>
    obtain ⟨i, vs, hk, rfl, HR⟩ := hrel
    by_cases hin : i < n
    · obtain ⟨j, l, hj, -, -, -, hjC⟩ := nums_least HX.out.2.2.1 (show i < x.length by have := HN.out; omega)
      rw [HX.out.1] at hjC
      have cn := HR.out.2.1.cell (i := i) (by rw [nums_len]; have := HN.out; omega)
      rw [hj] at cn
      have hlj := HR.out.1.lst j hjC
      obtain ⟨va, vc, hv, -⟩ := hlj.form
      have hlk : (grp (nums x) j i).length ≤ 1000 := by rw [grp_len]; have := siz_le (nums x) j i; have := HN.out; omega
      have cG := HR.out.1.row.cell (i := j) (by rw [HR.out.1.len]; exact hjC)
      rw [hv] at cG hlj
      have hown : wr.ownsRow w2.heap.size 3 1 (.slice va (grp (nums x) j i).length vc) (grp (nums x) j i).length ((grp (nums x) j i).map fun x => Value.int .i64 x) := hlj
      obtain ⟨k, hke⟩ : ∃ k, (grp (nums x) j i).length = k := ⟨_, rfl⟩
      have HV : Hid (vs.getD j Vn = .slice va k vc ∧ (nums x).getD i 0 = j ∧ j < C) := ⟨by rw [hv, hke], hj, hjC⟩
      rw [hke] at hown cG hlk
      have HK : Hid (k ≤ 1000) := hlk
      have HB : Hid (w2.heap.size ≤ wr.heap.size) := HR.out.2.2.2
      have hin' : (i : Int) < n := by omega
      have hjC' : (j : Int) < C := by omega
      have e1 : IntKind.i64.wrap ((i : Int) + 1) = (i : Int) + 1 := by rw [IntKind.wrap_i64]; have := HN.out; omega
      clear hj hjC hlj hv hke hlk
      go_wp2_with (at_builtin; refine wpList_append_own_at _ rfl _ _ 26 rfl w2.heap.size 3 i0 (.int .i64 0) 1 8 Try.underlying26 hi hz0 hz1 hz2 rfl (by decide) (.slice va k vc) _ _ rfl (World.ownsRow.alloc hown _) ⟨wr.heap.size, 0, none⟩ 1 1 [.int .i64 i] rfl rfl (cell_one_new _ _ _) (fun u hu => by simp at hu; subst hu; rfl) (by unfold maxLen; have := HK.out; omega) (by have := HK.out; omega) (by have := HB.out; simp; omega) ?_; intro v1 w3 h1o h1g _ h1b; obtain ⟨g1, cap1, rfl⟩ := ownsRow_succ h1o; obtain ⟨⟨cG3, fG3⟩, hI3, hW3, hS3⟩ := gr_step HR.out.1 HV.out.2.2 HV.out.1 HV.out.2.1 h1o h1g h1b; clear h1o h1g h1b cG hown)
      have HR3 : Hid (GrI w2.heap.size G C x (i + 1) (vs.set j (.slice (some ⟨g1, 0, none⟩) (k + 1) cap1)) (w3.setCell ⟨G, j, none⟩ (.slice (some ⟨g1, 0, none⟩) (k + 1) cap1)) ∧ Row (w3.setCell ⟨G, j, none⟩ (.slice (some ⟨g1, 0, none⟩) (k + 1) cap1)) g (nums x) ∧ Below w.heap.size w (w3.setCell ⟨G, j, none⟩ (.slice (some ⟨g1, 0, none⟩) (k + 1) cap1)) ∧ w2.heap.size ≤ (w3.setCell ⟨G, j, none⟩ (.slice (some ⟨g1, 0, none⟩) (k + 1) cap1)).heap.size) := by
        have h1 := HI.out
        refine ⟨hI3, HR.out.2.1.wr hW3 (fun hm => ?_), HR.out.2.2.1.trans (hW3.below HR.out.2.2.1.size (fun b hb => ?_)), Nat.le_trans HB.out hW3.size⟩
        · rcases List.mem_cons.1 hm with e | e
          · omega
          · have := hS3 _ e; omega
        · rcases List.mem_cons.1 hb with e | e
          · omega
          · have := hS3 _ e; have := h1.2.2.1.size; omega
      clear hI3 hW3 hS3 HR cG3 fG3
      go_roundg (n - (i + 1))
      case measure => omega
      case rel => exact ⟨i + 1, vs.set j (.slice (some ⟨g1, 0, none⟩) (k + 1) cap1), by omega, by simp, HR3.out⟩
    · have hin' : ¬ (i : Int) < n := by omega
      have hie : i = n := by omega
      have HE : Hid (GrI w2.heap.size G C x x.length vs wr ∧ w2.heap.size ≤ wr.heap.size) := by
        have := HR.out.1
        rw [hie, ← HN.out.1] at this
        exact ⟨this, HR.out.2.2.2⟩
      go_wp2_with fail
      go_ret
      exact ⟨G, rfl, ⟨_, vs, HE.out⟩, HI.out.2.2.2.1, HR.out.2.2.1⟩
end Go.Proofs.Ytchbnkapajnjgaa
