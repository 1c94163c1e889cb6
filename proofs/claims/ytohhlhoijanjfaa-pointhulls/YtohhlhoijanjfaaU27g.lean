/- Contracts of package point over the loaded program: Hull. -/
import Derived.Test.YtohhlhoijanjfaaU26g
import Derived.Test.YtohhlhoijanjfaaV9g
import Derived.Test.YtohhlhoijanjfaaGA
namespace Go.Proofs.Ytohhlhoijanjfaa
open Go.RowKit Go.Shelf
attribute [local go_sem] Gr.size Gr.cell? Gr.frozen? Gr.setCell Gr.drew Gr.drewN Gr.of_drew Gr.of_drewN Gr.gr Gr.lt_of1 Gr.le_of1 Gr.lt_of2 Gr.le_of2 Gr.lt_of3 Gr.le_of3 Gr.lt_of4 Gr.le_of4 Gr.lt_of5 Gr.le_of5 Gr.lt_of6 Gr.le_of6 Gr.lt_of7 Gr.le_of7 Gr.lt_of8 Gr.le_of8 Gr.lt_of9 Gr.le_of9 Gr.lt_of10 Gr.le_of10 Gr.lt_of11 Gr.le_of11 Gr.lt_of12 Gr.le_of12 Gr.lt_of13 Gr.le_of13 Gr.lt_of14 Gr.le_of14 Gr.lt_of15 Gr.le_of15 Gr.lt_of16 Gr.le_of16 Gr.lt_of17 Gr.le_of17 Gr.lt_of18 Gr.le_of18 Gr.lt_of19 Gr.le_of19 Gr.lt_of20 Gr.le_of20 Gr.lt_of21 Gr.le_of21 Gr.lt_of22 Gr.le_of22 Gr.lt_of23 Gr.le_of23 Gr.lt_of24 Gr.le_of24

/-- What Hull answers of right points. -/
def HullQ (w : World) (l : List (Int × Int)) (v : Value) (w' : World) : Prop := ∃ hs, Pts w' v hs ∧ HullP l hs ∧ hs.length ≤ 200 ∧ IsGr w w'
theorem bowS_len : ∀ (l st : List (Int × Int)), (bowS l st).length ≤ l.length + st.length
  | [], st => by simp [bowS]
  | q :: l, st => by
    have h1 := bowS_len l (q :: popK q st)
    have h2 := popK_len q st
    show (bowS l (q :: popK q st)).length ≤ _
    simp at h1 ⊢
    omega
theorem bowL_len (l : List (Int × Int)) : (bowL l).length ≤ l.length := by
  have := bowS_len l []
  simpa [bowL] using this
theorem drop_last {l : List (Int × Int)} (h : 0 < l.length) : l = l.dropLast ++ [l.getLast (List.length_pos_iff.1 h)] := (List.dropLast_concat_getLast _).symm
theorem allR_of {l e : List (Int × Int)} (h : allR l = true) (hm : ∀ x, x ∈ e → x ∈ l) : allR e = true := by
  unfold allR at *
  rw [List.all_eq_true] at *
  exact fun x hx => h x (hm x hx)

set_option maxRecDepth 20000 in set_option maxHeartbeats 2000000 in
theorem Hull_no (a : Option Addr) (n c : Nat) (l : List (Int × Int)) (w : World) (h : Pts w (.slice a n c) l) (hr : allR l = false) (hn : n ≤ 4096) :
    Calls Try.prog 16 #[.slice a n c] w fun e w' => e = .returned (.tuple #[.slice none 0 0, .bool false]) ∧ IsGr w w' := by
  have CA := fun w1 (hg : IsGr w w1) => allowed_any a n c l w1 (h.gr hg) hn
  rw [hr] at CA
  clear h hr hn
  go_enter Try.func16, Try.ntmps16
  go_wp2_with fail
  refine (CA _ ?_).mono ?_
  · exact (by with_reducible repeat (first | exact IsGr.refl _ | refine IsGr.gr ?_ _ _ | refine IsGr.alloc ?_ _ | refine IsGr.drew ?_ | refine IsGr.drewN ?_ _))
  rintro e w1 ⟨rfl, os1, dr1, rfl⟩
  go_wp2
  exact bodyPost_ret (v := .tuple #[.slice none 0 0, .bool false]) (by simp [results, Try.results16, go_sem]) rfl ⟨rfl, (by with_reducible repeat (first | exact IsGr.refl _ | refine IsGr.gr ?_ _ _ | refine IsGr.alloc ?_ _ | refine IsGr.drew ?_ | refine IsGr.drewN ?_ _))⟩
set_option maxRecDepth 20000 in set_option maxHeartbeats 2000000 in
theorem Hull_yes (a : Option Addr) (n c : Nat) (l : List (Int × Int)) (w : World) (h : Pts w (.slice a n c) l) (hr : allR l = true) (hn : n ≤ 60) :
    Calls Try.prog 16 #[.slice a n c] w fun e w' => ∃ v, e = .returned (.tuple #[v, .bool true]) ∧ HullQ w l v w' := by
  obtain ⟨i0, hi, hz0, hz1, hz2⟩ := info_parts info_p5
  have CA := fun w1 (hg : IsGr w w1) => allowed_any a n c l w1 (h.gr hg) (by omega)
  rw [hr] at CA
  have HP : Hid (Pts w (.slice a n c) l) := h
  have HL : Hid (n = l.length) := h.len
  have HR : Hid (allR l = true) := hr
  clear h hr
  go_enter Try.func16, Try.ntmps16
  go_wp2_with fail
  refine (CA _ ?_).mono ?_
  · exact (by with_reducible repeat (first | exact IsGr.refl _ | refine IsGr.gr ?_ _ _ | refine IsGr.alloc ?_ _ | refine IsGr.drew ?_ | refine IsGr.drewN ?_ _))
  rintro e w1 ⟨rfl, hg1⟩
  clear CA
  go_wp2_with fail
  refine (Clone_any a n c l _ (HP.out.gr hg1) (by omega)).mono ?_
  rintro e w2 ⟨v2, rfl, hown2, hb2⟩
  have HB2 : Hid (Below w.heap.size w w2) := (hg1.below).trans (hb2.mono hg1.size)
  have hsz1 := hg1.size
  by_cases h0 : n = 0
  · subst h0
    have hl0 : l = [] := List.length_eq_zero_iff.1 HL.out.symm
    obtain ⟨A, C, e2, hC⟩ : ∃ A C, v2 = .slice A 0 C ∧ C ≤ maxLen := by
      rcases hown2.2 with ⟨h1, _⟩ | ⟨g, cap, cur, h1, _, _, _, h3, _⟩
      · exact ⟨none, 0, h1, by simp [maxLen]⟩
      · exact ⟨_, _, h1, h3⟩
    subst e2 hl0
    clear hown2 hb2
    go_wp2_with fail
    refine (Sort_none A C _ _).mono ?_
    rintro e w3 ⟨rfl, rfl⟩
    go_wp2_with fail
    refine (Compact_none A C _).mono ?_
    rintro e w4 ⟨rfl, hg4⟩
    go_wp2
    refine bodyPost_ret (v := .tuple #[.slice A 0 C, .bool true]) (by simp [results, Try.results16, go_sem]) rfl ⟨_, rfl, [], ⟨A, C, rfl, Nat.zero_le _, hC, Or.inl rfl⟩, Or.inl ⟨rfl, rfl⟩, by simp, (IsGr.of_below HB2.out).trans ?_⟩
    exact hg4.trans (by with_reducible repeat (first | exact IsGr.refl _ | refine IsGr.gr ?_ _ _ | refine IsGr.alloc ?_ _ | refine IsGr.drew ?_ | refine IsGr.drewN ?_ _))
  · obtain ⟨g, C, e2⟩ : ∃ g C, v2 = .slice (some ⟨g, 0, none⟩) n C := by
      rcases hown2.2 with ⟨_, h2⟩ | ⟨g, cap, cur, h1, _⟩
      · exact absurd h2 h0
      · exact ⟨g, cap, h1⟩
    subst e2
    obtain ⟨hR2, hBg⟩ := RowH.of_own hown2
    have hwg : w.heap.size ≤ g := by omega
    clear hown2 hb2
    go_wp2_with fail
    refine (Sort_any g n C l _ hR2 (by omega)).mono ?_
    rintro e w3 ⟨rfl, d', hp, hs, hR3, hB3⟩
    have HB3 : Hid (Below w.heap.size w w3) := HB2.out.trans (hB3 _ hwg)
    clear hB3 hR2
    go_wp2_with fail
    refine (Compact_any g n C d' _ hR3 hs (by omega)).mono ?_
    rintro e w4 ⟨v4, rfl, m, e', rfl, hR4, hC4, hmn, hB4⟩
    have HB4 : Hid (Below w.heap.size w w4) := HB3.out.trans (hB4 _ hwg)
    have HM : Hid (∀ x, x ∈ e' ↔ x ∈ l) := fun x => (hC4.2 x).trans hp.mem_iff
    have HS : Hid (e'.Pairwise (ltP 1)) := hC4.1
    have HE : Hid (e'.length = m) := hR4.1
    have HRe : Hid (allR e' = true) := allR_of HR.out (fun x hx => (HM.out x).1 hx)
    have hl1 : l ≠ [] := fun h => h0 (by rw [HL.out, h]; rfl)
    have Hl1 : Hid (l ≠ []) := hl1
    clear hB4 hR3 hs hp hC4 hl1
    by_cases h2 : m < 2
    · have h2' : (m : Int) < 2 := by omega
      have HT : Hid (HullT e' l) := by
        obtain ⟨x, hx⟩ : ∃ x, e' = [x] := by
          match e', HE, HM with
          | [], _, hm =>
            obtain ⟨z, hz⟩ := List.exists_mem_of_ne_nil l Hl1.out
            have := (hm.out z).2 hz
            simp at this
          | [x], _, _ => exact ⟨x, rfl⟩
          | _ :: _ :: _, hl, _ => simp [Hid] at hl; omega
        have := HM.out
        rw [hx] at this ⊢
        exact (hull_one x).of this
      go_wp2
      refine bodyPost_ret (v := .tuple #[.slice (some ⟨g, 0, none⟩) m C, .bool true]) (by simp [results, Try.results16, go_sem]) rfl ⟨_, rfl, e', hR4.pts.gr (by with_reducible repeat (first | exact IsGr.refl _ | refine IsGr.gr ?_ _ _ | refine IsGr.alloc ?_ _ | refine IsGr.drew ?_ | refine IsGr.drewN ?_ _)), Or.inr ⟨Hl1.out, HT.out⟩, by have := HE.out; omega, (IsGr.of_below HB4.out).trans (by with_reducible repeat (first | exact IsGr.refl _ | refine IsGr.gr ?_ _ _ | refine IsGr.alloc ?_ _ | refine IsGr.drew ?_ | refine IsGr.drewN ?_ _))⟩
    · have h2' : ¬ (m : Int) < 2 := by omega
      obtain ⟨La, hLa, _⟩ := bow_spec (Or.inl rfl) HS.out (by have := HE.out; omega)
      obtain ⟨Lb, hLb, _⟩ := bow_spec (s := -1) (Or.inr rfl) (l := e'.reverse) (by
        rw [List.pairwise_reverse]
        exact HS.out.imp (fun h => ltP_turn.2 h)) (by have := HE.out; simp; omega)
      have pA : 2 ≤ (bowL e').length := by omega
      have pB : 2 ≤ (bowL e'.reverse).length := by omega
      clear hLa hLb
      have bA : (bowL e').length ≤ 60 := by have := bowL_len e'; have := HE.out; omega
      have bB : (bowL e'.reverse).length ≤ 60 := by
        have h9 := bowL_len e'.reverse
        rw [List.length_reverse] at h9
        have := HE.out
        omega
      have HT : Hid (HullT ((bowL e').dropLast ++ (bowL e'.reverse).dropLast) l) := (hull_spec HS.out (by have := HE.out; omega)).of HM.out
      have hgs : g < w4.heap.size := hR4.2.2.2.1
      go_wp2_with fail
      refine (bow_any _ _ _ e' _ hR4.pts HRe.out (by omega)).mono ?_
      rintro e w5 ⟨v5, rfl, hown5, hg5⟩
      go_wp2_with fail
      refine (Reverse_any g m C e' _ (hR4.gr hg5) (by omega)).mono ?_
      rintro e w6 ⟨rfl, hR6, hgr6, hB6⟩
      obtain ⟨g4, C4, e5, hg4⟩ : ∃ g4 C4, v5 = .slice (some ⟨g4, 0, none⟩) (bowL e').length C4 ∧ w4.heap.size ≤ g4 := by
        rcases hown5.2 with ⟨_, h9⟩ | ⟨g', cap, cur, h1, h9, _⟩
        · omega
        · exact ⟨g', cap, h1, h9⟩
      subst e5
      replace hown5 := hown5.kept hgr6 (Or.inr (by simp [Value.ownBlock]; omega))
      have HB6 : Hid (Below w.heap.size w w6) := (HB4.out.trans (hg5.below.mono HB4.out.size)).trans (hB6 _ hwg)
      have HRr : allR e'.reverse = true := allR_of HRe.out (fun x hx => List.mem_reverse.1 hx)
      clear hgr6 hB6
      go_wp2_with fail
      refine (bow_any _ _ _ e'.reverse _ hR6.pts HRr (by omega)).mono ?_
      rintro e w7 ⟨v7, rfl, hown7, hg7⟩
      obtain ⟨g6, C6, e7, hg6⟩ : ∃ g6 C6, v7 = .slice (some ⟨g6, 0, none⟩) (bowL e'.reverse).length C6 ∧ w6.heap.size ≤ g6 := by
        rcases hown7.2 with ⟨_, h9⟩ | ⟨g', cap, cur, h1, h9, _⟩
        · omega
        · exact ⟨g', cap, h1, h9⟩
      subst e7
      replace hown5 := own_gr5 hown5 hg7
      have hs4 : w4.heap.size ≤ w7.heap.size := by have := hown5.lt g4 (by simp [Value.ownBlock]); omega
      have HB7 : Hid (Below w.heap.size w w7) := HB6.out.trans (hg7.below.mono HB6.out.size)
      have hc4 : (bowL e').length ≤ C4 := by
        obtain ⟨a9, c9, e9, k9, _⟩ := (Pts.of_own hown5).2
        injection e9 with e91 e92 e93
        omega
      have hc6 : (bowL e'.reverse).length ≤ C6 := by
        obtain ⟨a9, c9, e9, k9, _⟩ := (Pts.of_own hown7).2
        injection e9 with e91 e92 e93
        omega
      have hO4 : w7.ownsRow w4.heap.size 24 2 (.slice (some ⟨g4, 0, none⟩) (bowL e').dropLast.length C4) (bowL e').dropLast.length (ptCs (bowL e').dropLast) := by
        rw [drop_last (l := bowL e') (by omega)] at hown5
        have := own_cut hown5
        simpa using this
      have hO6 : w7.ownsRow w6.heap.size 24 2 (.slice (some ⟨g6, 0, none⟩) (bowL e'.reverse).dropLast.length C6) (bowL e'.reverse).dropLast.length (ptCs (bowL e'.reverse).dropLast) := by
        rw [drop_last (l := bowL e'.reverse) (by omega)] at hown7
        have := own_cut hown7
        simpa using this
      obtain ⟨NA, HNA⟩ : ∃ NA, Hid ((bowL e').length = NA) := ⟨_, rfl⟩
      obtain ⟨NB, HNB⟩ : ∃ NB, Hid ((bowL e'.reverse).length = NB) := ⟨_, rfl⟩
      obtain ⟨LA, HLA⟩ : ∃ LA, Hid ((bowL e').dropLast.length = LA) := ⟨_, rfl⟩
      obtain ⟨LB, HLB⟩ : ∃ LB, Hid ((bowL e'.reverse).dropLast.length = LB) := ⟨_, rfl⟩
      have hNA : NA = LA + 1 := by rw [← HNA.out, ← HLA.out, List.length_dropLast]; omega
      have hNB : NB = LB + 1 := by rw [← HNB.out, ← HLB.out, List.length_dropLast]; omega
      rw [HLA.out] at hO4
      rw [HLB.out] at hO6
      have HO4 : Hid (w7.ownsRow w4.heap.size 24 2 (.slice (some ⟨g4, 0, none⟩) LA C4) LA (ptCs (bowL e').dropLast)) := hO4
      have HP6 : Hid (Pts w7 (.slice (some ⟨g6, 0, none⟩) LB C6) (bowL e'.reverse).dropLast) := (Pts.of_own hO6).2
      have vA : IntKind.i64.wrap ((NA : Int) - 1) = (LA : Int) := by rw [IntKind.wrap_i64]; have := HNA.out; omega
      have vB : IntKind.i64.wrap ((NB : Int) - 1) = (LB : Int) := by rw [IntKind.wrap_i64]; have := HNB.out; omega
      have hA4 : (LA : Int) ≤ (C4 : Int) := by have := HNA.out; omega
      have hB6 : (LB : Int) ≤ (C6 : Int) := by have := HNB.out; omega
      have hLA60 : LA ≤ 60 := by have := HNA.out; omega
      have hLB60 : LB ≤ 60 := by have := HNB.out; omega
      have hwg4 : w.heap.size ≤ g4 := by omega
      rw [HNA.out, HNB.out]
      clear hO4 hO6 hNA hNB hown5 hown7 hR6 hR4 hg5 hg7 pA pB bA bB hc4 hc6 HRr
      go_upto_region 11 with fail
      refine wp_region_held_drew (S := fun _ => True) (by kernel_rfl) trivial (fun hHeld => ?_)
      refine wpAnyH_take (i := 0) (oi := { dst := some 26, op := Op.move (Operand.tmp 5), type := 22, pos := "way.go:71", after := #[], guard := none }) (v := ?_) rfl (by kernel_rfl) (by kernel_rfl) (by kernel_rfl) (fun _ _ _ h => h) (Or.inl ⟨by rfl, ?_⟩) (by assumption) ?_
      rotate_left
      · (intro w hSw; go_simp <;> with_reducible rfl)
      (try simp only [Act.put, qA, qB, qC])
      refine wpAnyH_take (i := 1) (oi := { dst := some 27, op := Op.move (Operand.tmp 5), type := 22, pos := "way.go:71", after := #[], guard := none }) (v := ?_) rfl (by kernel_rfl) (by kernel_rfl) (by kernel_rfl) (fun _ _ _ h => h) (Or.inl ⟨by rfl, ?_⟩) (by assumption) ?_
      rotate_left
      · (intro w hSw; go_simp <;> with_reducible rfl)
      (try simp only [Act.put, qA, qB, qC])
      refine wpAnyH_take (i := 2) (oi := { dst := some 28, op := Op.call { callee := Callee.builtin Builtin.len, args := #[Operand.tmp 27], argTypes := #[22] }, type := 3, pos := "way.go:71", after := #[{ on := 1, ground := Ground.data }], guard := none }) (v := ?_) rfl (by kernel_rfl) (by kernel_rfl) (by kernel_rfl) (fun _ _ _ h => h) (Or.inl ⟨by rfl, ?_⟩) (by assumption) ?_
      rotate_left
      · (intro w hSw; go_simp <;> with_reducible rfl)
      (try simp only [Act.put, qA, qB, qC])
      refine wpAnyH_take (i := 3) (oi := { dst := some 29, op := Op.binOp BinOp.sub 3 (Operand.tmp 28) (Operand.const (Value.int IntKind.i64 1)) 3, type := 3, pos := "way.go:71", after := #[{ on := 2, ground := Ground.data }], guard := none }) (v := ?_) rfl (by kernel_rfl) (by kernel_rfl) (by kernel_rfl) (fun _ _ _ h => h) (Or.inl ⟨by rfl, ?_⟩) (by assumption) ?_
      rotate_left
      · (intro w hSw; go_simp <;> with_reducible rfl)
      (try simp only [Act.put, qA, qB, qC])
      refine wpAnyH_take (i := 4) (oi := { dst := some 30, op := Op.slice 22 (Operand.tmp 26) none (some (Operand.tmp 29)) none, type := 22, pos := "way.go:71", after := #[{ on := 0, ground := Ground.data }, { on := 3, ground := Ground.data }], guard := none }) (v := ?_) rfl (by kernel_rfl) (by kernel_rfl) (by kernel_rfl) (fun _ _ _ h => h) (Or.inl ⟨by rfl, ?_⟩) (by assumption) ?_
      rotate_left
      · (intro w hSw; go_simp <;> with_reducible rfl)
      (try simp only [Act.put, qA, qB, qC])
      refine wpAnyH_take (i := 5) (oi := { dst := some 31, op := Op.move (Operand.tmp 6), type := 22, pos := "way.go:71", after := #[], guard := none }) (v := ?_) rfl (by kernel_rfl) (by kernel_rfl) (by kernel_rfl) (fun _ _ _ h => h) (Or.inl ⟨by rfl, ?_⟩) (by assumption) ?_
      rotate_left
      · (intro w hSw; go_simp <;> with_reducible rfl)
      (try simp only [Act.put, qA, qB, qC])
      refine wpAnyH_take (i := 6) (oi := { dst := some 32, op := Op.move (Operand.tmp 6), type := 22, pos := "way.go:71", after := #[], guard := none }) (v := ?_) rfl (by kernel_rfl) (by kernel_rfl) (by kernel_rfl) (fun _ _ _ h => h) (Or.inl ⟨by rfl, ?_⟩) (by assumption) ?_
      rotate_left
      · (intro w hSw; go_simp <;> with_reducible rfl)
      (try simp only [Act.put, qA, qB, qC])
      refine wpAnyH_take (i := 7) (oi := { dst := some 33, op := Op.call { callee := Callee.builtin Builtin.len, args := #[Operand.tmp 32], argTypes := #[22] }, type := 3, pos := "way.go:71", after := #[{ on := 6, ground := Ground.data }], guard := none }) (v := ?_) rfl (by kernel_rfl) (by kernel_rfl) (by kernel_rfl) (fun _ _ _ h => h) (Or.inl ⟨by rfl, ?_⟩) (by assumption) ?_
      rotate_left
      · (intro w hSw; go_simp <;> with_reducible rfl)
      (try simp only [Act.put, qA, qB, qC])
      refine wpAnyH_take (i := 8) (oi := { dst := some 34, op := Op.binOp BinOp.sub 3 (Operand.tmp 33) (Operand.const (Value.int IntKind.i64 1)) 3, type := 3, pos := "way.go:71", after := #[{ on := 7, ground := Ground.data }], guard := none }) (v := ?_) rfl (by kernel_rfl) (by kernel_rfl) (by kernel_rfl) (fun _ _ _ h => h) (Or.inl ⟨by rfl, ?_⟩) (by assumption) ?_
      rotate_left
      · (intro w hSw; go_simp <;> with_reducible rfl)
      (try simp only [Act.put, qA, qB, qC])
      refine wpAnyH_take (i := 9) (oi := { dst := some 35, op := Op.slice 22 (Operand.tmp 31) none (some (Operand.tmp 34)) none, type := 22, pos := "way.go:71", after := #[{ on := 5, ground := Ground.data }, { on := 8, ground := Ground.data }], guard := none }) (v := ?_) rfl (by kernel_rfl) (by kernel_rfl) (by kernel_rfl) (fun _ _ _ h => h) (Or.inl ⟨by rfl, ?_⟩) (by assumption) ?_
      rotate_left
      · (intro w hSw; go_simp <;> with_reducible rfl)
      (try simp only [Act.put, qA, qB, qC])
      refine wpAnyH_ready (rs := [10]) (by kernel_rfl) (by simp) ?_
      refine AllReadyH.cons (o := { dst := some 36, op := Op.call { callee := Callee.builtin Builtin.append, args := #[Operand.tmp 30, Operand.tmp 35], argTypes := #[22, 22] }, type := 22, pos := "way.go:71", after := #[{ on := 4, ground := Ground.data }, { on := 9, ground := Ground.data }], guard := none }) rfl (fun K hK => ?_) AllReadyH.nil
      rw [if_pos (by rfl)]
      refine wp_append_own _ _ _ 22 rfl w4.heap.size 24 i0 (.agg #[.int .i64 0, .int .i64 0]) 2 16 Try.underlying22 hi hz0 hz1 hz2 rfl (by decide) (.slice (some ⟨g4, 0, none⟩) LA C4) LA (ptCs (bowL e').dropLast) rfl (own_gr5 HO4.out (by with_reducible repeat (first | exact IsGr.refl _ | refine IsGr.gr ?_ _ _ | refine IsGr.alloc ?_ _ | refine IsGr.drew ?_ | refine IsGr.drewN ?_ _))) ⟨g6, 0, none⟩ LB C6 (ptCs (bowL e'.reverse).dropLast) rfl ?c0 ?c1 ?c2 ?c3 ?c4 ?c5 ?_
      case c0 => rw [ptCs_length, HLB.out]
      case c1 => exact (HP6.out.gr (by with_reducible repeat (first | exact IsGr.refl _ | refine IsGr.gr ?_ _ _ | refine IsGr.alloc ?_ _ | refine IsGr.drew ?_ | refine IsGr.drewN ?_ _))).news
      case c2 => exact ptCs_one _
      case c3 => unfold maxLen; omega
      case c4 => omega
      case c5 => first | omega | (simp; omega)
      intro v' w9 hown9 hgrow9 _
      refine hK.out _ _ trivial (fun hHeld2 => ?_)
      clear hK K hHeld
      have hHeld := hHeld2
      clear hHeld2
      (try simp only [Act.put, qA, qB, qC])
      refine wpAnyH_take (i := 11) (oi := { dst := some 2, op := Op.assign (Operand.tmp 36), type := 22, pos := "way.go:71", after := #[{ on := 10, ground := Ground.data }, { on := 10, ground := Ground.chain }, { on := 0, ground := Ground.phase }, { on := 1, ground := Ground.phase }, { on := 2, ground := Ground.phase }, { on := 3, ground := Ground.phase }, { on := 4, ground := Ground.phase }, { on := 5, ground := Ground.phase }, { on := 6, ground := Ground.phase }, { on := 7, ground := Ground.phase }, { on := 8, ground := Ground.phase }, { on := 9, ground := Ground.phase }, { on := 10, ground := Ground.phase }], guard := none }) (v := ?_) rfl (by kernel_rfl) (by kernel_rfl) (by kernel_rfl) (fun _ _ _ h => h) (Or.inl ⟨by rfl, ?_⟩) (by assumption) ?_
      rotate_left
      · (intro w hSw; go_simp <;> with_reducible rfl)
      (try simp only [Act.put, qA, qB, qC])
      refine wpAnyH_take (i := 12) (oi := { dst := some 3, op := Op.assign (Operand.const (Value.bool true)), type := 4, pos := "way.go:71", after := #[{ on := 11, ground := Ground.chain }, { on := 0, ground := Ground.phase }, { on := 1, ground := Ground.phase }, { on := 2, ground := Ground.phase }, { on := 3, ground := Ground.phase }, { on := 4, ground := Ground.phase }, { on := 5, ground := Ground.phase }, { on := 6, ground := Ground.phase }, { on := 7, ground := Ground.phase }, { on := 8, ground := Ground.phase }, { on := 9, ground := Ground.phase }, { on := 10, ground := Ground.phase }, { on := 11, ground := Ground.phase }], guard := none }) (v := ?_) rfl (by kernel_rfl) (by kernel_rfl) (by kernel_rfl) (fun _ _ _ h => h) (Or.inl ⟨by rfl, ?_⟩) (by assumption) ?_
      rotate_left
      · (intro w hSw; go_simp <;> with_reducible rfl)
      (try simp only [Act.put, qA, qB, qC])
      refine wpAnyH_done (by kernel_rfl) ?_ _
      have hbe : Below w.heap.size w w9 := (HB7.out.trans ((show IsGr w7 _ from (by with_reducible repeat (first | exact IsGr.refl _ | refine IsGr.gr ?_ _ _ | refine IsGr.alloc ?_ _ | refine IsGr.drew ?_ | refine IsGr.drewN ?_ _))).below.mono HB7.out.size)).trans (below_grown hgrow9 (by first | omega | (simp; omega)) (fun k9 e9 => by simp [Value.ownBlock] at e9; omega))
      have hPf := (Pts.of_own (l := (bowL e').dropLast ++ (bowL e'.reverse).dropLast) (by rw [ptCs_append]; exact hown9)).2
      clear hown9 hgrow9
      go_wp2
      refine bodyPost_ret (v := .tuple #[v', .bool true]) (by simp [results, Try.results16, go_sem]) rfl ⟨_, rfl, _, hPf.gr (by with_reducible repeat (first | exact IsGr.refl _ | refine IsGr.gr ?_ _ _ | refine IsGr.alloc ?_ _ | refine IsGr.drew ?_ | refine IsGr.drewN ?_ _)), Or.inr ⟨Hl1.out, HT.out⟩, ?_, (IsGr.of_below hbe).trans (by with_reducible repeat (first | exact IsGr.refl _ | refine IsGr.gr ?_ _ _ | refine IsGr.alloc ?_ _ | refine IsGr.drew ?_ | refine IsGr.drewN ?_ _))⟩
      rw [List.length_append, HLA.out, HLB.out]
      omega

end Go.Proofs.Ytohhlhoijanjfaa
