/- A range over a function whose loop variables lie in boxes: what the round's beginning lays is told by a predicate. -/
import Derived.Test.YtpgcfnpnpmpkeaaS10
namespace Go.Proofs.Ytpgcfnpnpmpkeaa
open Go.RowKit Go.Shelf
/-- All that lies at N and behind it is as it was. -/
def KpN (N : Nat) (A B : World) : Prop := A.heap.size ≤ B.heap.size ∧ ∀ k, N ≤ k → k < A.heap.size → B.heap[k]? = A.heap[k]?
theorem KpN.trans {N : Nat} {A B C : World} (h : KpN N A B) (k : KpN N B C) : KpN N A C :=
  ⟨Nat.le_trans h.1 k.1, fun b hb hl => (k.2 b hb (Nat.lt_of_lt_of_le hl h.1)).trans (h.2 b hb hl)⟩
theorem KpN.gr {N : Nat} {A B : World} (h : IsGr A B) : KpN N A B := ⟨h.size, fun k _ hk => h.below.block k hk⟩
theorem KpN.set {N b : Nat} {A : World} {u : Value} (hb : b < N) : KpN N A (A.setCell ⟨b, 0, none⟩ u) := ⟨by rw [set_size]; exact Nat.le_refl _, fun k hk _ => set_block _ _ _ _ _ (by omega)⟩
theorem KpN.mono {N M : Nat} {A B : World} (h : KpN N A B) (hm : N ≤ M) : KpN M A B := ⟨h.1, fun k hk hl => h.2 k (by omega) hl⟩
theorem KpN.kept {D : Nat} {A B : World} (h : KpN D A B) (hD : D + 1 < A.heap.size) : KeptB D A B := ⟨h.1, fun k hk => h.2 k (by omega) (by omega)⟩
/-- The same, and these blocks, too. -/
def KpZN (N : Nat) (Z : List Nat) (A B : World) : Prop := KpN N A B ∧ ∀ z ∈ Z, B.heap[z]? = A.heap[z]?
theorem KpZN.trans {N : Nat} {Z : List Nat} {A B C : World} (h : KpZN N Z A B) (k : KpZN N Z B C) : KpZN N Z A C := ⟨h.1.trans k.1, fun z hz => (k.2 z hz).trans (h.2 z hz)⟩
theorem KpZN.of {N M : Nat} {Z : List Nat} {A B : World} (h : KpN M A B) (hm : M ≤ N) (hz : ∀ z ∈ Z, M ≤ z ∧ z < A.heap.size) : KpZN N Z A B := ⟨h.mono hm, fun z hq => h.2 z (hz z hq).1 (hz z hq).2⟩
section
variable {α : Type} {F : Fence} {n : Nat} {P : Program}
theorem wpIn_range_boxW {g : Operand} {ps : Array Tmp} {assign body : Code} {Q : Exit → Act → World → Prop} {a : Act} {w : World}
    (hro : F.round = none) (hd : F.depth = none) (h1 : 1 ≤ n) {gf : Nat} {lb : Array Value} (hg : a.eval g = .func (.func gf) #[] lb) (hFg : F.fn gf) (eg : Enters P gf)
    {encs : α → Array Value} {R Kp : World → World → Prop} {T : List α → α → World → Prop} {S Sp : List α → World → Prop} (hseq : ∀ o1 o2, SeqW F (n - 1) P gf lb encs R Kp T S Sp ((w.alloc o1).alloc o2))
    (hR : Kept2 w.heap.size R) (hKt : ∀ {A B C : World}, Kp A B → Kp B C → Kp A C) (hKb : ∀ (W : World) (o : Obj), Kp W (W.putObj (w.heap.size + 1) o)) (hps : ∀ x, (encs x).size = ps.size)
    (I : List α → World → Prop) (Ix : Code → List α → World → Prop) (hI : OwnFrom w.heap.size I) (hIx : ∀ c, OwnFrom w.heap.size (Ix c)) (hS : OwnFrom w.heap.size S) (hSp : OwnFrom w.heap.size Sp)
    (hT : ∀ pre x, OwnFrom w.heap.size (fun (_ : Unit) W => T pre x W)) (hIR : ∀ s A B, I s A → R A B → I s B) (hIxR : ∀ c s A B, Ix c s A → R A B → Ix c s B) (h0 : I [] w) (As : α → Act → World → Prop) (hAs : ∀ x a', OwnFrom w.heap.size (fun (_ : Unit) W => As x a' W)) (hIg : ∀ s A B, I s A → IsGr A B → I s B) (hTg : ∀ pre x A B, T pre x A → IsGr A B → T pre x B) (hKg : ∀ A B : World, w.heap.size + 1 < A.heap.size → IsGr A B → Kp A B)
    (hassign : ∀ (l : Nat) (x : α) (W : World) (K : Act → World → Prop), w.heap.size + 1 < W.heap.size → (∀ a' W', IsGr W W' → As x a' W' → K a' W') → assign.wpIn (F.inRound l) (n - 1 - 1) P (Exit.then K (fun _ _ _ => False)) { tmps := (ps.zip (encs x)).foldl (fun t (p, v) => t.setIfInBounds p v) a.tmps, defers := [] } W)
    (hbody : ∀ (l : Nat) (pre : List α) (x : α) (a' : Act) (W : World), I pre W → T pre x W → As x a' W → w.heap.size + 1 < W.heap.size → body.wpIn (F.inRound l) (n - 1 - 1) P (turnPostW w.heap.size Kp I Ix (pre ++ [x]) W) a' W)
    (hdone : ∀ (D : Nat) (xs : List α) (W : World), w.heap.size ≤ D → S xs W → I xs W → W.heap[D]? = some (.deferred (some [])) → Q .normal { a with defers := { target := .collected D, args := #[] } :: a.defers } W)
    (hstop : ∀ (D : Nat) (c : Code) (xs : List α) (W : World), w.heap.size ≤ D → Sp xs W → Ix c xs W → W.heap[D]? = some (.deferred (some [])) → c.wpIn F n P Q { a with defers := { target := .collected D, args := #[] } :: a.defers } W) :
    (Code.rangeFunc g ps assign body).wpIn F n P Q a w := by
  refine wpIn_rangeFunc fun fn hfn => ?_
  rw [hro]
  -- the two blocks that the loop lays: D for the rounds' deferred calls, D + 1 its record
  obtain ⟨D, hD⟩ : ∃ D, w.heap.size = D := ⟨_, rfl⟩
  obtain ⟨rc, hrc⟩ : ∃ rc : LoopState → Option Code → Loop, ∀ st pe, rc st pe = { state := st, pending := pe, fn := fn, tmps := a.tmps, params := ps, assign := assign, body := body, defers := D } := ⟨_, fun _ _ => rfl⟩
  have hent := run_enterLoop_outer (P := P) (w := w) fn a.tmps ps assign body
  rw [hD, ← hrc .ready none] at hent
  obtain ⟨W1, hW1⟩ : ∃ W1, (w.alloc (.deferred (some []))).alloc (.loop (rc .ready none)) = W1 := ⟨_, rfl⟩
  rw [hW1] at hent
  have hs1 : W1.heap.size = D + 1 + 1 := by rw [← hW1, World.size_alloc, World.size_alloc, hD]
  have bl1 : W1.heap[D + 1]? = some (.loop (rc .ready none)) := by
    have := World.alloc_heap_new (w.alloc (.deferred (some []))) (.loop (rc .ready none))
    rw [World.size_alloc, hD, hW1] at this
    exact this
  have bd1 : W1.heap[D]? = some (.deferred (some [])) := by
    have h1 := World.alloc_heap_new w (.deferred (some []))
    have h2 : W1.heap[D]? = (w.alloc (.deferred (some []))).heap[D]? := by
      rw [← hW1]; exact Below.heap_alloc _ _ _ (by rw [World.size_alloc]; omega)
    rw [h2, ← hD]; exact h1
  have hI1 : I [] W1 := by rw [← hW1]; exact hI.alloc _ (hI.alloc _ h0)
  have hseq1 : SeqW F (n - 1) P gf lb encs R Kp T S Sp W1 := hW1 ▸ hseq _ _
  clear hseq h0
  rw [hD] at hR hKb hI hIx hS hSp hT hAs hKg hassign hbody hdone hstop
  clear hD hW1
  refine ⟨D + 1, [{ target := .collected D, args := #[] }], W1, { target := .fn (.func gf) lb, args := #[.func (.yield (D + 1)) #[] #[]] }, W1, gf, #[.func (.yield (D + 1)) #[] #[]] ++ lb, W1, hent, ?_, ?_, ?_, fun _ => h1, ?_⟩
  · simp only [resolve, hg]
    simp [go_sem]
  · intro f' hf'
    simp [Target.leads] at hf'
    exact hf' ▸ hFg
  · have := eg
    unfold Enters at this
    simp [invoke, go_sem, this]
  clear hent
  -- what is handed through the iterator: the caller's invariant, and that the two blocks are as they were
  let J : List α → World → Prop := fun s W => I s W ∧ W.heap[D + 1]? = some (.loop (rc .ready none)) ∧ W.heap[D]? = some (.deferred (some []))
  let Jx : List α → World → Prop := fun s W => ∃ c, Ix c s W ∧ W.heap[D + 1]? = some (.loop (rc .done (some c))) ∧ W.heap[D]? = some (.deferred (some []))
  have two : ∀ {A B : World} {o : Obj}, R A B → (∀ k, k = D ∨ k = D + 1 → A.heap[k]? = some o → B.heap[k]? = some o) := fun hr k hk hA =>
    (hR _ _ hr k hk (Array.getElem?_eq_some_iff.1 hA).1).trans hA
  have hJ : ∀ s A B, J s A → R A B → J s B := fun s A B ⟨x1, x2, x3⟩ hr => ⟨hIR s A B x1 hr, two hr _ (Or.inr rfl) x2, two hr _ (Or.inl rfl) x3⟩
  have hJx : ∀ s A B, Jx s A → R A B → Jx s B := fun s A B ⟨c, x1, x2, x3⟩ hr => ⟨c, hIxR c s A B x1 hr, two hr _ (Or.inr rfl) x2, two hr _ (Or.inl rfl) x3⟩
  refine (hseq1 (D + 1) J Jx hJ hJx ?_ ⟨hI1, bl1, bd1⟩).mono ?_
  · -- a round
    rintro m pre x W ⟨hi, hl, hk⟩ ht
    have hWs : D + 1 < W.heap.size := (Array.getElem?_eq_some_iff.1 hl).1
    have hy := run_yield (P := P) (args := encs x) hl (by rw [hrc]; exact hps x)
    rw [hrc] at hy
    refine ⟨fn, _, assign, body, hy, round_any hd (roundIn_of_wpIn hfn (hassign (D + 1) x W _ hWs ?_))⟩
    intro a' Wa hga hasa
    have la : Wa.heap[D + 1]? = some (.loop (rc .ready none)) := (hga.below.block _ hWs).trans hl
    have ka : Wa.heap[D]? = some (.deferred (some [])) := (hga.below.block _ (by omega)).trans hk
    have hWas : D + 1 < Wa.heap.size := (Array.getElem?_eq_some_iff.1 la).1
    obtain ⟨Wb, hWb⟩ : ∃ Wb, Wa.putObj (D + 1) (.loop (rc .busy none)) = Wb := ⟨_, rfl⟩
    have hbeg : (Instr.beginRound (D + 1)).run P Wa = .ok () Wb := by
      have := run_beginRound (P := P) la (by rw [hrc])
      rw [hrc, ← hrc .busy none, hWb] at this
      exact this
    have hlb : Wb.heap[D + 1]? = some (.loop (rc .busy none)) := by rw [← hWb]; exact World.putObj_heap_same hWas
    have hkb : Wb.heap[D]? = some (.deferred (some [])) := by rw [← hWb]; exact (World.putObj_heap_other (by omega)).trans ka
    have hib : I pre Wb := by rw [← hWb]; exact hI.putObj _ (hIg _ _ _ hi hga) (by omega) la rfl
    have htb : T pre x Wb := by rw [← hWb]; exact (hT pre x).putObj (s := ()) _ (hTg _ _ _ _ ht hga) (by omega) la rfl
    have hab : As x a' Wb := by rw [← hWb]; exact (hAs x a').putObj (s := ()) _ hasa (by omega) la rfl
    have hKw : Kp W Wb := by rw [← hWb]; exact hKt (hKg _ _ hWs hga) (hKb _ _)
    have hWbs : D + 1 < Wb.heap.size := (Array.getElem?_eq_some_iff.1 hlb).1
    clear hWb
    refine ⟨Wb, hbeg, ?_⟩
    refine wpIn_mono (hbody (D + 1) pre x a' Wb hib htb hab hWbs) ?_
    -- the round's end, whichever way
    have close : ∀ (jump : Option Code) (st : LoopState) (W3 : World), st = (if jump.isNone then .ready else .done) → KeptB D Wb W3 → Kp Wb W3 →
        ∃ W4, (Instr.endRound (D + 1) jump).run P W3 = .ok (.bool jump.isNone) W4 ∧ W4 = W3.putObj (D + 1) (.loop (rc st jump)) ∧ W3.heap[D + 1]? = some (.loop (rc .busy none)) ∧
          W4.heap[D + 1]? = some (.loop (rc st jump)) ∧ W4.heap[D]? = some (.deferred (some [])) ∧ Kp W W4 := by
      intro jump st W3 hst hkeep hkp
      have l3 := (hkeep.2 _ (Or.inr rfl)).trans hlb
      have d3 := (hkeep.2 _ (Or.inl rfl)).trans hkb
      have hr := run_endRound (P := P) jump l3
      rw [hrc, ← hst, ← hrc st jump] at hr
      exact ⟨_, hr, rfl, l3, World.putObj_heap_same (Array.getElem?_eq_some_iff.1 l3).1, (World.putObj_heap_other (by omega)).trans d3, hKt (hKt hKw hkp) (hKb _ _)⟩
    rintro e a3 W3 hpost
    cases e with
    | normal =>
      obtain ⟨⟨k1, k2⟩, i3⟩ := hpost
      obtain ⟨W4, hr, rfl, l3, l4, d4, k4⟩ := close none .ready W3 rfl k1 k2
      exact ⟨_, _, hr, Or.inl ⟨rfl, ⟨hI.putObj _ i3 (by omega) l3 rfl, l4, d4⟩, k4⟩⟩
    | ret =>
      obtain ⟨⟨k1, k2⟩, i3⟩ := hpost
      obtain ⟨W4, hr, rfl, l3, l4, d4, k4⟩ := close (some .ret) .done W3 rfl k1 k2
      exact ⟨_, _, hr, Or.inr ⟨rfl, ⟨_, (hIx _).putObj _ i3 (by omega) l3 rfl, l4, d4⟩, k4⟩⟩
    | exit id =>
      obtain ⟨⟨k1, k2⟩, i3⟩ := hpost
      obtain ⟨W4, hr, rfl, l3, l4, d4, k4⟩ := close (some (.exit id)) .done W3 rfl k1 k2
      exact ⟨_, _, hr, Or.inr ⟨rfl, ⟨_, (hIx _).putObj _ i3 (by omega) l3 rfl, l4, d4⟩, k4⟩⟩
    | goto t =>
      obtain ⟨⟨k1, k2⟩, i3⟩ := hpost
      obtain ⟨W4, hr, rfl, l3, l4, d4, k4⟩ := close (some (.goto t)) .done W3 rfl k1 k2
      exact ⟨_, _, hr, Or.inr ⟨rfl, ⟨_, (hIx _).putObj _ i3 (by omega) l3 rfl, l4, d4⟩, k4⟩⟩
    | panic ch => exact hpost.elim
    | outgrown => exact hpost.elim
  · -- behind the iterator
    rintro e W2 ⟨⟨v, rfl⟩, ⟨xs, q1, hi, hl, hk⟩ | ⟨xs, q1, c, hi, hl, hk⟩⟩
    · have hr := run_endLoop (P := P) hl (by rw [hrc]; simp)
      rw [hrc] at hr
      exact ⟨none, _, hr, hdone D xs _ (Nat.le_refl _) (hS.putObj _ q1 (by omega) hl rfl) (hI.putObj _ hi (by omega) hl rfl) ((World.putObj_heap_other (by omega)).trans hk)⟩
    · have hr := run_endLoop (P := P) hl (by rw [hrc]; simp)
      rw [hrc] at hr
      exact ⟨some c, _, hr, hstop D c xs _ (Nat.le_refl _) (hSp.putObj _ q1 (by omega) hl rfl) ((hIx c).putObj _ hi (by omega) hl rfl) ((World.putObj_heap_other (by omega)).trans hk)⟩
/-- The same, where one loop variable lies in a box of its own: at B, with the cells Cs. -/
theorem wpIn_range_box1W {g : Operand} {ps : Array Tmp} {assign body : Code} {Q : Exit → Act → World → Prop} {a : Act} {w : World}
    (hro : F.round = none) (hd : F.depth = none) (h1 : 1 ≤ n) {gf : Nat} {lb : Array Value} (hg : a.eval g = .func (.func gf) #[] lb) (hFg : F.fn gf) (eg : Enters P gf)
    {encs : α → Array Value} {R Kp : World → World → Prop} {T : List α → α → World → Prop} {S Sp : List α → World → Prop} (hseq : ∀ o1 o2, SeqW F (n - 1) P gf lb encs R Kp T S Sp ((w.alloc o1).alloc o2))
    (hR : Kept2 w.heap.size R) (hKt : ∀ {A B C : World}, Kp A B → Kp B C → Kp A C) (hKb : ∀ (W : World) (o : Obj), Kp W (W.putObj (w.heap.size + 1) o)) (hps : ∀ x, (encs x).size = ps.size)
    (I : List α → World → Prop) (Ix : Code → List α → World → Prop) (hI : OwnFrom w.heap.size I) (hIx : ∀ c, OwnFrom w.heap.size (Ix c)) (hS : OwnFrom w.heap.size S) (hSp : OwnFrom w.heap.size Sp)
    (hT : ∀ pre x, OwnFrom w.heap.size (fun (_ : Unit) W => T pre x W)) (hIR : ∀ s A B, I s A → R A B → I s B) (hIxR : ∀ c s A B, Ix c s A → R A B → Ix c s B) (h0 : I [] w) (A1 : α → Nat → Act) (Cs : α → List Value) (hIg : ∀ s A B, I s A → IsGr A B → I s B) (hTg : ∀ pre x A B, T pre x A → IsGr A B → T pre x B) (hKg : ∀ A B : World, w.heap.size + 1 < A.heap.size → IsGr A B → Kp A B)
    (hassign : ∀ (l : Nat) (x : α) (W : World) (K : Act → World → Prop), w.heap.size + 1 < W.heap.size → (∀ B W', IsGr W W' → w.heap.size ≤ B → (∀ (i : Nat) u, (Cs x)[i]? = some u → W'.cell? ⟨B, i, none⟩ = some u) → K (A1 x B) W') → assign.wpIn (F.inRound l) (n - 1 - 1) P (Exit.then K (fun _ _ _ => False)) { tmps := (ps.zip (encs x)).foldl (fun t (p, v) => t.setIfInBounds p v) a.tmps, defers := [] } W)
    (hbody : ∀ (l : Nat) (pre : List α) (x : α) (B : Nat) (W : World), I pre W → T pre x W → w.heap.size ≤ B → (∀ (i : Nat) u, (Cs x)[i]? = some u → W.cell? ⟨B, i, none⟩ = some u) → w.heap.size + 1 < W.heap.size → body.wpIn (F.inRound l) (n - 1 - 1) P (turnPostW w.heap.size Kp I Ix (pre ++ [x]) W) (A1 x B) W)
    (hdone : ∀ (D : Nat) (xs : List α) (W : World), w.heap.size ≤ D → S xs W → I xs W → W.heap[D]? = some (.deferred (some [])) → Q .normal { a with defers := { target := .collected D, args := #[] } :: a.defers } W)
    (hstop : ∀ (D : Nat) (c : Code) (xs : List α) (W : World), w.heap.size ≤ D → Sp xs W → Ix c xs W → W.heap[D]? = some (.deferred (some [])) → c.wpIn F n P Q { a with defers := { target := .collected D, args := #[] } :: a.defers } W) :
    (Code.rangeFunc g ps assign body).wpIn F n P Q a w :=
  wpIn_range_boxW hro hd h1 hg hFg eg hseq hR hKt hKb hps I Ix hI hIx hS hSp hT hIR hIxR h0
    (fun x a' W => ∃ B, a' = A1 x B ∧ w.heap.size ≤ B ∧ ∀ (i : Nat) u, (Cs x)[i]? = some u → W.cell? ⟨B, i, none⟩ = some u)
    (fun _ _ _ _ _ _ hs hg hr => by
      obtain ⟨B, q1, q2, q3⟩ := hs
      exact ⟨B, q1, q2, fun i u hu => cell_kept (q3 i u hu) hg (fun r e => (hr r e).2)⟩)
    hIg hTg hKg (fun l x W K hs hK => hassign l x W K hs (fun B W' hg hB hc => hK _ _ hg ⟨B, rfl, hB, hc⟩))
    (fun l pre x a' W hi ht ⟨B, q1, q2, q3⟩ hs => q1 ▸ hbody l pre x B W hi ht q2 q3 hs) hdone hstop
end
end Go.Proofs.Ytpgcfnpnpmpkeaa
