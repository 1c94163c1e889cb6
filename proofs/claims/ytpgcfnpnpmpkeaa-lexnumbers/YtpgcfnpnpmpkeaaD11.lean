/- Package lex over the loaded program: All, an iterator over an iterator. -/
import Derived.Test.YtpgcfnpnpmpkeaaD10
namespace Go.Proofs.Ytpgcfnpnpmpkeaa
open Go.RowKit Go.Shelf
attribute [local go_sem] Oper.semAt_some
theorem kpO_none {N N' : Nat} {Z : List Nat} {A B : World} (h : KpN N A B) (hN : N ≤ N') (hZ : ∀ z ∈ Z, N ≤ z ∧ z < A.heap.size) : KpO none N' Z A B :=
  ⟨h.1, fun z hz => h.2 z (hZ z hz).1 (hZ z hz).2, fun k hk hl _ => h.2 k (by omega) hl, fun k ⟨_, _, h1, _⟩ => (by cases h1), fun _ k ⟨_, _, h1, _⟩ => (by cases h1)⟩
/-- What the loop in All stands on. -/
structure AlP (s : ByteArray) (N l Bs : Nat) (W : World) : Prop where
  cy : W.cell? ⟨N, 0, none⟩ = some (.func (.yield l) #[] #[])
  cs : W.cell? ⟨Bs, 0, none⟩ = some (.string s)
  size : N + 2 ≤ W.heap.size
theorem AlP.gr {s : ByteArray} {N l Bs : Nat} {A B : World} (h : AlP s N l Bs A) (hg : IsGr A B) : AlP s N l Bs B := ⟨cellk h.cy hg, cellk h.cs hg, Nat.le_trans h.size hg.size⟩
theorem AlP.own {s : ByteArray} {N l Bs : Nat} {A C : World} {row : Option Nat} (h : AlP s N l Bs A) (hg : A.grownBy C row) (hr : ∀ r, row = some r → ∃ o : Obj, A.heap[r]? = some o ∧ o.isCells = false) : AlP s N l Bs C :=
  ⟨cell_kept h.cy hg hr, cell_kept h.cs hg hr, Nat.le_trans h.size hg.size⟩
theorem AlP.kp {s : ByteArray} {N l Bs : Nat} {A B : World} (h : AlP s N l Bs A) (hg : KpZN N [Bs] A B) : AlP s N l Bs B :=
  ⟨(World.cell?_of_block (a := ⟨N, 0, none⟩) (hg.1.2 N (Nat.le_refl _) (by have := h.size; omega))).trans h.cy, (World.cell?_of_block (a := ⟨Bs, 0, none⟩) (hg.2 Bs (by simp))).trans h.cs, Nat.le_trans h.size hg.1.1⟩
theorem below_own9 {N B : Nat} {A C : World} {row : Option Nat} (hB : N ≤ B) (hs : N ≤ A.heap.size) (hg : A.grownBy C row) (hr : ∀ r, row = some r → B ≤ r ∧ ∃ o : Obj, A.heap[r]? = some o ∧ o.isCells = false) : Below N A C :=
  (Below.refl N A).grown hg hs (fun r e => by have := (hr r e).1; omega)
theorem up_txS {s : ByteArray} {t : Tk} (h : t ∈ (tks (bts s) 0).1) : (if ((t.1 : Nat) : Int) = 1 then strOfNums (upL (bts (txtOf s (t.2.1 : Nat) (t.2.2 : Nat)))) else txtOf s (t.2.1 : Nat) (t.2.2 : Nat)) = txS s t := by
  have h1 := tks_in _ (bts s) 0 (Nat.le_refl _) t h
  rw [bts_len] at h1
  have e : txtOf s (t.2.1 : Nat) (t.2.2 : Nat) = s.extract t.2.1 t.2.2 := by
    unfold txtOf
    rw [if_pos (by omega), Int.toNat_natCast, Int.toNat_natCast]
  rw [e]
  unfold txS
  by_cases hk : t.1 = 1
  · rw [if_pos hk, if_pos (by omega)]
  · rw [if_neg hk, if_neg (by omega)]
theorem g_at {G : Nat → Array Bool → Act → World → Prop} {f : Nat} {l l' : Array Bool} {a : Act} {w : World} (h : G f l' a w) (e : l = l') : G f l a w := e ▸ h
/-- What All leaves behind an early end. -/
def AlX (s : ByteArray) (N : Nat) (J Jx : List Tk → World → Prop) (W : World) : Prop :=
  N ≤ W.heap.size ∧ ((∃ o, J o W ∧ o = (tks (bts s) 0).1) ∨ (∃ o, (∃ rest, (tks (bts s) 0).1 = o ++ rest) ∧ Jx o W))
theorem AlX.to {s : ByteArray} {N : Nat} {J Jx : List Tk → World → Prop} {A B : World} (hJ : ∀ s A B, J s A → Below N A B → J s B) (hJx : ∀ s A B, Jx s A → Below N A B → Jx s B) (h : AlX s N J Jx A) (hb : Below N A B) : AlX s N J Jx B :=
  ⟨Nat.le_trans h.1 hb.size, h.2.imp (fun ⟨o, h1, h2⟩ => ⟨o, hJ _ _ _ h1 hb, h2⟩) (fun ⟨o, h1, h2⟩ => ⟨o, h1, hJx _ _ _ h2 hb⟩)⟩

set_option maxRecDepth 100000 in
set_option maxHeartbeats 2000000 in
theorem lall_in (s : ByteArray) (hs : s.size ≤ 3000) (Bs N m : Nat) (W0 : World) (hN : W0.heap.size = N) (hB : W0.cell? ⟨Bs, 0, none⟩ = some (.string s)) (hm : 1 ≤ m) :
    SeqW Fence.wide m Try.prog 24 #[.pointer (some ⟨Bs, 0, none⟩)] (enc9 s) (Below N) (KpZN N [Bs]) (fun pre t _ => ∃ rest, (tks (bts s) 0).1 = pre ++ t :: rest) (fun xs _ => xs = (tks (bts s) 0).1) (fun xs _ => ∃ rest, (tks (bts s) 0).1 = xs ++ rest) W0 := by
  intro l J Jx hJ hJx hY hJ0
  have HS : Hid (s.size ≤ 3000) := hs
  refine callsIn_of_wp_marks Try.func24 rfl trivial ?_ rfl
  simp only [Try.ntmps24, List.size_toArray, List.length_cons, List.length_nil, Nat.reduceAdd, Nat.reduceSub, Array.replicate_succ, Array.replicate_zero, List.push_toArray, List.append_toArray, List.nil_append, List.cons_append]
  have q1 := fun o => cellk hB ((IsGr.refl W0).alloc o)
  have cy := cell_new W0 (.func (.yield l) #[] #[]) 50
  gi_wp2
  refine ⟨trivial, ?_⟩
  refine (callsIn_wide.2 (lpieces_any s _)).mono ?_
  rintro e w5 ⟨rfl, e5⟩
  have hs5 : w5.heap.size = N + 2 := by rw [e5]; simp [hN]
  have hg5 : IsGr W0 w5 := e5 ▸ ((IsGr.refl W0).alloc _).alloc _
  have cs5 : w5.cell? ⟨N + 1, 0, none⟩ = some (.string s) := by
    have := cell_new (W0.alloc (.cells #[.func (.yield l) #[] #[]] 50)) (.string s) 9
    simp only [World.size_alloc, hN] at this
    rw [e5]; exact this.1
  rw [hN] at cy
  have hP5 : AlP s N l Bs w5 := by
    refine ⟨?_, cellk hB hg5, by omega⟩
    rw [e5]; exact cell_past _ cy.1
  have hJ5 : J [] w5 := hJ _ _ _ hJ0 (hN ▸ hg5.below)
  have hsz1 : (W0.alloc (.cells #[.func (.yield l) #[] #[]] 50)).heap.size = N + 1 := by simp [hN]
  rw [hsz1]
  clear e5 cy q1 hg5 hJ0 hB hsz1
  gi_wp2
  refine wpIn_range_box1W (α := Pc) rfl rfl hm (gf := 26) (lb := #[.pointer (some ⟨N + 1, 0, none⟩)]) rfl trivial (enters_of Try.func26 (by kernel_rfl) rfl)
    (encs := fun x : Pc => #[.agg #[.int .i64 (x.1.1 : Nat), .int .i64 (x.1.2.1 : Nat), .int .i64 (x.1.2.2 : Nat)], .bool x.2]) (R := IsGr) (Kp := KpO none (N + 4) [N + 1])
    (T := fun pre x _ => NxP (bts s) pre x) (S := fun xs _ => AllR xs → tks (bts s) 0 = (xs.map (·.1), none)) (Sp := fun xs _ => ∃ pre x, xs = pre ++ [x] ∧ NxP (bts s) pre x)
    (fun o1 o2 => lpieces_in s (by have := HS.out; omega) (N + 1) (N + 4) _ [N + 1] none ((w5.alloc o1).alloc o2) (cellk cs5 (((IsGr.refl w5).alloc o1).alloc o2)) (by simp) (by simp; omega) (fun b hb => by cases hb) (fun k ⟨_, _, h1, _⟩ => (by cases h1)))
    (kept2_gr _) (fun h1 h2 => h1.trans h2) ?kb (fun _ => rfl)
    (fun (pre : List Pc) (W : World) => AllR pre ∧ J (pre.map (fun y : Pc => y.1)) W ∧ AlP s N l Bs W) (fun c' _ W => c' = .ret ∧ AlX s N J Jx W)
    (fun pre A C row h hg hr => ⟨h.1, hJ _ A C h.2.1 (below_own9 (B := w5.heap.size) (by omega) (by have := h.2.2.size; omega) hg hr), h.2.2.own hg (fun r e => (hr r e).2)⟩)
    (fun c' pre A C row h hg hr => ⟨h.1, h.2.to hJ hJx (below_own9 (B := w5.heap.size) (by omega) h.2.1 hg hr)⟩)
    (fun s A B row hs hg hr => hs) (fun s A B row hs hg hr => hs) (fun _ _ s A B row hs hg hr => hs)
    (fun pre A B h hr => ⟨h.1, hJ _ A B h.2.1 (hr.below.mono (by have := h.2.2.size; omega)), h.2.2.gr hr⟩)
    (fun c' pre A B h hr => ⟨h.1, h.2.to hJ hJx (hr.below.mono h.2.1)⟩)
    ⟨fun y hy => by simp at hy, hJ5, hP5⟩
    ?a1 (fun x => [.int .i64 (x.1.1 : Nat), .int .i64 (x.1.2.1 : Nat), .int .i64 (x.1.2.2 : Nat)])
    (fun pre A B h hr => ⟨h.1, hJ _ A B h.2.1 (hr.below.mono (by have := h.2.2.size; omega)), h.2.2.gr hr⟩) (fun _ _ _ _ h _ => h) ?kg ?assign ?body ?done ?stop
  case kb =>
    intro W o
    have hc : ∀ k, k ≠ N + 3 → (W.putObj (w5.heap.size + 1) o).heap[k]? = W.heap[k]? := fun k hk => World.putObj_heap_other (by omega)
    exact ⟨by simp, fun z hz => hc z (by simp at hz; omega), fun k hk _ _ => hc k (by omega), fun k ⟨_, _, h1, _⟩ => (by cases h1), fun _ k ⟨_, _, h1, _⟩ => (by cases h1)⟩
  case kg =>
    intro A B hA hg
    exact kpO_none (N := 0) (KpN.gr hg) (Nat.zero_le _) (fun z hz => ⟨Nat.zero_le _, by simp at hz; omega⟩)
  case assign =>
    intro lq x W K hs hK
    gi_wp2
    have hg := (IsGr.refl W).alloc (.cells #[.int .i64 (x.1.1 : Nat), .int .i64 (x.1.2.1 : Nat), .int .i64 (x.1.2.2 : Nat)] 31)
    have z1 : ∀ (i : Nat) u, ([.int .i64 (x.1.1 : Nat), .int .i64 (x.1.2.1 : Nat), .int .i64 (x.1.2.2 : Nat)] : List Value)[i]? = some u → (W.alloc (.cells #[.int .i64 (x.1.1 : Nat), .int .i64 (x.1.2.1 : Nat), .int .i64 (x.1.2.2 : Nat)] 31)).cell? ⟨W.heap.size, i, none⟩ = some u := fun i u hu => by
      rw [World.cell?_alloc_at _ _ _ _ rfl]
      simpa using hu
    obtain ⟨B, hB⟩ : ∃ B, W.heap.size = B := ⟨_, rfl⟩
    rw [hB] at z1 ⊢
    exact hK _ _ hg (by omega) z1
  case stop =>
    rintro D c' xs W hD hSp ⟨rfl, hX⟩ hK
    have hX2 := hX.to hJ hJx ((Below.refl N W).grown (grownBy_putObj' W D (.deferred none)) hX.1 (fun r e => by cases e; omega))
    gi_wp2
    refine ⟨by simp, .inl ⟨_, _, rfl, run_takeDeferred hK, ?_⟩⟩
    refine ⟨.tuple #[], by simp [results, Try.f24, go_sem], ⟨_, rfl⟩, ?_⟩
    rcases hX2.2 with ⟨o, h1, h2⟩ | ⟨o, h1, h2⟩
    · exact Or.inl ⟨o, h2, h1⟩
    · exact Or.inr ⟨o, h1, h2⟩
  case done =>
    rintro D xs W hD hSx ⟨ha, hj, hP⟩ hK
    have hjD := hJ _ _ _ hj ((Below.refl N W).grown (grownBy_putObj' W D (.deferred none)) (by have := hP.size; omega) (fun r e => by cases e; omega))
    have HQ : Hid (xs.map (·.1) = (tks (bts s) 0).1) := by show _ = _; rw [hSx ha]
    clear hP hSx
    gi_wp2
    refine ⟨by simp, .inl ⟨_, _, rfl, run_takeDeferred hK, ?_⟩⟩
    exact ⟨.tuple #[], by simp [results, Try.f24, go_sem], ⟨_, rfl⟩, Or.inl ⟨_, HQ.out, hjD⟩⟩
  case body =>
    rintro lq pre ⟨⟨kd, i, j⟩, ok⟩ B W ⟨ha, hj, hP⟩ hT hB hz hWs
    have z1 : W.cell? ⟨B, 0, none⟩ = some (.int .i64 (kd : Nat)) := hz 0 _ rfl
    have z2 : W.cell? ⟨B, 1, none⟩ = some (.int .i64 (i : Nat)) := hz 1 _ rfl
    have z3 : W.cell? ⟨B, 2, none⟩ = some (.int .i64 (j : Nat)) := hz 2 _ rfl
    have HW : Hid (w5.heap.size = N + 2 ∧ w5.heap.size + 1 < W.heap.size) := ⟨hs5, hWs⟩
    cases ok with
    | false =>
      have hq : tks (bts s) 0 = (pre.map (·.1), some i) := (hT ha).2 rfl
      have hd : IsGr W W.drew := (IsGr.refl W).drew
      have FF : Hid ((KeptB w5.heap.size W W.drew ∧ KpO none (N + 4) [N + 1] W W.drew) ∧ AlX s N J Jx W.drew) := by
        refine ⟨⟨(KpN.gr hd (N := 0)).mono (Nat.zero_le _) |>.kept hWs, kpO_none (N := 0) (KpN.gr hd) (Nat.zero_le _) (fun z hz => ⟨Nat.zero_le _, by simp at hz; omega⟩)⟩, by have := hP.size; have := hd.size; omega, Or.inl ⟨_, hJ _ _ _ hj (hd.below.mono (by have := hP.size; omega)), by rw [hq]⟩⟩
      clear hq hd ha hj hP hT hB hz hWs hP5 hJ5 hY hJ hJx cs5 hs5 z1 z2 z3
      gi_upto_region 4 with fail
      refine wpIn_region_held (S := (fun _ => True)) (by kernel_rfl) (by kernel_rfl) (fun ⟨_, _, h⟩ => h) (by (try dsimp only); all_goals trivial) (fun hHeld => ?_)
      refine wpAnyH_take (i := 0) (oi := { dst := some 9, op := Op.move (Operand.tmp 4), type := 4, pos := "lex.go:61", after := #[], guard := none }) (v := ?_) rfl (by kernel_rfl) (by kernel_rfl) (by kernel_rfl) (fun _ _ _ h => h) (Or.inl ⟨by rfl, ?_⟩) (by assumption) ?_
      rotate_left
      · (intro w hSw; (try dsimp only at hSw); go_simp <;> with_reducible rfl)
      (try simp only [Act.put, List.setIfInBounds_toArray, List.set_cons_zero, List.set_cons_succ])
      refine wpAnyH_take (i := 1) (oi := { dst := some 10, op := Op.unOp UnOp.not 4 (Operand.tmp 9), type := 4, pos := "lex.go:61", after := #[{ on := 0, ground := Ground.data }], guard := none }) (v := ?_) rfl (by kernel_rfl) (by kernel_rfl) (by kernel_rfl) (fun _ _ _ h => h) (Or.inl ⟨by rfl, ?_⟩) (by assumption) ?_
      rotate_left
      · (intro w hSw; (try dsimp only at hSw); go_simp <;> with_reducible rfl)
      (try simp only [Act.put, List.setIfInBounds_toArray, List.set_cons_zero, List.set_cons_succ])
      refine wpAnyH_take (i := 2) (oi := { dst := some 11, op := Op.move (Operand.tmp 10), type := 4, pos := "lex.go:61", after := #[{ on := 1, ground := Ground.data }], guard := none }) (v := ?_) rfl (by kernel_rfl) (by kernel_rfl) (by kernel_rfl) (fun _ _ _ h => h) (Or.inl ⟨by rfl, ?_⟩) (by assumption) ?_
      rotate_left
      · (intro w hSw; (try dsimp only at hSw); go_simp <;> with_reducible rfl)
      (try simp only [Act.put, List.setIfInBounds_toArray, List.set_cons_zero, List.set_cons_succ])
      refine wpAnyH_take (i := 3) (oi := { dst := some 12, op := Op.load 50 (Operand.tmp 2), type := 50, pos := "lex.go:61", after := #[{ on := 2, ground := Ground.guard }], guard := some (2, false) }) (v := undef) rfl (by kernel_rfl) (by kernel_rfl) (by kernel_rfl) (fun _ _ _ h => h) (Or.inr ⟨by rfl, rfl⟩) (by assumption) ?_
      (try simp only [Act.put, List.setIfInBounds_toArray, List.set_cons_zero, List.set_cons_succ])
      refine wpAnyH_take (i := 4) (oi := { dst := some 13, op := Op.load 31 (Operand.tmp 3), type := 31, pos := "lex.go:61", after := #[{ on := 2, ground := Ground.guard }], guard := some (2, false) }) (v := undef) rfl (by kernel_rfl) (by kernel_rfl) (by kernel_rfl) (fun _ _ _ h => h) (Or.inr ⟨by rfl, rfl⟩) (by assumption) ?_
      (try simp only [Act.put, List.setIfInBounds_toArray, List.set_cons_zero, List.set_cons_succ])
      refine wpAnyH_take (i := 5) (oi := { dst := some 14, op := Op.load 31 (Operand.tmp 3), type := 31, pos := "lex.go:61", after := #[{ on := 2, ground := Ground.guard }], guard := some (2, false) }) (v := undef) rfl (by kernel_rfl) (by kernel_rfl) (by kernel_rfl) (fun _ _ _ h => h) (Or.inr ⟨by rfl, rfl⟩) (by assumption) ?_
      (try simp only [Act.put, List.setIfInBounds_toArray, List.set_cons_zero, List.set_cons_succ])
      refine wpAnyH_take (i := 6) (oi := { dst := some 15, op := Op.load 9 (Operand.tmp 1), type := 9, pos := "lex.go:61", after := #[{ on := 2, ground := Ground.guard }], guard := some (2, false) }) (v := undef) rfl (by kernel_rfl) (by kernel_rfl) (by kernel_rfl) (fun _ _ _ h => h) (Or.inr ⟨by rfl, rfl⟩) (by assumption) ?_
      (try simp only [Act.put, List.setIfInBounds_toArray, List.set_cons_zero, List.set_cons_succ])
      refine wpAnyH_take (i := 7) (oi := { dst := some 16, op := Op.call { callee := Callee.value (Operand.func 25), args := #[Operand.tmp 14, Operand.tmp 15], argTypes := #[31, 9] }, type := 9, pos := "lex.go:61", after := #[{ on := 5, ground := Ground.data }, { on := 6, ground := Ground.data }, { on := 2, ground := Ground.chain }, { on := 2, ground := Ground.guard }], guard := some (2, false) }) (v := undef) rfl (by kernel_rfl) (by kernel_rfl) (by kernel_rfl) (fun _ _ _ h => h) (Or.inr ⟨by rfl, rfl⟩) (by assumption) ?_
      (try simp only [Act.put, List.setIfInBounds_toArray, List.set_cons_zero, List.set_cons_succ])
      refine wpAnyH_take (i := 8) (oi := { dst := some 17, op := Op.call { callee := Callee.value (Operand.tmp 12), args := #[Operand.tmp 13, Operand.tmp 16], argTypes := #[31, 9] }, type := 4, pos := "lex.go:61", after := #[{ on := 3, ground := Ground.data }, { on := 4, ground := Ground.data }, { on := 7, ground := Ground.data }, { on := 7, ground := Ground.chain }, { on := 2, ground := Ground.guard }], guard := some (2, false) }) (v := undef) rfl (by kernel_rfl) (by kernel_rfl) (by kernel_rfl) (fun _ _ _ h => h) (Or.inr ⟨by rfl, rfl⟩) (by assumption) ?_
      (try simp only [Act.put, List.setIfInBounds_toArray, List.set_cons_zero, List.set_cons_succ])
      refine wpAnyH_take (i := 9) (oi := { dst := some 18, op := Op.unOp UnOp.not 4 (Operand.tmp 17), type := 4, pos := "lex.go:61", after := #[{ on := 8, ground := Ground.data }, { on := 2, ground := Ground.guard }], guard := some (2, false) }) (v := undef) rfl (by kernel_rfl) (by kernel_rfl) (by kernel_rfl) (fun _ _ _ h => h) (Or.inr ⟨by rfl, rfl⟩) (by assumption) ?_
      (try simp only [Act.put, List.setIfInBounds_toArray, List.set_cons_zero, List.set_cons_succ])
      refine wpAnyH_take (i := 10) (oi := { dst := some 19, op := Op.pick (Operand.tmp 11) (Operand.const (Value.bool true)) (Operand.tmp 18), type := 4, pos := "lex.go:61", after := #[{ on := 2, ground := Ground.data }, { on := 9, ground := Ground.data }], guard := none }) (v := ?_) rfl (by kernel_rfl) (by kernel_rfl) (by kernel_rfl) (fun _ _ _ h => h) (Or.inl ⟨by rfl, ?_⟩) (by assumption) ?_
      rotate_left
      · (intro w hSw; (try dsimp only at hSw); go_simp <;> with_reducible rfl)
      (try simp only [Act.put, List.setIfInBounds_toArray, List.set_cons_zero, List.set_cons_succ])
      refine wpAnyH_done (by kernel_rfl) ?_ _
      gi_wp2
      exact ⟨FF.out.1, rfl, FF.out.2⟩
    | true =>
      have hmem : ∃ rest, (tks (bts s) 0).1 = pre.map (fun y : Pc => y.1) ++ (kd, i, j) :: rest := (hT ha).1 rfl
      have htx := up_txS (s := s) (t := (kd, i, j)) (by obtain ⟨rest, hr⟩ := hmem; rw [hr]; simp)
      have CU := fun w => lupper_any (kd : Nat) (i : Nat) (j : Nat) s w (by have := HS.out; omega)
      simp only at htx
      rw [htx] at CU
      have HAR : AllR (pre ++ [((kd, i, j), true)]) := fun y hy => by
        rcases List.mem_append.1 hy with h | h
        · exact ha y h
        · simp at h; rw [h]
      have HYL : Hid (∀ W1, IsGr W.drew W1 → YieldAt Fence.wide 0 Try.prog l (enc9 s (kd, i, j)) W1 fun e W2 =>
          (e = .returned (.bool true) ∧ (KeptB w5.heap.size W W2 ∧ KpO none (N + 4) [N + 1] W W2) ∧ AllR (pre ++ [((kd, i, j), true)]) ∧ J ((pre ++ [((kd, i, j), true)]).map (fun y : Pc => y.1)) W2 ∧ AlP s N l Bs W2) ∨
          (e = .returned (.bool false) ∧ (KeptB w5.heap.size W W2 ∧ KpO none (N + 4) [N + 1] W W2) ∧ AlX s N J Jx W2)) := fun W1 hg1 => by
        have hg : IsGr W W1 := ((IsGr.refl W).drew).trans hg1
        have hNW : N ≤ W.heap.size := by have := hP.size; omega
        obtain ⟨fn, tmps, assign, body, hy, hR⟩ := hY 0 (pre.map (fun y : Pc => y.1)) (kd, i, j) W1 (hJ _ _ _ hj (hg.below.mono hNW)) hmem
        refine ⟨fn, tmps, assign, body, hy, hR.mono ?_⟩
        have hk : ∀ W2, KpZN N [Bs] W1 W2 → KeptB w5.heap.size W W2 ∧ KpO none (N + 4) [N + 1] W W2 := fun W2 h2 => by
          have h3 : KpN N W W2 := ((KpN.gr hg (N := N))).trans h2.1
          exact ⟨(h3.mono (by omega)).kept hWs, kpO_none h3 (by omega) (fun z hz => by simp at hz; omega)⟩
        rintro e W2 (⟨rfl, hj2, hkp⟩ | ⟨rfl, hj2, hkp⟩)
        · exact Or.inl ⟨rfl, hk W2 hkp, HAR, by rw [List.map_append]; exact hj2, (hP.gr hg).kp hkp⟩
        · refine Or.inr ⟨rfl, hk W2 hkp, by have := hkp.1.1; have := hg.size; omega, Or.inr ⟨_, ?_, hj2⟩⟩
          obtain ⟨rest, hr⟩ := hmem
          exact ⟨rest, by rw [hr, List.append_assoc]; rfl⟩
      have cyb := hP.cy
      have csb := hP.cs
      unfold enc9 at HYL
      obtain ⟨tx, htx2⟩ : ∃ u, txS s (kd, i, j) = u := ⟨_, rfl⟩
      rw [htx2] at HYL CU
      clear hmem htx htx2 HAR ha hj hP hT hB hz hWs hP5 hJ5 hY hJ hJx cs5 hs5
      gi_upto_region 4 with fail
      dsimp only
      refine wpIn_region_any (by kernel_rfl) ?_
      generalize hG : wpAnyIn _ _ _ _ _ _ = G
      have HG : Hid (_ = G) := hG
      clear hG
      have n34567 : Hid (∀ W1, IsGr W.drew W1 → G 3 #[true, true, true, true, true, true, true, true, false, false, false] { tmps := #[.func (.yield l) #[] #[], .pointer (some ⟨Bs, 0, none⟩), .pointer (some ⟨N, 0, none⟩), .pointer (some ⟨B, 0, none⟩), .bool true, .string s, .func (.func 26) #[] #[.pointer (some ⟨N + 1, 0, none⟩)], .agg #[.int .i64 (kd : Nat), .int .i64 (i : Nat), .int .i64 (j : Nat)], .bool true, .bool true, .bool false, .bool false, .func (.yield l) #[] #[], .agg #[.int .i64 (kd : Nat), .int .i64 (i : Nat), .int .i64 (j : Nat)], .agg #[.int .i64 (kd : Nat), .int .i64 (i : Nat), .int .i64 (j : Nat)], .string s, .string tx, undef, undef, undef], defers := [] } W1) := by
        intro W1 hg1
        have y1 := cellk (cellk z1 (IsGr.refl W).drew) hg1
        have y2 := cellk (cellk z2 (IsGr.refl W).drew) hg1
        have y3 := cellk (cellk z3 (IsGr.refl W).drew) hg1
        have cy1 := cellk (cellk cyb (IsGr.refl W).drew) hg1
        rw [← HG.out]
        obtain ⟨fn, tmps, assign, body, hy, hR⟩ := HYL.out W1 hg1
        clear hg1 CU
        refine wpAnyIn_ready (rs := [8]) (by kernel_rfl) (by simp) ?_
        refine AllReadyIn.cons (o := { dst := some 17, op := Op.call { callee := Callee.value (Operand.tmp 12), args := #[Operand.tmp 13, Operand.tmp 16], argTypes := #[31, 9] }, type := 4, pos := "lex.go:61", after := #[{ on := 3, ground := Ground.data }, { on := 4, ground := Ground.data }, { on := 7, ground := Ground.data }, { on := 7, ground := Ground.chain }, { on := 2, ground := Ground.guard }], guard := some (2, false) }) rfl (fun K hK0 => ?_) AllReadyIn.nil
        have hK : Hid _ := hK0
        clear hK0
        go_simp
        refine ⟨fun h => (by cases h), ?_⟩
        refine RoundIn.mono (F := Fence.wide) (round_any rfl hR) ?_
        clear hR
        rintro e W2 (⟨rfl, hF⟩ | ⟨rfl, hF⟩)
        · have FF : Hid _ := hF
          clear hF
          refine hK.out _ _ ?_
          clear hK K
          (try simp only [List.setIfInBounds_toArray, List.set_cons_zero, List.set_cons_succ])
          refine wpAnyIn_ready (rs := [9]) (by kernel_rfl) (by simp) ?_
          refine AllReadyIn.cons (o := { dst := some 18, op := Op.unOp UnOp.not 4 (Operand.tmp 17), type := 4, pos := "lex.go:61", after := #[{ on := 8, ground := Ground.data }, { on := 2, ground := Ground.guard }], guard := some (2, false) }) rfl (fun K hK0 => ?_) AllReadyIn.nil
          have hK : Hid _ := hK0
          clear hK0
          go_simp
          refine hK.out _ _ ?_
          clear hK K
          (try simp only [List.setIfInBounds_toArray, List.set_cons_zero, List.set_cons_succ])
          refine wpAnyIn_ready (rs := [10]) (by kernel_rfl) (by simp) ?_
          refine AllReadyIn.cons (o := { dst := some 19, op := Op.pick (Operand.tmp 11) (Operand.const (Value.bool true)) (Operand.tmp 18), type := 4, pos := "lex.go:61", after := #[{ on := 2, ground := Ground.data }, { on := 9, ground := Ground.data }], guard := none }) rfl (fun K hK0 => ?_) AllReadyIn.nil
          have hK : Hid _ := hK0
          clear hK0
          go_simp
          refine hK.out _ _ ?_
          clear hK K
          (try simp only [List.setIfInBounds_toArray, List.set_cons_zero, List.set_cons_succ])
          refine wpAnyIn_done (by kernel_rfl) ?_ _
          gi_wp2
          exact FF.out
        · have FF : Hid _ := hF
          clear hF
          refine hK.out _ _ ?_
          clear hK K
          (try simp only [List.setIfInBounds_toArray, List.set_cons_zero, List.set_cons_succ])
          refine wpAnyIn_ready (rs := [9]) (by kernel_rfl) (by simp) ?_
          refine AllReadyIn.cons (o := { dst := some 18, op := Op.unOp UnOp.not 4 (Operand.tmp 17), type := 4, pos := "lex.go:61", after := #[{ on := 8, ground := Ground.data }, { on := 2, ground := Ground.guard }], guard := some (2, false) }) rfl (fun K hK0 => ?_) AllReadyIn.nil
          have hK : Hid _ := hK0
          clear hK0
          go_simp
          refine hK.out _ _ ?_
          clear hK K
          (try simp only [List.setIfInBounds_toArray, List.set_cons_zero, List.set_cons_succ])
          refine wpAnyIn_ready (rs := [10]) (by kernel_rfl) (by simp) ?_
          refine AllReadyIn.cons (o := { dst := some 19, op := Op.pick (Operand.tmp 11) (Operand.const (Value.bool true)) (Operand.tmp 18), type := 4, pos := "lex.go:61", after := #[{ on := 2, ground := Ground.data }, { on := 9, ground := Ground.data }], guard := none }) rfl (fun K hK0 => ?_) AllReadyIn.nil
          have hK : Hid _ := hK0
          clear hK0
          go_simp
          refine hK.out _ _ ?_
          clear hK K
          (try simp only [List.setIfInBounds_toArray, List.set_cons_zero, List.set_cons_succ])
          refine wpAnyIn_done (by kernel_rfl) ?_ _
          gi_wp2
          exact ⟨FF.out.1, rfl, FF.out.2⟩
      have n3456 : Hid (G 4 #[true, true, true, true, true, true, true, false, false, false, false] { tmps := #[.func (.yield l) #[] #[], .pointer (some ⟨Bs, 0, none⟩), .pointer (some ⟨N, 0, none⟩), .pointer (some ⟨B, 0, none⟩), .bool true, .string s, .func (.func 26) #[] #[.pointer (some ⟨N + 1, 0, none⟩)], .agg #[.int .i64 (kd : Nat), .int .i64 (i : Nat), .int .i64 (j : Nat)], .bool true, .bool true, .bool false, .bool false, .func (.yield l) #[] #[], .agg #[.int .i64 (kd : Nat), .int .i64 (i : Nat), .int .i64 (j : Nat)], .agg #[.int .i64 (kd : Nat), .int .i64 (i : Nat), .int .i64 (j : Nat)], .string s, undef, undef, undef, undef], defers := [] } W.drew) := by
        show G _ _ _ _
        rw [← HG.out]
        refine wpAnyIn_ready (rs := [7]) (by kernel_rfl) (by simp) ?_
        refine AllReadyIn.cons (o := { dst := some 16, op := Op.call { callee := Callee.value (Operand.func 25), args := #[Operand.tmp 14, Operand.tmp 15], argTypes := #[31, 9] }, type := 9, pos := "lex.go:61", after := #[{ on := 5, ground := Ground.data }, { on := 6, ground := Ground.data }, { on := 2, ground := Ground.chain }, { on := 2, ground := Ground.guard }], guard := some (2, false) }) rfl (fun K hK0 => ?_) ?_
        · have hK : Hid _ := hK0
          clear hK0
          go_simp
          refine ⟨trivial, fun h => (by cases h), ?_⟩
          refine (CallsIn.inRound lq (callsIn_wide.2 (CU W.drew))).mono ?_
          rintro e W1 ⟨rfl, hg1⟩
          refine hK.out _ _ ?_
          clear hK K
          (try simp only [List.setIfInBounds_toArray, List.set_cons_zero, List.set_cons_succ])
          rw [HG.out]
          refine g_at (l' := #[true, true, true, true, true, true, true, true, false, false, false]) ?_ (by kernel_rfl)
          exact n34567.out W1 hg1
        exact AllReadyIn.nil
      have n3567 : Hid (∀ W1, IsGr W.drew W1 → G 4 #[true, true, true, true, false, true, true, true, false, false, false] { tmps := #[.func (.yield l) #[] #[], .pointer (some ⟨Bs, 0, none⟩), .pointer (some ⟨N, 0, none⟩), .pointer (some ⟨B, 0, none⟩), .bool true, .string s, .func (.func 26) #[] #[.pointer (some ⟨N + 1, 0, none⟩)], .agg #[.int .i64 (kd : Nat), .int .i64 (i : Nat), .int .i64 (j : Nat)], .bool true, .bool true, .bool false, .bool false, .func (.yield l) #[] #[], undef, .agg #[.int .i64 (kd : Nat), .int .i64 (i : Nat), .int .i64 (j : Nat)], .string s, .string tx, undef, undef, undef], defers := [] } W1) := by
        intro W1 hg1
        have y1 := cellk (cellk z1 (IsGr.refl W).drew) hg1
        have y2 := cellk (cellk z2 (IsGr.refl W).drew) hg1
        have y3 := cellk (cellk z3 (IsGr.refl W).drew) hg1
        have cy1 := cellk (cellk cyb (IsGr.refl W).drew) hg1
        rw [← HG.out]
        refine wpAnyIn_ready (rs := [4]) (by kernel_rfl) (by simp) ?_
        refine AllReadyIn.cons (o := { dst := some 13, op := Op.load 31 (Operand.tmp 3), type := 31, pos := "lex.go:61", after := #[{ on := 2, ground := Ground.guard }], guard := some (2, false) }) rfl (fun K hK0 => ?_) ?_
        · have hK : Hid _ := hK0
          clear hK0
          go_simp
          refine hK.out _ _ ?_
          clear hK K
          (try simp only [List.setIfInBounds_toArray, List.set_cons_zero, List.set_cons_succ])
          rw [HG.out]
          refine g_at (l' := #[true, true, true, true, true, true, true, true, false, false, false]) ?_ (by kernel_rfl)
          exact n34567.out W1 hg1
        exact AllReadyIn.nil
      have n4567 : Hid (∀ W1, IsGr W.drew W1 → G 4 #[true, true, true, false, true, true, true, true, false, false, false] { tmps := #[.func (.yield l) #[] #[], .pointer (some ⟨Bs, 0, none⟩), .pointer (some ⟨N, 0, none⟩), .pointer (some ⟨B, 0, none⟩), .bool true, .string s, .func (.func 26) #[] #[.pointer (some ⟨N + 1, 0, none⟩)], .agg #[.int .i64 (kd : Nat), .int .i64 (i : Nat), .int .i64 (j : Nat)], .bool true, .bool true, .bool false, .bool false, undef, .agg #[.int .i64 (kd : Nat), .int .i64 (i : Nat), .int .i64 (j : Nat)], .agg #[.int .i64 (kd : Nat), .int .i64 (i : Nat), .int .i64 (j : Nat)], .string s, .string tx, undef, undef, undef], defers := [] } W1) := by
        intro W1 hg1
        have y1 := cellk (cellk z1 (IsGr.refl W).drew) hg1
        have y2 := cellk (cellk z2 (IsGr.refl W).drew) hg1
        have y3 := cellk (cellk z3 (IsGr.refl W).drew) hg1
        have cy1 := cellk (cellk cyb (IsGr.refl W).drew) hg1
        rw [← HG.out]
        refine wpAnyIn_ready (rs := [3]) (by kernel_rfl) (by simp) ?_
        refine AllReadyIn.cons (o := { dst := some 12, op := Op.load 50 (Operand.tmp 2), type := 50, pos := "lex.go:61", after := #[{ on := 2, ground := Ground.guard }], guard := some (2, false) }) rfl (fun K hK0 => ?_) ?_
        · have hK : Hid _ := hK0
          clear hK0
          go_simp
          refine hK.out _ _ ?_
          clear hK K
          (try simp only [List.setIfInBounds_toArray, List.set_cons_zero, List.set_cons_succ])
          rw [HG.out]
          refine g_at (l' := #[true, true, true, true, true, true, true, true, false, false, false]) ?_ (by kernel_rfl)
          exact n34567.out W1 hg1
        exact AllReadyIn.nil
      have n345 : Hid (G 5 #[true, true, true, true, true, true, false, false, false, false, false] { tmps := #[.func (.yield l) #[] #[], .pointer (some ⟨Bs, 0, none⟩), .pointer (some ⟨N, 0, none⟩), .pointer (some ⟨B, 0, none⟩), .bool true, .string s, .func (.func 26) #[] #[.pointer (some ⟨N + 1, 0, none⟩)], .agg #[.int .i64 (kd : Nat), .int .i64 (i : Nat), .int .i64 (j : Nat)], .bool true, .bool true, .bool false, .bool false, .func (.yield l) #[] #[], .agg #[.int .i64 (kd : Nat), .int .i64 (i : Nat), .int .i64 (j : Nat)], .agg #[.int .i64 (kd : Nat), .int .i64 (i : Nat), .int .i64 (j : Nat)], undef, undef, undef, undef, undef], defers := [] } W.drew) := by
        show G _ _ _ _
        rw [← HG.out]
        refine wpAnyIn_ready (rs := [6]) (by kernel_rfl) (by simp) ?_
        refine AllReadyIn.cons (o := { dst := some 15, op := Op.load 9 (Operand.tmp 1), type := 9, pos := "lex.go:61", after := #[{ on := 2, ground := Ground.guard }], guard := some (2, false) }) rfl (fun K hK0 => ?_) ?_
        · have hK : Hid _ := hK0
          clear hK0
          go_simp
          refine hK.out _ _ ?_
          clear hK K
          (try simp only [List.setIfInBounds_toArray, List.set_cons_zero, List.set_cons_succ])
          rw [HG.out]
          refine g_at (l' := #[true, true, true, true, true, true, true, false, false, false, false]) ?_ (by kernel_rfl)
          exact n3456.out
        exact AllReadyIn.nil
      have n346 : Hid (G 5 #[true, true, true, true, true, false, true, false, false, false, false] { tmps := #[.func (.yield l) #[] #[], .pointer (some ⟨Bs, 0, none⟩), .pointer (some ⟨N, 0, none⟩), .pointer (some ⟨B, 0, none⟩), .bool true, .string s, .func (.func 26) #[] #[.pointer (some ⟨N + 1, 0, none⟩)], .agg #[.int .i64 (kd : Nat), .int .i64 (i : Nat), .int .i64 (j : Nat)], .bool true, .bool true, .bool false, .bool false, .func (.yield l) #[] #[], .agg #[.int .i64 (kd : Nat), .int .i64 (i : Nat), .int .i64 (j : Nat)], undef, .string s, undef, undef, undef, undef], defers := [] } W.drew) := by
        show G _ _ _ _
        rw [← HG.out]
        refine wpAnyIn_ready (rs := [5]) (by kernel_rfl) (by simp) ?_
        refine AllReadyIn.cons (o := { dst := some 14, op := Op.load 31 (Operand.tmp 3), type := 31, pos := "lex.go:61", after := #[{ on := 2, ground := Ground.guard }], guard := some (2, false) }) rfl (fun K hK0 => ?_) ?_
        · have hK : Hid _ := hK0
          clear hK0
          go_simp
          refine hK.out _ _ ?_
          clear hK K
          (try simp only [List.setIfInBounds_toArray, List.set_cons_zero, List.set_cons_succ])
          rw [HG.out]
          refine g_at (l' := #[true, true, true, true, true, true, true, false, false, false, false]) ?_ (by kernel_rfl)
          exact n3456.out
        exact AllReadyIn.nil
      have n356 : Hid (G 5 #[true, true, true, true, false, true, true, false, false, false, false] { tmps := #[.func (.yield l) #[] #[], .pointer (some ⟨Bs, 0, none⟩), .pointer (some ⟨N, 0, none⟩), .pointer (some ⟨B, 0, none⟩), .bool true, .string s, .func (.func 26) #[] #[.pointer (some ⟨N + 1, 0, none⟩)], .agg #[.int .i64 (kd : Nat), .int .i64 (i : Nat), .int .i64 (j : Nat)], .bool true, .bool true, .bool false, .bool false, .func (.yield l) #[] #[], undef, .agg #[.int .i64 (kd : Nat), .int .i64 (i : Nat), .int .i64 (j : Nat)], .string s, undef, undef, undef, undef], defers := [] } W.drew) := by
        show G _ _ _ _
        rw [← HG.out]
        refine wpAnyIn_ready (rs := [4, 7]) (by kernel_rfl) (by simp) ?_
        refine AllReadyIn.cons (o := { dst := some 13, op := Op.load 31 (Operand.tmp 3), type := 31, pos := "lex.go:61", after := #[{ on := 2, ground := Ground.guard }], guard := some (2, false) }) rfl (fun K hK0 => ?_) ?_
        · have hK : Hid _ := hK0
          clear hK0
          go_simp
          refine hK.out _ _ ?_
          clear hK K
          (try simp only [List.setIfInBounds_toArray, List.set_cons_zero, List.set_cons_succ])
          rw [HG.out]
          refine g_at (l' := #[true, true, true, true, true, true, true, false, false, false, false]) ?_ (by kernel_rfl)
          exact n3456.out
        refine AllReadyIn.cons (o := { dst := some 16, op := Op.call { callee := Callee.value (Operand.func 25), args := #[Operand.tmp 14, Operand.tmp 15], argTypes := #[31, 9] }, type := 9, pos := "lex.go:61", after := #[{ on := 5, ground := Ground.data }, { on := 6, ground := Ground.data }, { on := 2, ground := Ground.chain }, { on := 2, ground := Ground.guard }], guard := some (2, false) }) rfl (fun K hK0 => ?_) ?_
        · have hK : Hid _ := hK0
          clear hK0
          go_simp
          refine ⟨trivial, fun h => (by cases h), ?_⟩
          refine (CallsIn.inRound lq (callsIn_wide.2 (CU W.drew))).mono ?_
          rintro e W1 ⟨rfl, hg1⟩
          refine hK.out _ _ ?_
          clear hK K
          (try simp only [List.setIfInBounds_toArray, List.set_cons_zero, List.set_cons_succ])
          rw [HG.out]
          refine g_at (l' := #[true, true, true, true, false, true, true, true, false, false, false]) ?_ (by kernel_rfl)
          exact n3567.out W1 hg1
        exact AllReadyIn.nil
      have n456 : Hid (G 5 #[true, true, true, false, true, true, true, false, false, false, false] { tmps := #[.func (.yield l) #[] #[], .pointer (some ⟨Bs, 0, none⟩), .pointer (some ⟨N, 0, none⟩), .pointer (some ⟨B, 0, none⟩), .bool true, .string s, .func (.func 26) #[] #[.pointer (some ⟨N + 1, 0, none⟩)], .agg #[.int .i64 (kd : Nat), .int .i64 (i : Nat), .int .i64 (j : Nat)], .bool true, .bool true, .bool false, .bool false, undef, .agg #[.int .i64 (kd : Nat), .int .i64 (i : Nat), .int .i64 (j : Nat)], .agg #[.int .i64 (kd : Nat), .int .i64 (i : Nat), .int .i64 (j : Nat)], .string s, undef, undef, undef, undef], defers := [] } W.drew) := by
        show G _ _ _ _
        rw [← HG.out]
        refine wpAnyIn_ready (rs := [3, 7]) (by kernel_rfl) (by simp) ?_
        refine AllReadyIn.cons (o := { dst := some 12, op := Op.load 50 (Operand.tmp 2), type := 50, pos := "lex.go:61", after := #[{ on := 2, ground := Ground.guard }], guard := some (2, false) }) rfl (fun K hK0 => ?_) ?_
        · have hK : Hid _ := hK0
          clear hK0
          go_simp
          refine hK.out _ _ ?_
          clear hK K
          (try simp only [List.setIfInBounds_toArray, List.set_cons_zero, List.set_cons_succ])
          rw [HG.out]
          refine g_at (l' := #[true, true, true, true, true, true, true, false, false, false, false]) ?_ (by kernel_rfl)
          exact n3456.out
        refine AllReadyIn.cons (o := { dst := some 16, op := Op.call { callee := Callee.value (Operand.func 25), args := #[Operand.tmp 14, Operand.tmp 15], argTypes := #[31, 9] }, type := 9, pos := "lex.go:61", after := #[{ on := 5, ground := Ground.data }, { on := 6, ground := Ground.data }, { on := 2, ground := Ground.chain }, { on := 2, ground := Ground.guard }], guard := some (2, false) }) rfl (fun K hK0 => ?_) ?_
        · have hK : Hid _ := hK0
          clear hK0
          go_simp
          refine ⟨trivial, fun h => (by cases h), ?_⟩
          refine (CallsIn.inRound lq (callsIn_wide.2 (CU W.drew))).mono ?_
          rintro e W1 ⟨rfl, hg1⟩
          refine hK.out _ _ ?_
          clear hK K
          (try simp only [List.setIfInBounds_toArray, List.set_cons_zero, List.set_cons_succ])
          rw [HG.out]
          refine g_at (l' := #[true, true, true, false, true, true, true, true, false, false, false]) ?_ (by kernel_rfl)
          exact n4567.out W1 hg1
        exact AllReadyIn.nil
      have n567 : Hid (∀ W1, IsGr W.drew W1 → G 5 #[true, true, true, false, false, true, true, true, false, false, false] { tmps := #[.func (.yield l) #[] #[], .pointer (some ⟨Bs, 0, none⟩), .pointer (some ⟨N, 0, none⟩), .pointer (some ⟨B, 0, none⟩), .bool true, .string s, .func (.func 26) #[] #[.pointer (some ⟨N + 1, 0, none⟩)], .agg #[.int .i64 (kd : Nat), .int .i64 (i : Nat), .int .i64 (j : Nat)], .bool true, .bool true, .bool false, .bool false, undef, undef, .agg #[.int .i64 (kd : Nat), .int .i64 (i : Nat), .int .i64 (j : Nat)], .string s, .string tx, undef, undef, undef], defers := [] } W1) := by
        intro W1 hg1
        have y1 := cellk (cellk z1 (IsGr.refl W).drew) hg1
        have y2 := cellk (cellk z2 (IsGr.refl W).drew) hg1
        have y3 := cellk (cellk z3 (IsGr.refl W).drew) hg1
        have cy1 := cellk (cellk cyb (IsGr.refl W).drew) hg1
        rw [← HG.out]
        refine wpAnyIn_ready (rs := [3, 4]) (by kernel_rfl) (by simp) ?_
        refine AllReadyIn.cons (o := { dst := some 12, op := Op.load 50 (Operand.tmp 2), type := 50, pos := "lex.go:61", after := #[{ on := 2, ground := Ground.guard }], guard := some (2, false) }) rfl (fun K hK0 => ?_) ?_
        · have hK : Hid _ := hK0
          clear hK0
          go_simp
          refine hK.out _ _ ?_
          clear hK K
          (try simp only [List.setIfInBounds_toArray, List.set_cons_zero, List.set_cons_succ])
          rw [HG.out]
          refine g_at (l' := #[true, true, true, true, false, true, true, true, false, false, false]) ?_ (by kernel_rfl)
          exact n3567.out W1 hg1
        refine AllReadyIn.cons (o := { dst := some 13, op := Op.load 31 (Operand.tmp 3), type := 31, pos := "lex.go:61", after := #[{ on := 2, ground := Ground.guard }], guard := some (2, false) }) rfl (fun K hK0 => ?_) ?_
        · have hK : Hid _ := hK0
          clear hK0
          go_simp
          refine hK.out _ _ ?_
          clear hK K
          (try simp only [List.setIfInBounds_toArray, List.set_cons_zero, List.set_cons_succ])
          rw [HG.out]
          refine g_at (l' := #[true, true, true, false, true, true, true, true, false, false, false]) ?_ (by kernel_rfl)
          exact n4567.out W1 hg1
        exact AllReadyIn.nil
      have n34 : Hid (G 6 #[true, true, true, true, true, false, false, false, false, false, false] { tmps := #[.func (.yield l) #[] #[], .pointer (some ⟨Bs, 0, none⟩), .pointer (some ⟨N, 0, none⟩), .pointer (some ⟨B, 0, none⟩), .bool true, .string s, .func (.func 26) #[] #[.pointer (some ⟨N + 1, 0, none⟩)], .agg #[.int .i64 (kd : Nat), .int .i64 (i : Nat), .int .i64 (j : Nat)], .bool true, .bool true, .bool false, .bool false, .func (.yield l) #[] #[], .agg #[.int .i64 (kd : Nat), .int .i64 (i : Nat), .int .i64 (j : Nat)], undef, undef, undef, undef, undef, undef], defers := [] } W.drew) := by
        show G _ _ _ _
        rw [← HG.out]
        refine wpAnyIn_ready (rs := [5, 6]) (by kernel_rfl) (by simp) ?_
        refine AllReadyIn.cons (o := { dst := some 14, op := Op.load 31 (Operand.tmp 3), type := 31, pos := "lex.go:61", after := #[{ on := 2, ground := Ground.guard }], guard := some (2, false) }) rfl (fun K hK0 => ?_) ?_
        · have hK : Hid _ := hK0
          clear hK0
          go_simp
          refine hK.out _ _ ?_
          clear hK K
          (try simp only [List.setIfInBounds_toArray, List.set_cons_zero, List.set_cons_succ])
          rw [HG.out]
          refine g_at (l' := #[true, true, true, true, true, true, false, false, false, false, false]) ?_ (by kernel_rfl)
          exact n345.out
        refine AllReadyIn.cons (o := { dst := some 15, op := Op.load 9 (Operand.tmp 1), type := 9, pos := "lex.go:61", after := #[{ on := 2, ground := Ground.guard }], guard := some (2, false) }) rfl (fun K hK0 => ?_) ?_
        · have hK : Hid _ := hK0
          clear hK0
          go_simp
          refine hK.out _ _ ?_
          clear hK K
          (try simp only [List.setIfInBounds_toArray, List.set_cons_zero, List.set_cons_succ])
          rw [HG.out]
          refine g_at (l' := #[true, true, true, true, true, false, true, false, false, false, false]) ?_ (by kernel_rfl)
          exact n346.out
        exact AllReadyIn.nil
      have n35 : Hid (G 6 #[true, true, true, true, false, true, false, false, false, false, false] { tmps := #[.func (.yield l) #[] #[], .pointer (some ⟨Bs, 0, none⟩), .pointer (some ⟨N, 0, none⟩), .pointer (some ⟨B, 0, none⟩), .bool true, .string s, .func (.func 26) #[] #[.pointer (some ⟨N + 1, 0, none⟩)], .agg #[.int .i64 (kd : Nat), .int .i64 (i : Nat), .int .i64 (j : Nat)], .bool true, .bool true, .bool false, .bool false, .func (.yield l) #[] #[], undef, .agg #[.int .i64 (kd : Nat), .int .i64 (i : Nat), .int .i64 (j : Nat)], undef, undef, undef, undef, undef], defers := [] } W.drew) := by
        show G _ _ _ _
        rw [← HG.out]
        refine wpAnyIn_ready (rs := [4, 6]) (by kernel_rfl) (by simp) ?_
        refine AllReadyIn.cons (o := { dst := some 13, op := Op.load 31 (Operand.tmp 3), type := 31, pos := "lex.go:61", after := #[{ on := 2, ground := Ground.guard }], guard := some (2, false) }) rfl (fun K hK0 => ?_) ?_
        · have hK : Hid _ := hK0
          clear hK0
          go_simp
          refine hK.out _ _ ?_
          clear hK K
          (try simp only [List.setIfInBounds_toArray, List.set_cons_zero, List.set_cons_succ])
          rw [HG.out]
          refine g_at (l' := #[true, true, true, true, true, true, false, false, false, false, false]) ?_ (by kernel_rfl)
          exact n345.out
        refine AllReadyIn.cons (o := { dst := some 15, op := Op.load 9 (Operand.tmp 1), type := 9, pos := "lex.go:61", after := #[{ on := 2, ground := Ground.guard }], guard := some (2, false) }) rfl (fun K hK0 => ?_) ?_
        · have hK : Hid _ := hK0
          clear hK0
          go_simp
          refine hK.out _ _ ?_
          clear hK K
          (try simp only [List.setIfInBounds_toArray, List.set_cons_zero, List.set_cons_succ])
          rw [HG.out]
          refine g_at (l' := #[true, true, true, true, false, true, true, false, false, false, false]) ?_ (by kernel_rfl)
          exact n356.out
        exact AllReadyIn.nil
      have n36 : Hid (G 6 #[true, true, true, true, false, false, true, false, false, false, false] { tmps := #[.func (.yield l) #[] #[], .pointer (some ⟨Bs, 0, none⟩), .pointer (some ⟨N, 0, none⟩), .pointer (some ⟨B, 0, none⟩), .bool true, .string s, .func (.func 26) #[] #[.pointer (some ⟨N + 1, 0, none⟩)], .agg #[.int .i64 (kd : Nat), .int .i64 (i : Nat), .int .i64 (j : Nat)], .bool true, .bool true, .bool false, .bool false, .func (.yield l) #[] #[], undef, undef, .string s, undef, undef, undef, undef], defers := [] } W.drew) := by
        show G _ _ _ _
        rw [← HG.out]
        refine wpAnyIn_ready (rs := [4, 5]) (by kernel_rfl) (by simp) ?_
        refine AllReadyIn.cons (o := { dst := some 13, op := Op.load 31 (Operand.tmp 3), type := 31, pos := "lex.go:61", after := #[{ on := 2, ground := Ground.guard }], guard := some (2, false) }) rfl (fun K hK0 => ?_) ?_
        · have hK : Hid _ := hK0
          clear hK0
          go_simp
          refine hK.out _ _ ?_
          clear hK K
          (try simp only [List.setIfInBounds_toArray, List.set_cons_zero, List.set_cons_succ])
          rw [HG.out]
          refine g_at (l' := #[true, true, true, true, true, false, true, false, false, false, false]) ?_ (by kernel_rfl)
          exact n346.out
        refine AllReadyIn.cons (o := { dst := some 14, op := Op.load 31 (Operand.tmp 3), type := 31, pos := "lex.go:61", after := #[{ on := 2, ground := Ground.guard }], guard := some (2, false) }) rfl (fun K hK0 => ?_) ?_
        · have hK : Hid _ := hK0
          clear hK0
          go_simp
          refine hK.out _ _ ?_
          clear hK K
          (try simp only [List.setIfInBounds_toArray, List.set_cons_zero, List.set_cons_succ])
          rw [HG.out]
          refine g_at (l' := #[true, true, true, true, false, true, true, false, false, false, false]) ?_ (by kernel_rfl)
          exact n356.out
        exact AllReadyIn.nil
      have n45 : Hid (G 6 #[true, true, true, false, true, true, false, false, false, false, false] { tmps := #[.func (.yield l) #[] #[], .pointer (some ⟨Bs, 0, none⟩), .pointer (some ⟨N, 0, none⟩), .pointer (some ⟨B, 0, none⟩), .bool true, .string s, .func (.func 26) #[] #[.pointer (some ⟨N + 1, 0, none⟩)], .agg #[.int .i64 (kd : Nat), .int .i64 (i : Nat), .int .i64 (j : Nat)], .bool true, .bool true, .bool false, .bool false, undef, .agg #[.int .i64 (kd : Nat), .int .i64 (i : Nat), .int .i64 (j : Nat)], .agg #[.int .i64 (kd : Nat), .int .i64 (i : Nat), .int .i64 (j : Nat)], undef, undef, undef, undef, undef], defers := [] } W.drew) := by
        show G _ _ _ _
        rw [← HG.out]
        refine wpAnyIn_ready (rs := [3, 6]) (by kernel_rfl) (by simp) ?_
        refine AllReadyIn.cons (o := { dst := some 12, op := Op.load 50 (Operand.tmp 2), type := 50, pos := "lex.go:61", after := #[{ on := 2, ground := Ground.guard }], guard := some (2, false) }) rfl (fun K hK0 => ?_) ?_
        · have hK : Hid _ := hK0
          clear hK0
          go_simp
          refine hK.out _ _ ?_
          clear hK K
          (try simp only [List.setIfInBounds_toArray, List.set_cons_zero, List.set_cons_succ])
          rw [HG.out]
          refine g_at (l' := #[true, true, true, true, true, true, false, false, false, false, false]) ?_ (by kernel_rfl)
          exact n345.out
        refine AllReadyIn.cons (o := { dst := some 15, op := Op.load 9 (Operand.tmp 1), type := 9, pos := "lex.go:61", after := #[{ on := 2, ground := Ground.guard }], guard := some (2, false) }) rfl (fun K hK0 => ?_) ?_
        · have hK : Hid _ := hK0
          clear hK0
          go_simp
          refine hK.out _ _ ?_
          clear hK K
          (try simp only [List.setIfInBounds_toArray, List.set_cons_zero, List.set_cons_succ])
          rw [HG.out]
          refine g_at (l' := #[true, true, true, false, true, true, true, false, false, false, false]) ?_ (by kernel_rfl)
          exact n456.out
        exact AllReadyIn.nil
      have n46 : Hid (G 6 #[true, true, true, false, true, false, true, false, false, false, false] { tmps := #[.func (.yield l) #[] #[], .pointer (some ⟨Bs, 0, none⟩), .pointer (some ⟨N, 0, none⟩), .pointer (some ⟨B, 0, none⟩), .bool true, .string s, .func (.func 26) #[] #[.pointer (some ⟨N + 1, 0, none⟩)], .agg #[.int .i64 (kd : Nat), .int .i64 (i : Nat), .int .i64 (j : Nat)], .bool true, .bool true, .bool false, .bool false, undef, .agg #[.int .i64 (kd : Nat), .int .i64 (i : Nat), .int .i64 (j : Nat)], undef, .string s, undef, undef, undef, undef], defers := [] } W.drew) := by
        show G _ _ _ _
        rw [← HG.out]
        refine wpAnyIn_ready (rs := [3, 5]) (by kernel_rfl) (by simp) ?_
        refine AllReadyIn.cons (o := { dst := some 12, op := Op.load 50 (Operand.tmp 2), type := 50, pos := "lex.go:61", after := #[{ on := 2, ground := Ground.guard }], guard := some (2, false) }) rfl (fun K hK0 => ?_) ?_
        · have hK : Hid _ := hK0
          clear hK0
          go_simp
          refine hK.out _ _ ?_
          clear hK K
          (try simp only [List.setIfInBounds_toArray, List.set_cons_zero, List.set_cons_succ])
          rw [HG.out]
          refine g_at (l' := #[true, true, true, true, true, false, true, false, false, false, false]) ?_ (by kernel_rfl)
          exact n346.out
        refine AllReadyIn.cons (o := { dst := some 14, op := Op.load 31 (Operand.tmp 3), type := 31, pos := "lex.go:61", after := #[{ on := 2, ground := Ground.guard }], guard := some (2, false) }) rfl (fun K hK0 => ?_) ?_
        · have hK : Hid _ := hK0
          clear hK0
          go_simp
          refine hK.out _ _ ?_
          clear hK K
          (try simp only [List.setIfInBounds_toArray, List.set_cons_zero, List.set_cons_succ])
          rw [HG.out]
          refine g_at (l' := #[true, true, true, false, true, true, true, false, false, false, false]) ?_ (by kernel_rfl)
          exact n456.out
        exact AllReadyIn.nil
      have n56 : Hid (G 6 #[true, true, true, false, false, true, true, false, false, false, false] { tmps := #[.func (.yield l) #[] #[], .pointer (some ⟨Bs, 0, none⟩), .pointer (some ⟨N, 0, none⟩), .pointer (some ⟨B, 0, none⟩), .bool true, .string s, .func (.func 26) #[] #[.pointer (some ⟨N + 1, 0, none⟩)], .agg #[.int .i64 (kd : Nat), .int .i64 (i : Nat), .int .i64 (j : Nat)], .bool true, .bool true, .bool false, .bool false, undef, undef, .agg #[.int .i64 (kd : Nat), .int .i64 (i : Nat), .int .i64 (j : Nat)], .string s, undef, undef, undef, undef], defers := [] } W.drew) := by
        show G _ _ _ _
        rw [← HG.out]
        refine wpAnyIn_ready (rs := [3, 4, 7]) (by kernel_rfl) (by simp) ?_
        refine AllReadyIn.cons (o := { dst := some 12, op := Op.load 50 (Operand.tmp 2), type := 50, pos := "lex.go:61", after := #[{ on := 2, ground := Ground.guard }], guard := some (2, false) }) rfl (fun K hK0 => ?_) ?_
        · have hK : Hid _ := hK0
          clear hK0
          go_simp
          refine hK.out _ _ ?_
          clear hK K
          (try simp only [List.setIfInBounds_toArray, List.set_cons_zero, List.set_cons_succ])
          rw [HG.out]
          refine g_at (l' := #[true, true, true, true, false, true, true, false, false, false, false]) ?_ (by kernel_rfl)
          exact n356.out
        refine AllReadyIn.cons (o := { dst := some 13, op := Op.load 31 (Operand.tmp 3), type := 31, pos := "lex.go:61", after := #[{ on := 2, ground := Ground.guard }], guard := some (2, false) }) rfl (fun K hK0 => ?_) ?_
        · have hK : Hid _ := hK0
          clear hK0
          go_simp
          refine hK.out _ _ ?_
          clear hK K
          (try simp only [List.setIfInBounds_toArray, List.set_cons_zero, List.set_cons_succ])
          rw [HG.out]
          refine g_at (l' := #[true, true, true, false, true, true, true, false, false, false, false]) ?_ (by kernel_rfl)
          exact n456.out
        refine AllReadyIn.cons (o := { dst := some 16, op := Op.call { callee := Callee.value (Operand.func 25), args := #[Operand.tmp 14, Operand.tmp 15], argTypes := #[31, 9] }, type := 9, pos := "lex.go:61", after := #[{ on := 5, ground := Ground.data }, { on := 6, ground := Ground.data }, { on := 2, ground := Ground.chain }, { on := 2, ground := Ground.guard }], guard := some (2, false) }) rfl (fun K hK0 => ?_) ?_
        · have hK : Hid _ := hK0
          clear hK0
          go_simp
          refine ⟨trivial, fun h => (by cases h), ?_⟩
          refine (CallsIn.inRound lq (callsIn_wide.2 (CU W.drew))).mono ?_
          rintro e W1 ⟨rfl, hg1⟩
          refine hK.out _ _ ?_
          clear hK K
          (try simp only [List.setIfInBounds_toArray, List.set_cons_zero, List.set_cons_succ])
          rw [HG.out]
          refine g_at (l' := #[true, true, true, false, false, true, true, true, false, false, false]) ?_ (by kernel_rfl)
          exact n567.out W1 hg1
        exact AllReadyIn.nil
      have n3 : Hid (G 7 #[true, true, true, true, false, false, false, false, false, false, false] { tmps := #[.func (.yield l) #[] #[], .pointer (some ⟨Bs, 0, none⟩), .pointer (some ⟨N, 0, none⟩), .pointer (some ⟨B, 0, none⟩), .bool true, .string s, .func (.func 26) #[] #[.pointer (some ⟨N + 1, 0, none⟩)], .agg #[.int .i64 (kd : Nat), .int .i64 (i : Nat), .int .i64 (j : Nat)], .bool true, .bool true, .bool false, .bool false, .func (.yield l) #[] #[], undef, undef, undef, undef, undef, undef, undef], defers := [] } W.drew) := by
        show G _ _ _ _
        rw [← HG.out]
        refine wpAnyIn_ready (rs := [4, 5, 6]) (by kernel_rfl) (by simp) ?_
        refine AllReadyIn.cons (o := { dst := some 13, op := Op.load 31 (Operand.tmp 3), type := 31, pos := "lex.go:61", after := #[{ on := 2, ground := Ground.guard }], guard := some (2, false) }) rfl (fun K hK0 => ?_) ?_
        · have hK : Hid _ := hK0
          clear hK0
          go_simp
          refine hK.out _ _ ?_
          clear hK K
          (try simp only [List.setIfInBounds_toArray, List.set_cons_zero, List.set_cons_succ])
          rw [HG.out]
          refine g_at (l' := #[true, true, true, true, true, false, false, false, false, false, false]) ?_ (by kernel_rfl)
          exact n34.out
        refine AllReadyIn.cons (o := { dst := some 14, op := Op.load 31 (Operand.tmp 3), type := 31, pos := "lex.go:61", after := #[{ on := 2, ground := Ground.guard }], guard := some (2, false) }) rfl (fun K hK0 => ?_) ?_
        · have hK : Hid _ := hK0
          clear hK0
          go_simp
          refine hK.out _ _ ?_
          clear hK K
          (try simp only [List.setIfInBounds_toArray, List.set_cons_zero, List.set_cons_succ])
          rw [HG.out]
          refine g_at (l' := #[true, true, true, true, false, true, false, false, false, false, false]) ?_ (by kernel_rfl)
          exact n35.out
        refine AllReadyIn.cons (o := { dst := some 15, op := Op.load 9 (Operand.tmp 1), type := 9, pos := "lex.go:61", after := #[{ on := 2, ground := Ground.guard }], guard := some (2, false) }) rfl (fun K hK0 => ?_) ?_
        · have hK : Hid _ := hK0
          clear hK0
          go_simp
          refine hK.out _ _ ?_
          clear hK K
          (try simp only [List.setIfInBounds_toArray, List.set_cons_zero, List.set_cons_succ])
          rw [HG.out]
          refine g_at (l' := #[true, true, true, true, false, false, true, false, false, false, false]) ?_ (by kernel_rfl)
          exact n36.out
        exact AllReadyIn.nil
      have n4 : Hid (G 7 #[true, true, true, false, true, false, false, false, false, false, false] { tmps := #[.func (.yield l) #[] #[], .pointer (some ⟨Bs, 0, none⟩), .pointer (some ⟨N, 0, none⟩), .pointer (some ⟨B, 0, none⟩), .bool true, .string s, .func (.func 26) #[] #[.pointer (some ⟨N + 1, 0, none⟩)], .agg #[.int .i64 (kd : Nat), .int .i64 (i : Nat), .int .i64 (j : Nat)], .bool true, .bool true, .bool false, .bool false, undef, .agg #[.int .i64 (kd : Nat), .int .i64 (i : Nat), .int .i64 (j : Nat)], undef, undef, undef, undef, undef, undef], defers := [] } W.drew) := by
        show G _ _ _ _
        rw [← HG.out]
        refine wpAnyIn_ready (rs := [3, 5, 6]) (by kernel_rfl) (by simp) ?_
        refine AllReadyIn.cons (o := { dst := some 12, op := Op.load 50 (Operand.tmp 2), type := 50, pos := "lex.go:61", after := #[{ on := 2, ground := Ground.guard }], guard := some (2, false) }) rfl (fun K hK0 => ?_) ?_
        · have hK : Hid _ := hK0
          clear hK0
          go_simp
          refine hK.out _ _ ?_
          clear hK K
          (try simp only [List.setIfInBounds_toArray, List.set_cons_zero, List.set_cons_succ])
          rw [HG.out]
          refine g_at (l' := #[true, true, true, true, true, false, false, false, false, false, false]) ?_ (by kernel_rfl)
          exact n34.out
        refine AllReadyIn.cons (o := { dst := some 14, op := Op.load 31 (Operand.tmp 3), type := 31, pos := "lex.go:61", after := #[{ on := 2, ground := Ground.guard }], guard := some (2, false) }) rfl (fun K hK0 => ?_) ?_
        · have hK : Hid _ := hK0
          clear hK0
          go_simp
          refine hK.out _ _ ?_
          clear hK K
          (try simp only [List.setIfInBounds_toArray, List.set_cons_zero, List.set_cons_succ])
          rw [HG.out]
          refine g_at (l' := #[true, true, true, false, true, true, false, false, false, false, false]) ?_ (by kernel_rfl)
          exact n45.out
        refine AllReadyIn.cons (o := { dst := some 15, op := Op.load 9 (Operand.tmp 1), type := 9, pos := "lex.go:61", after := #[{ on := 2, ground := Ground.guard }], guard := some (2, false) }) rfl (fun K hK0 => ?_) ?_
        · have hK : Hid _ := hK0
          clear hK0
          go_simp
          refine hK.out _ _ ?_
          clear hK K
          (try simp only [List.setIfInBounds_toArray, List.set_cons_zero, List.set_cons_succ])
          rw [HG.out]
          refine g_at (l' := #[true, true, true, false, true, false, true, false, false, false, false]) ?_ (by kernel_rfl)
          exact n46.out
        exact AllReadyIn.nil
      have n5 : Hid (G 7 #[true, true, true, false, false, true, false, false, false, false, false] { tmps := #[.func (.yield l) #[] #[], .pointer (some ⟨Bs, 0, none⟩), .pointer (some ⟨N, 0, none⟩), .pointer (some ⟨B, 0, none⟩), .bool true, .string s, .func (.func 26) #[] #[.pointer (some ⟨N + 1, 0, none⟩)], .agg #[.int .i64 (kd : Nat), .int .i64 (i : Nat), .int .i64 (j : Nat)], .bool true, .bool true, .bool false, .bool false, undef, undef, .agg #[.int .i64 (kd : Nat), .int .i64 (i : Nat), .int .i64 (j : Nat)], undef, undef, undef, undef, undef], defers := [] } W.drew) := by
        show G _ _ _ _
        rw [← HG.out]
        refine wpAnyIn_ready (rs := [3, 4, 6]) (by kernel_rfl) (by simp) ?_
        refine AllReadyIn.cons (o := { dst := some 12, op := Op.load 50 (Operand.tmp 2), type := 50, pos := "lex.go:61", after := #[{ on := 2, ground := Ground.guard }], guard := some (2, false) }) rfl (fun K hK0 => ?_) ?_
        · have hK : Hid _ := hK0
          clear hK0
          go_simp
          refine hK.out _ _ ?_
          clear hK K
          (try simp only [List.setIfInBounds_toArray, List.set_cons_zero, List.set_cons_succ])
          rw [HG.out]
          refine g_at (l' := #[true, true, true, true, false, true, false, false, false, false, false]) ?_ (by kernel_rfl)
          exact n35.out
        refine AllReadyIn.cons (o := { dst := some 13, op := Op.load 31 (Operand.tmp 3), type := 31, pos := "lex.go:61", after := #[{ on := 2, ground := Ground.guard }], guard := some (2, false) }) rfl (fun K hK0 => ?_) ?_
        · have hK : Hid _ := hK0
          clear hK0
          go_simp
          refine hK.out _ _ ?_
          clear hK K
          (try simp only [List.setIfInBounds_toArray, List.set_cons_zero, List.set_cons_succ])
          rw [HG.out]
          refine g_at (l' := #[true, true, true, false, true, true, false, false, false, false, false]) ?_ (by kernel_rfl)
          exact n45.out
        refine AllReadyIn.cons (o := { dst := some 15, op := Op.load 9 (Operand.tmp 1), type := 9, pos := "lex.go:61", after := #[{ on := 2, ground := Ground.guard }], guard := some (2, false) }) rfl (fun K hK0 => ?_) ?_
        · have hK : Hid _ := hK0
          clear hK0
          go_simp
          refine hK.out _ _ ?_
          clear hK K
          (try simp only [List.setIfInBounds_toArray, List.set_cons_zero, List.set_cons_succ])
          rw [HG.out]
          refine g_at (l' := #[true, true, true, false, false, true, true, false, false, false, false]) ?_ (by kernel_rfl)
          exact n56.out
        exact AllReadyIn.nil
      have n6 : Hid (G 7 #[true, true, true, false, false, false, true, false, false, false, false] { tmps := #[.func (.yield l) #[] #[], .pointer (some ⟨Bs, 0, none⟩), .pointer (some ⟨N, 0, none⟩), .pointer (some ⟨B, 0, none⟩), .bool true, .string s, .func (.func 26) #[] #[.pointer (some ⟨N + 1, 0, none⟩)], .agg #[.int .i64 (kd : Nat), .int .i64 (i : Nat), .int .i64 (j : Nat)], .bool true, .bool true, .bool false, .bool false, undef, undef, undef, .string s, undef, undef, undef, undef], defers := [] } W.drew) := by
        show G _ _ _ _
        rw [← HG.out]
        refine wpAnyIn_ready (rs := [3, 4, 5]) (by kernel_rfl) (by simp) ?_
        refine AllReadyIn.cons (o := { dst := some 12, op := Op.load 50 (Operand.tmp 2), type := 50, pos := "lex.go:61", after := #[{ on := 2, ground := Ground.guard }], guard := some (2, false) }) rfl (fun K hK0 => ?_) ?_
        · have hK : Hid _ := hK0
          clear hK0
          go_simp
          refine hK.out _ _ ?_
          clear hK K
          (try simp only [List.setIfInBounds_toArray, List.set_cons_zero, List.set_cons_succ])
          rw [HG.out]
          refine g_at (l' := #[true, true, true, true, false, false, true, false, false, false, false]) ?_ (by kernel_rfl)
          exact n36.out
        refine AllReadyIn.cons (o := { dst := some 13, op := Op.load 31 (Operand.tmp 3), type := 31, pos := "lex.go:61", after := #[{ on := 2, ground := Ground.guard }], guard := some (2, false) }) rfl (fun K hK0 => ?_) ?_
        · have hK : Hid _ := hK0
          clear hK0
          go_simp
          refine hK.out _ _ ?_
          clear hK K
          (try simp only [List.setIfInBounds_toArray, List.set_cons_zero, List.set_cons_succ])
          rw [HG.out]
          refine g_at (l' := #[true, true, true, false, true, false, true, false, false, false, false]) ?_ (by kernel_rfl)
          exact n46.out
        refine AllReadyIn.cons (o := { dst := some 14, op := Op.load 31 (Operand.tmp 3), type := 31, pos := "lex.go:61", after := #[{ on := 2, ground := Ground.guard }], guard := some (2, false) }) rfl (fun K hK0 => ?_) ?_
        · have hK : Hid _ := hK0
          clear hK0
          go_simp
          refine hK.out _ _ ?_
          clear hK K
          (try simp only [List.setIfInBounds_toArray, List.set_cons_zero, List.set_cons_succ])
          rw [HG.out]
          refine g_at (l' := #[true, true, true, false, false, true, true, false, false, false, false]) ?_ (by kernel_rfl)
          exact n56.out
        exact AllReadyIn.nil
      have n : Hid (G 8 #[true, true, true, false, false, false, false, false, false, false, false] { tmps := #[.func (.yield l) #[] #[], .pointer (some ⟨Bs, 0, none⟩), .pointer (some ⟨N, 0, none⟩), .pointer (some ⟨B, 0, none⟩), .bool true, .string s, .func (.func 26) #[] #[.pointer (some ⟨N + 1, 0, none⟩)], .agg #[.int .i64 (kd : Nat), .int .i64 (i : Nat), .int .i64 (j : Nat)], .bool true, .bool true, .bool false, .bool false, undef, undef, undef, undef, undef, undef, undef, undef], defers := [] } W.drew) := by
        show G _ _ _ _
        rw [← HG.out]
        refine wpAnyIn_ready (rs := [3, 4, 5, 6]) (by kernel_rfl) (by simp) ?_
        refine AllReadyIn.cons (o := { dst := some 12, op := Op.load 50 (Operand.tmp 2), type := 50, pos := "lex.go:61", after := #[{ on := 2, ground := Ground.guard }], guard := some (2, false) }) rfl (fun K hK0 => ?_) ?_
        · have hK : Hid _ := hK0
          clear hK0
          go_simp
          refine hK.out _ _ ?_
          clear hK K
          (try simp only [List.setIfInBounds_toArray, List.set_cons_zero, List.set_cons_succ])
          rw [HG.out]
          refine g_at (l' := #[true, true, true, true, false, false, false, false, false, false, false]) ?_ (by kernel_rfl)
          exact n3.out
        refine AllReadyIn.cons (o := { dst := some 13, op := Op.load 31 (Operand.tmp 3), type := 31, pos := "lex.go:61", after := #[{ on := 2, ground := Ground.guard }], guard := some (2, false) }) rfl (fun K hK0 => ?_) ?_
        · have hK : Hid _ := hK0
          clear hK0
          go_simp
          refine hK.out _ _ ?_
          clear hK K
          (try simp only [List.setIfInBounds_toArray, List.set_cons_zero, List.set_cons_succ])
          rw [HG.out]
          refine g_at (l' := #[true, true, true, false, true, false, false, false, false, false, false]) ?_ (by kernel_rfl)
          exact n4.out
        refine AllReadyIn.cons (o := { dst := some 14, op := Op.load 31 (Operand.tmp 3), type := 31, pos := "lex.go:61", after := #[{ on := 2, ground := Ground.guard }], guard := some (2, false) }) rfl (fun K hK0 => ?_) ?_
        · have hK : Hid _ := hK0
          clear hK0
          go_simp
          refine hK.out _ _ ?_
          clear hK K
          (try simp only [List.setIfInBounds_toArray, List.set_cons_zero, List.set_cons_succ])
          rw [HG.out]
          refine g_at (l' := #[true, true, true, false, false, true, false, false, false, false, false]) ?_ (by kernel_rfl)
          exact n5.out
        refine AllReadyIn.cons (o := { dst := some 15, op := Op.load 9 (Operand.tmp 1), type := 9, pos := "lex.go:61", after := #[{ on := 2, ground := Ground.guard }], guard := some (2, false) }) rfl (fun K hK0 => ?_) ?_
        · have hK : Hid _ := hK0
          clear hK0
          go_simp
          refine hK.out _ _ ?_
          clear hK K
          (try simp only [List.setIfInBounds_toArray, List.set_cons_zero, List.set_cons_succ])
          rw [HG.out]
          refine g_at (l' := #[true, true, true, false, false, false, true, false, false, false, false]) ?_ (by kernel_rfl)
          exact n6.out
        exact AllReadyIn.nil
      rw [← HG.out]
      refine wpAnyIn_ready (rs := [0]) (by kernel_rfl) (by simp) ?_
      refine AllReadyIn.cons (o := { dst := some 9, op := Op.move (Operand.tmp 4), type := 4, pos := "lex.go:61", after := #[], guard := none }) rfl (fun K hK0 => ?_) AllReadyIn.nil
      have hK : Hid _ := hK0
      clear hK0
      go_simp
      refine hK.out _ _ ?_
      clear hK K
      (try simp only [List.setIfInBounds_toArray, List.set_cons_zero, List.set_cons_succ])
      refine wpAnyIn_ready (rs := [1]) (by kernel_rfl) (by simp) ?_
      refine AllReadyIn.cons (o := { dst := some 10, op := Op.unOp UnOp.not 4 (Operand.tmp 9), type := 4, pos := "lex.go:61", after := #[{ on := 0, ground := Ground.data }], guard := none }) rfl (fun K hK0 => ?_) AllReadyIn.nil
      have hK : Hid _ := hK0
      clear hK0
      go_simp
      refine hK.out _ _ ?_
      clear hK K
      (try simp only [List.setIfInBounds_toArray, List.set_cons_zero, List.set_cons_succ])
      refine wpAnyIn_ready (rs := [2]) (by kernel_rfl) (by simp) ?_
      refine AllReadyIn.cons (o := { dst := some 11, op := Op.move (Operand.tmp 10), type := 4, pos := "lex.go:61", after := #[{ on := 1, ground := Ground.data }], guard := none }) rfl (fun K hK0 => ?_) AllReadyIn.nil
      have hK : Hid _ := hK0
      clear hK0
      go_simp
      refine hK.out _ _ ?_
      clear hK K
      (try simp only [List.setIfInBounds_toArray, List.set_cons_zero, List.set_cons_succ])
      rw [HG.out]
      refine g_at (l' := #[true, true, true, false, false, false, false, false, false, false, false]) ?_ (by kernel_rfl)
      exact n.out
end Go.Proofs.Ytpgcfnpnpmpkeaa
