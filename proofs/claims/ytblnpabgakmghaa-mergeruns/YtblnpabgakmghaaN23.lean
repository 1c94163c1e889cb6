/- Contracts of package merge over the loaded program: Clone, Runs. -/
import Derived.Test.YtblnpabgakmghaaN9
import Derived.Test.YtblnpabgakmghaaN11
import Derived.Test.YtblnpabgakmghaaS10
namespace Go.Proofs.Ytblnpabgakmghaa
open Go.RowKit Go.Shelf
attribute [local go_sem] Oper.semAt_some
theorem nilL (ad : Addr) (n c : Nat) (w : World) : (binOp BinOp.eql 22 (.slice (some ad) n c) (.slice none 0 0)).run Try.prog w = .ok (.bool false) w := by
  first | rfl | simp [binOp, run_underlying Try.underlying22, go_sem]
set_option maxRecDepth 20000 in set_option maxHeartbeats 2000000 in
theorem Clone_any (g o n c : Nat) (l : List Int) (w : World) (h : Rd w (.slice (some ⟨g, o, none⟩) n c) l) (hn : n ≤ 1000) : Calls Try.prog 29 #[.slice (some ⟨g, o, none⟩) n c] w fun e w' => ∃ v', e = .returned v' ∧ Lst w' w.heap.size v' l ∧ Below w.heap.size w w' := by
  have hX0 := Lst.made0 w
  have hR0 := h.gr ((IsGr.refl w).alloc (.cells #[] 3))
  have HL : Hid (n = l.length) := h.len.1
  have hnl := fun w => nilL ⟨g, o, none⟩ n c w
  clear h
  go_enter Try.func29, Try.ntmps29
  go_wp2_with (at_builtin; refine wpList_append_all rfl _ _ rfl w.heap.size (.slice (some ⟨w.heap.size, 0, none⟩) 0 0) (.slice (some ⟨g, o, none⟩) n c) [] l rfl rfl hX0 hR0 (zn_some _ _ _) (by have := HL.out; simp; omega) (by simp) ?_; intro v1 w1 h1 g1)
  rw [List.nil_append] at h1
  go_ret
  exact ⟨v1, rfl, h1, ((IsGr.refl w).alloc (.cells #[] 3)).below.grown g1 (by simp) (fun k e => by cases e; exact Nat.le_refl _)⟩
/-- What Runs leaves: its own list, and the two boxes. -/
def RnH (fs : Nat) (base : Nat) (L : List Int) (Bo Bs : Nat) (W : World) : Prop :=
  ∃ a c, (W.cell? ⟨Bo, 0, none⟩ = some (.slice a L.length c) ∧ W.cell? ⟨Bs, 0, none⟩ = some (.func (.func fs) #[] #[])) ∧ Lst W base (.slice a L.length c) L
set_option maxRecDepth 20000 in set_option maxHeartbeats 2000000 in
theorem Runs_any (fs : Nat) (v : Value) (L : List Int) (w : World) (h : Rd w v L) (hz : Zn v) (hn : L.length ≤ 1000) : Calls Try.prog 16 #[v, .func (.func fs) #[] #[]] w fun e w' => ∃ Bo Bs, e = .returned (.func (.func 27) #[] #[.pointer (some ⟨Bo, 0, none⟩), .pointer (some ⟨Bs, 0, none⟩)]) ∧ RnH fs w.heap.size L Bo Bs w' ∧ Below w.heap.size w w' ∧ w.heap.size ≤ Bo ∧ w.heap.size ≤ Bs := by
  have hR0 := h.gr ((IsGr.refl w).alloc (.cells #[.func (.func fs) #[] #[]] 34))
  have cb := cell_new w (.func (.func fs) #[] #[]) 34
  have HZ : Hid (Zn v) := hz
  clear h hz
  go_enter Try.func16, Try.ntmps16
  go_wp2_with (at_builtin; refine wpList_append_all rfl _ _ rfl w.heap.size (.slice none 0 0) v [] L rfl rfl (Lst.nil _ _) hR0 HZ.out (by simp; omega) (by simp) ?_; intro v1 w1 h1 g1; rw [List.nil_append] at h1; obtain ⟨a1, c1, rfl, -⟩ := h1.form)
  go_ret
  have B1 : Below w.heap.size w w1 := ((IsGr.refl w).alloc (.cells #[.func (.func fs) #[] #[]] 34)).below.grown g1 (by simp) (fun k e => by cases e)
  have hg : IsGr w1 (w1.alloc (.cells #[.slice a1 L.length c1] 22)) := (IsGr.refl w1).alloc _
  have cs : w1.cell? ⟨w.heap.size, 0, none⟩ = some (.func (.func fs) #[] #[]) := g1.cell cb.1 (by simp [Value.ownBlock])
  exact ⟨w1.heap.size, w.heap.size, rfl, ⟨a1, c1, ⟨(cell_new w1 _ _).1, cellk cs hg⟩, h1.gr hg⟩, B1.trans (hg.below.mono B1.size), B1.size, Nat.le_refl _⟩
/-- What lies in a piece. -/
def pcL (L : List Int) (x : Nat × Nat) : List Int := (L.drop x.1).take x.2
/-- What the loop in Runs stands on. -/
def RnP (fs : Nat) (a : Option Addr) (g n c N l : Nat) (L : List Int) (W : World) : Prop :=
  W.cell? ⟨N, 0, none⟩ = some (.func (.yield l) #[] #[]) ∧ PcH0 a g 0 n c (N + 1) (N + 2) fs L (fun _ => True) W
theorem PcH0.gr {fs : Nat} {a : Option Addr} {g n c B C : Nat} {L : List Int} {A D : World} (h : PcH0 a g 0 n c B C fs L (fun _ => True) A) (hg : IsGr A D) : PcH0 a g 0 n c B C fs L (fun _ => True) D :=
  ⟨cellk h.list hg, cellk h.same hg, fun i hi => cellk (h.cells i hi) hg, trivial⟩
theorem PcH0.kp {fs : Nat} {a : Option Addr} {g n c N : Nat} {L : List Int} {A D : World} (h : PcH0 a g 0 n c (N + 1) (N + 2) fs L (fun _ => True) A) (hg : KpZ [N, N + 1, N + 2, g] A D) : PcH0 a g 0 n c (N + 1) (N + 2) fs L (fun _ => True) D :=
  ⟨hg.cell h.list (by simp), hg.cell h.same (by simp), fun i hi => hg.cell (h.cells i hi) (by simp), trivial⟩
theorem RnP.gr {fs : Nat} {a : Option Addr} {g n c N l : Nat} {L : List Int} {A D : World} (h : RnP fs a g n c N l L A) (hg : IsGr A D) : RnP fs a g n c N l L D := ⟨cellk h.1 hg, h.2.gr hg⟩
theorem RnP.kp {fs : Nat} {a : Option Addr} {g n c N l : Nat} {L : List Int} {A D : World} (h : RnP fs a g n c N l L A) (hg : KpZ [N, N + 1, N + 2, g] A D) : RnP fs a g n c N l L D := ⟨hg.cell h.1 (by simp), h.2.kp hg⟩
theorem RnP.own {β : Type} {fs : Nat} {a : Option Addr} {g n c N l : Nat} {L : List Int} (B : Nat) : OwnFrom B (fun (_ : β) W => RnP fs a g n c N l L W) :=
  Own.from (fun _ _ _ _ hs hg hr => ⟨cell_kept hs.1 hg hr, cell_kept hs.2.list hg hr, cell_kept hs.2.same hg hr, fun i hi => cell_kept (hs.2.cells i hi) hg hr, trivial⟩) B
theorem below_own {N B : Nat} {A C : World} {row : Option Nat} (hB : N ≤ B) (hs : N ≤ A.heap.size) (hg : A.grownBy C row) (hr : ∀ r, row = some r → B ≤ r ∧ ∃ o : Obj, A.heap[r]? = some o ∧ o.isCells = false) : Below N A C :=
  (Below.refl N A).grown hg hs (fun r e => by have := (hr r e).1; omega)

set_option maxRecDepth 100000 in
set_option maxHeartbeats 2000000 in
theorem runs_in {k : Int → Int} {fs : Nat} (hS : SameF0 k fs (fun _ => True)) (a : Option Addr) (g n c Bo Bs N m : Nat) (L : List Int) (W0 : World) (hN : W0.heap.size = N) (q1 : W0.cell? ⟨Bo, 0, none⟩ = some (.slice a n c)) (q2 : W0.cell? ⟨Bs, 0, none⟩ = some (.func (.func fs) #[] #[]))
    (q3 : ∀ i, i < n → W0.cell? ⟨g, 0 + i, none⟩ = some (.int .i64 (L.getD i 0))) (hg : g < N) (hga : 0 < n → a = some ⟨g, 0, none⟩) (hl : L.length = n) (hc : n ≤ c) (hi : ∀ x ∈ L, I64 x) (hn : n ≤ 1000) (hm : 1 ≤ m) :
    SeqW Fence.wide m Try.prog 27 #[.pointer (some ⟨Bo, 0, none⟩), .pointer (some ⟨Bs, 0, none⟩)] (fun x : (Nat × Nat) × Value => #[x.2]) (Below N) (KpZ [g, N, N + 1, N + 2, N + 3, N + 4])
      (fun pre x W => Chn k L 0 (pre.map (·.1)) x.1.1 ∧ PcAt k L x.1.1 x.1.2 ∧ Lst W (N + 5) x.2 (pcL L x.1)) (fun xs _ => Chn k L 0 (xs.map (·.1)) n) (fun xs _ => ∃ b, Chn k L 0 (xs.map (·.1)) b) W0 := by
  intro l J Jx hJ hJx hY hJ0
  have HI : Hid (L.length = n ∧ n ≤ c ∧ (∀ x ∈ L, I64 x) ∧ n ≤ 1000) := ⟨hl, hc, hi, hn⟩
  refine callsIn_of_wp_marks Try.func27 rfl trivial ?_ rfl
  simp only [Try.ntmps27, List.size_toArray, List.length_cons, List.length_nil, Nat.reduceAdd, Nat.reduceSub, Array.replicate_succ, Array.replicate_zero, List.push_toArray, List.append_toArray, List.nil_append, List.cons_append]
  have q1' := fun o => cellk q1 ((IsGr.refl W0).alloc o)
  have q2' := fun o => cellk q2 ((IsGr.refl W0).alloc o)
  have cy := cell_new W0 (.func (.yield l) #[] #[]) 29
  gi_wp2
  refine ⟨trivial, ?_⟩
  refine (callsIn_wide.2 (pieces_any _ _ _ _ _ _)).mono ?_
  rintro e w5 ⟨rfl, e5⟩
  have hs5 : w5.heap.size = N + 3 := by rw [e5]; simp [hN]
  have hg5 : IsGr W0 w5 := e5 ▸ (((IsGr.refl W0).alloc _).alloc _).alloc _
  have cl := cell_new (W0.alloc (.cells #[.func (.yield l) #[] #[]] 29)) (.slice a n c) 22
  have cs := cell_new ((W0.alloc (.cells #[.func (.yield l) #[] #[]] 29)).alloc (.cells #[.slice a n c] 22)) (.func (.func fs) #[] #[]) 34
  simp only [World.size_alloc, hN] at cl cs cy
  have hP5 : RnP fs a g n c N l L w5 := by
    rw [e5]
    exact ⟨cell_past _ (cell_past _ cy.1), cell_past _ cl.1, cs.1, fun i hi => cell_past _ (cell_past _ (cell_past _ (q3 i hi))), trivial⟩
  have hJ5 : J [] w5 := hJ _ _ _ hJ0 (hN ▸ hg5.below)
  clear e5 cl cs cy q1' q2' hg5 hJ0
  gi_wp2
  refine wpIn_range_turnsW rfl rfl hm (gf := 33) (lb := #[.pointer (some ⟨N + 1, 0, none⟩), .pointer (some ⟨N + 2, 0, none⟩)]) rfl trivial (enters_of Try.func33 (by kernel_rfl) rfl)
    (R := IsGr) (Kp := KpZ [N, N + 1, N + 2, g]) (T := fun pre x _ => Chn k L 0 pre x.1 ∧ PcAt k L x.1 x.2) (S := fun xs _ => Chn k L 0 xs n) (Sp := fun xs _ => ∃ b, Chn k L 0 xs b)
    (fun o1 o2 => pieces_in0 hS a g 0 n c (N + 1) (N + 2) _ L _ _ (hP5.2.gr (((IsGr.refl w5).alloc o1).alloc o2)) (fun _ _ h => PcH0.gr h) (fun _ _ h => PcH0.kp h) hga hl hc hi (by omega))
    (kept2_gr _) (fun h1 h2 => h1.trans h2) (fun W o => KpZ.putObj (N := N + 3) (fun b hb => by simp at hb; omega) W _ o (by omega)) (fun _ => rfl)
    (fun pre W => (∃ opre : List ((Nat × Nat) × Value), opre.map (·.1) = pre ∧ J opre W) ∧ N + 3 ≤ W.heap.size ∧ RnP fs a g n c N l L W) (fun c pre W => c = .ret ∧ N ≤ W.heap.size ∧ ∃ opre : List ((Nat × Nat) × Value), opre.map (·.1) = pre ∧ Jx opre W)
    (fun s A C row hs hg hr => ⟨hs.1.imp fun opre h => ⟨h.1, hJ _ _ _ h.2 (below_own (B := w5.heap.size) (by omega) (by have := hs.2.1; omega) hg hr)⟩, Nat.le_trans hs.2.1 hg.size, RnP.own _ s A C row hs.2.2 hg hr⟩)
    (fun c' s A C row hs hg hr => ⟨hs.1, Nat.le_trans hs.2.1 hg.size, hs.2.2.imp fun opre h => ⟨h.1, hJx _ _ _ h.2 (below_own (B := w5.heap.size) (by omega) hs.2.1 hg hr)⟩⟩)
    (fun s A B row hs hg hr => hs) (fun s A B row hs hg hr => hs) (fun _ _ s A B row hs hg hr => hs)
    (fun s A B hs hr => ⟨hs.1.imp fun opre h => ⟨h.1, hJ _ _ _ h.2 (hr.below.mono (by have := hs.2.1; omega))⟩, Nat.le_trans hs.2.1 hr.size, hs.2.2.gr hr⟩)
    (fun c' s A B hs hr => ⟨hs.1, Nat.le_trans hs.2.1 hr.size, hs.2.2.imp fun opre h => ⟨h.1, hJx _ _ _ h.2 (hr.below.mono hs.2.1)⟩⟩)
    ⟨⟨[], rfl, hJ5⟩, by omega, hP5⟩
    ?a1 ?assign ?body ?done ?stop
  case assign =>
    intro lq x W K hK
    gi_wp2
    exact hK
  case stop =>
    rintro D c' xs W hD hSp ⟨rfl, hNW, opre, ho, hjx⟩ hK
    have hjD := hJx _ _ _ hjx ((Below.refl N W).grown (grownBy_putObj' W D (.deferred none)) hNW (fun r e => by cases e; omega))
    have HS : Hid (∃ b, Chn k L 0 (opre.map (·.1)) b) := ho ▸ hSp
    gi_wp2
    refine ⟨by simp, .inl ⟨_, _, rfl, run_takeDeferred hK, ?_⟩⟩
    exact ⟨.tuple #[], by simp [results, Try.f27, go_sem], ⟨_, rfl⟩, Or.inr ⟨opre, HS.out, hjD⟩⟩
  case done =>
    rintro D xs W hD hSx ⟨⟨opre, ho, hj⟩, hNW, hP⟩ hK
    have hjD := hJ _ _ _ hj ((Below.refl N W).grown (grownBy_putObj' W D (.deferred none)) (by omega) (fun r e => by cases e; omega))
    have HS : Hid (Chn k L 0 (opre.map (·.1)) n) := ho ▸ hSx
    clear hP hSx
    gi_wp2
    refine ⟨by simp, .inl ⟨_, _, rfl, run_takeDeferred hK, ?_⟩⟩
    exact ⟨.tuple #[], by simp [results, Try.f27, go_sem], ⟨_, rfl⟩, Or.inl ⟨opre, HS.out, hjD⟩⟩
  case body =>
    rintro lq pre ⟨xa, xm⟩ W ⟨⟨opre, ho, hj⟩, hNW, hP⟩ ⟨hch, hpa⟩ hWs
    have cyb := hP.1
    have hln : (pcL L (xa, xm)).length = xm := by unfold pcL; rw [List.length_take, List.length_drop]; have := hpa.2.1; simp only; omega
    have hxn : xa + xm ≤ n := by have := hpa.2.1; have := HI.out; omega
    have hRd : ∀ W', IsGr W W' → Rd W' (.slice (some ⟨g, xa, none⟩) xm (c - xa)) (pcL L (xa, xm)) := fun W' hg' => by
      refine ⟨some ⟨g, xa, none⟩, c - xa, by rw [hln], by rw [hln]; omega, rfl, fun x hx => HI.out.2.2.1 x (List.mem_of_mem_drop (List.mem_of_mem_take hx)), ?_⟩
      rw [hln]
      refine Or.inr ⟨g, xa, rfl, Nat.lt_of_lt_of_le (by omega) hg'.size, fun i hi => ?_⟩
      have h1 := cellk (hP.2.cells (xa + i) (by omega)) hg'
      rw [Nat.zero_add] at h1
      rw [h1]
      unfold pcL
      rw [getD_take hi, getD_drop]
    have CL := fun W' hg' => Clone_any g xa xm (c - xa) (pcL L (xa, xm)) W' (hRd W' hg') (by omega)
    have hpc : pcV g 0 c (xa, xm) = .slice (some ⟨g, xa, none⟩) xm (c - xa) := by simp [pcV]
    have HP : Hid (RnP fs a g n c N l L W ∧ Chn k L 0 (opre.map (·.1)) xa ∧ PcAt k L xa xm ∧ opre.map (·.1) = pre) := ⟨hP, ho ▸ hch, hpa, ho⟩
    have HWs : Hid (w5.heap.size + 1 < W.heap.size ∧ w5.heap.size = N + 3 ∧ g < N) := ⟨hWs, hs5, hg⟩
    have HY : Hid (∀ m pre x W, J pre W → _ → YieldAt Fence.wide m Try.prog l _ W _) := hY
    have HJ : Hid (∀ s A B, J s A → Below N A B → J s B) := hJ
    have hj9 : Hid (J opre W) := hj
    have K9 : Hid (∀ W1 W2, Below W.heap.size W W1 → KpZ [g, N, N + 1, N + 2, N + 3, N + 4] W1 W2 → KeptB (N + 3) W W2 ∧ KpZ [N, N + 1, N + 2, g] W W2) := fun W1 W2 h1 h2 => by
      have hz : ∀ b, b ∈ [g, N, N + 1, N + 2, N + 3, N + 4] → W2.heap[b]? = W.heap[b]? := fun b hb => (h2.2 b hb).trans (h1.block b (by simp at hb; omega))
      refine ⟨⟨Nat.le_trans h1.size h2.1, fun b hb => hz b ?_⟩, ⟨Nat.le_trans h1.size h2.1, fun b hb => hz b ?_⟩⟩
      · simp; omega
      · simp at hb ⊢; omega
    rw [hpc]
    clear hpc hln hRd hpa hch ho hP hWs hP5 hJ5 hj hY hJ hJx q1 q2 q3 hS
    gi_wp2
    refine wpIn_region_any (by kernel_rfl) ?_
    refine wpAnyIn_ready (rs := [0, 1]) (by kernel_rfl) (by simp) ?_
    refine AllReadyIn.cons (o := { dst := some 9, op := Op.load 29 (Operand.tmp 3), type := 29, pos := "merge.go:58", after := #[], guard := none }) rfl (fun K hK0 => ?_) ?_
    · have hK : Hid _ := hK0
      clear hK0
      go_simp
      refine hK.out _ _ ?_
      clear hK K
      (try simp only [Act.put, List.setIfInBounds_toArray, List.set_cons_zero, List.set_cons_succ])
      refine wpAnyIn_ready (rs := [1]) (by kernel_rfl) (by simp) ?_
      refine AllReadyIn.cons (o := { dst := some 10, op := Op.move (Operand.tmp 4), type := 22, pos := "merge.go:58", after := #[], guard := none }) rfl (fun K hK0 => ?_) ?_
      · have hK : Hid _ := hK0
        clear hK0
        go_simp
        refine hK.out _ _ ?_
        clear hK K
        (try simp only [Act.put, List.setIfInBounds_toArray, List.set_cons_zero, List.set_cons_succ])
        refine wpAnyIn_ready (rs := [2]) (by kernel_rfl) (by simp) ?_
        refine AllReadyIn.cons (o := { dst := some 11, op := Op.call { callee := Callee.value (Operand.func 29), args := #[Operand.tmp 10], argTypes := #[22] }, type := 22, pos := "merge.go:58", after := #[{ on := 1, ground := Ground.data }], guard := none }) rfl (fun K hK0 => ?_) ?_
        · have hK : Hid _ := hK0
          clear hK0
          go_simp
          refine ⟨trivial, fun h => (by cases h), ?_⟩
          refine (CallsIn.inRound lq (callsIn_wide.2 (CL W.drew ((IsGr.refl W).drew)))).mono ?_
          rintro e W1 ⟨v1, rfl, hl1, hb1⟩
          have hBW : Below W.heap.size W W1 := by
            have h0 : Below W.heap.size W W.drew := ((IsGr.refl W).drew).below
            exact h0.trans (hb1.mono h0.size)
          have cy1 := (hBW.cell (p := ⟨N, 0, none⟩) (by have := HWs.out; simp; omega)).trans cyb
          have hBN : N ≤ W.heap.size := by have := HWs.out; omega
          obtain ⟨fn, tmps, assign, body, hy, hR⟩ := HY.out 0 opre ((xa, xm), v1) W1 (HJ.out _ _ _ hj9.out (hBW.mono hBN)) ⟨HP.out.2.1, HP.out.2.2.1, hl1.mono (by have := HWs.out; simp; omega)⟩
          have HBW : Hid (Below W.heap.size W W1) := hBW
          clear hl1 hb1 hBW CL
          refine hK.out _ _ ?_
          clear hK K
          (try simp only [Act.put, List.setIfInBounds_toArray, List.set_cons_zero, List.set_cons_succ])
          refine wpAnyIn_ready (rs := [3]) (by kernel_rfl) (by simp) ?_
          refine AllReadyIn.cons (o := { dst := some 12, op := Op.call { callee := Callee.value (Operand.tmp 9), args := #[Operand.tmp 11], argTypes := #[22] }, type := 4, pos := "merge.go:58", after := #[{ on := 0, ground := Ground.data }, { on := 2, ground := Ground.data }, { on := 2, ground := Ground.chain }], guard := none }) rfl (fun K hK0 => ?_) ?_
          · have hK : Hid _ := hK0
            clear hK0
            go_simp
            refine ⟨fun h => (by cases h), ?_⟩
            refine RoundIn.mono (F := Fence.wide) (round_any rfl hR) ?_
            clear hR
            rintro e W2 (⟨rfl, hj2, hkp⟩ | ⟨rfl, hj2, hkp⟩)
            · skip
              refine hK.out _ _ ?_
              clear hK K
              (try simp only [Act.put, List.setIfInBounds_toArray, List.set_cons_zero, List.set_cons_succ])
              refine wpAnyIn_ready (rs := [4]) (by kernel_rfl) (by simp) ?_
              refine AllReadyIn.cons (o := { dst := some 13, op := Op.unOp UnOp.not 4 (Operand.tmp 12), type := 4, pos := "merge.go:58", after := #[{ on := 3, ground := Ground.data }], guard := none }) rfl (fun K hK0 => ?_) ?_
              · have hK : Hid _ := hK0
                clear hK0
                go_simp
                refine hK.out _ _ ?_
                clear hK K
                (try simp only [Act.put, List.setIfInBounds_toArray, List.set_cons_zero, List.set_cons_succ])
                refine wpAnyIn_done (by kernel_rfl) ?_ _
                have K1 := K9.out W1 W2 HBW.out hkp
                have hsz : N + 3 ≤ W2.heap.size := by have := K1.1.1; have := HWs.out; omega
                have FF : Hid _ := And.intro (And.intro K1.1 K1.2) (And.intro (show ∃ opre : List ((Nat × Nat) × Value), opre.map (·.1) = pre ++ [(xa, xm)] ∧ J opre W2 from ⟨opre ++ [((xa, xm), v1)], by rw [List.map_append, HP.out.2.2.2]; rfl, hj2⟩) (And.intro hsz (HP.out.1.kp K1.2)))
                clear hj2 hkp K1 hsz
                gi_wp2
                exact FF.out
              exact AllReadyIn.nil
            · skip
              refine hK.out _ _ ?_
              clear hK K
              (try simp only [Act.put, List.setIfInBounds_toArray, List.set_cons_zero, List.set_cons_succ])
              refine wpAnyIn_ready (rs := [4]) (by kernel_rfl) (by simp) ?_
              refine AllReadyIn.cons (o := { dst := some 13, op := Op.unOp UnOp.not 4 (Operand.tmp 12), type := 4, pos := "merge.go:58", after := #[{ on := 3, ground := Ground.data }], guard := none }) rfl (fun K hK0 => ?_) ?_
              · have hK : Hid _ := hK0
                clear hK0
                go_simp
                refine hK.out _ _ ?_
                clear hK K
                (try simp only [Act.put, List.setIfInBounds_toArray, List.set_cons_zero, List.set_cons_succ])
                refine wpAnyIn_done (by kernel_rfl) ?_ _
                have K1 := K9.out W1 W2 HBW.out hkp
                have hsz : N + 3 ≤ W2.heap.size := by have := K1.1.1; have := HWs.out; omega
                have hsz2 : N ≤ W2.heap.size := by omega
                clear hkp hsz
                gi_wp2
                exact ⟨⟨K1.1, K1.2⟩, rfl, hsz2, opre ++ [((xa, xm), v1)], by rw [List.map_append, HP.out.2.2.2]; rfl, hj2⟩
              exact AllReadyIn.nil
          exact AllReadyIn.nil
        exact AllReadyIn.nil
      exact AllReadyIn.nil
    refine AllReadyIn.cons (o := { dst := some 10, op := Op.move (Operand.tmp 4), type := 22, pos := "merge.go:58", after := #[], guard := none }) rfl (fun K hK0 => ?_) ?_
    · have hK : Hid _ := hK0
      clear hK0
      go_simp
      refine hK.out _ _ ?_
      clear hK K
      (try simp only [Act.put, List.setIfInBounds_toArray, List.set_cons_zero, List.set_cons_succ])
      refine wpAnyIn_ready (rs := [0, 2]) (by kernel_rfl) (by simp) ?_
      refine AllReadyIn.cons (o := { dst := some 9, op := Op.load 29 (Operand.tmp 3), type := 29, pos := "merge.go:58", after := #[], guard := none }) rfl (fun K hK0 => ?_) ?_
      · have hK : Hid _ := hK0
        clear hK0
        go_simp
        refine hK.out _ _ ?_
        clear hK K
        (try simp only [Act.put, List.setIfInBounds_toArray, List.set_cons_zero, List.set_cons_succ])
        refine wpAnyIn_ready (rs := [2]) (by kernel_rfl) (by simp) ?_
        refine AllReadyIn.cons (o := { dst := some 11, op := Op.call { callee := Callee.value (Operand.func 29), args := #[Operand.tmp 10], argTypes := #[22] }, type := 22, pos := "merge.go:58", after := #[{ on := 1, ground := Ground.data }], guard := none }) rfl (fun K hK0 => ?_) ?_
        · have hK : Hid _ := hK0
          clear hK0
          go_simp
          refine ⟨trivial, fun h => (by cases h), ?_⟩
          refine (CallsIn.inRound lq (callsIn_wide.2 (CL W.drew ((IsGr.refl W).drew)))).mono ?_
          rintro e W1 ⟨v1, rfl, hl1, hb1⟩
          have hBW : Below W.heap.size W W1 := by
            have h0 : Below W.heap.size W W.drew := ((IsGr.refl W).drew).below
            exact h0.trans (hb1.mono h0.size)
          have cy1 := (hBW.cell (p := ⟨N, 0, none⟩) (by have := HWs.out; simp; omega)).trans cyb
          have hBN : N ≤ W.heap.size := by have := HWs.out; omega
          obtain ⟨fn, tmps, assign, body, hy, hR⟩ := HY.out 0 opre ((xa, xm), v1) W1 (HJ.out _ _ _ hj9.out (hBW.mono hBN)) ⟨HP.out.2.1, HP.out.2.2.1, hl1.mono (by have := HWs.out; simp; omega)⟩
          have HBW : Hid (Below W.heap.size W W1) := hBW
          clear hl1 hb1 hBW CL
          refine hK.out _ _ ?_
          clear hK K
          (try simp only [Act.put, List.setIfInBounds_toArray, List.set_cons_zero, List.set_cons_succ])
          refine wpAnyIn_ready (rs := [3]) (by kernel_rfl) (by simp) ?_
          refine AllReadyIn.cons (o := { dst := some 12, op := Op.call { callee := Callee.value (Operand.tmp 9), args := #[Operand.tmp 11], argTypes := #[22] }, type := 4, pos := "merge.go:58", after := #[{ on := 0, ground := Ground.data }, { on := 2, ground := Ground.data }, { on := 2, ground := Ground.chain }], guard := none }) rfl (fun K hK0 => ?_) ?_
          · have hK : Hid _ := hK0
            clear hK0
            go_simp
            refine ⟨fun h => (by cases h), ?_⟩
            refine RoundIn.mono (F := Fence.wide) (round_any rfl hR) ?_
            clear hR
            rintro e W2 (⟨rfl, hj2, hkp⟩ | ⟨rfl, hj2, hkp⟩)
            · skip
              refine hK.out _ _ ?_
              clear hK K
              (try simp only [Act.put, List.setIfInBounds_toArray, List.set_cons_zero, List.set_cons_succ])
              refine wpAnyIn_ready (rs := [4]) (by kernel_rfl) (by simp) ?_
              refine AllReadyIn.cons (o := { dst := some 13, op := Op.unOp UnOp.not 4 (Operand.tmp 12), type := 4, pos := "merge.go:58", after := #[{ on := 3, ground := Ground.data }], guard := none }) rfl (fun K hK0 => ?_) ?_
              · have hK : Hid _ := hK0
                clear hK0
                go_simp
                refine hK.out _ _ ?_
                clear hK K
                (try simp only [Act.put, List.setIfInBounds_toArray, List.set_cons_zero, List.set_cons_succ])
                refine wpAnyIn_done (by kernel_rfl) ?_ _
                have K1 := K9.out W1 W2 HBW.out hkp
                have hsz : N + 3 ≤ W2.heap.size := by have := K1.1.1; have := HWs.out; omega
                have FF : Hid _ := And.intro (And.intro K1.1 K1.2) (And.intro (show ∃ opre : List ((Nat × Nat) × Value), opre.map (·.1) = pre ++ [(xa, xm)] ∧ J opre W2 from ⟨opre ++ [((xa, xm), v1)], by rw [List.map_append, HP.out.2.2.2]; rfl, hj2⟩) (And.intro hsz (HP.out.1.kp K1.2)))
                clear hj2 hkp K1 hsz
                gi_wp2
                exact FF.out
              exact AllReadyIn.nil
            · skip
              refine hK.out _ _ ?_
              clear hK K
              (try simp only [Act.put, List.setIfInBounds_toArray, List.set_cons_zero, List.set_cons_succ])
              refine wpAnyIn_ready (rs := [4]) (by kernel_rfl) (by simp) ?_
              refine AllReadyIn.cons (o := { dst := some 13, op := Op.unOp UnOp.not 4 (Operand.tmp 12), type := 4, pos := "merge.go:58", after := #[{ on := 3, ground := Ground.data }], guard := none }) rfl (fun K hK0 => ?_) ?_
              · have hK : Hid _ := hK0
                clear hK0
                go_simp
                refine hK.out _ _ ?_
                clear hK K
                (try simp only [Act.put, List.setIfInBounds_toArray, List.set_cons_zero, List.set_cons_succ])
                refine wpAnyIn_done (by kernel_rfl) ?_ _
                have K1 := K9.out W1 W2 HBW.out hkp
                have hsz : N + 3 ≤ W2.heap.size := by have := K1.1.1; have := HWs.out; omega
                have hsz2 : N ≤ W2.heap.size := by omega
                clear hkp hsz
                gi_wp2
                exact ⟨⟨K1.1, K1.2⟩, rfl, hsz2, opre ++ [((xa, xm), v1)], by rw [List.map_append, HP.out.2.2.2]; rfl, hj2⟩
              exact AllReadyIn.nil
          exact AllReadyIn.nil
        exact AllReadyIn.nil
      refine AllReadyIn.cons (o := { dst := some 11, op := Op.call { callee := Callee.value (Operand.func 29), args := #[Operand.tmp 10], argTypes := #[22] }, type := 22, pos := "merge.go:58", after := #[{ on := 1, ground := Ground.data }], guard := none }) rfl (fun K hK0 => ?_) ?_
      · have hK : Hid _ := hK0
        clear hK0
        go_simp
        refine ⟨trivial, fun h => (by cases h), ?_⟩
        refine (CallsIn.inRound lq (callsIn_wide.2 (CL W.drew ((IsGr.refl W).drew)))).mono ?_
        rintro e W1 ⟨v1, rfl, hl1, hb1⟩
        have hBW : Below W.heap.size W W1 := by
          have h0 : Below W.heap.size W W.drew := ((IsGr.refl W).drew).below
          exact h0.trans (hb1.mono h0.size)
        have cy1 := (hBW.cell (p := ⟨N, 0, none⟩) (by have := HWs.out; simp; omega)).trans cyb
        have hBN : N ≤ W.heap.size := by have := HWs.out; omega
        obtain ⟨fn, tmps, assign, body, hy, hR⟩ := HY.out 0 opre ((xa, xm), v1) W1 (HJ.out _ _ _ hj9.out (hBW.mono hBN)) ⟨HP.out.2.1, HP.out.2.2.1, hl1.mono (by have := HWs.out; simp; omega)⟩
        have HBW : Hid (Below W.heap.size W W1) := hBW
        clear hl1 hb1 hBW CL
        refine hK.out _ _ ?_
        clear hK K
        (try simp only [Act.put, List.setIfInBounds_toArray, List.set_cons_zero, List.set_cons_succ])
        refine wpAnyIn_ready (rs := [0]) (by kernel_rfl) (by simp) ?_
        refine AllReadyIn.cons (o := { dst := some 9, op := Op.load 29 (Operand.tmp 3), type := 29, pos := "merge.go:58", after := #[], guard := none }) rfl (fun K hK0 => ?_) ?_
        · have hK : Hid _ := hK0
          clear hK0
          go_simp
          refine hK.out _ _ ?_
          clear hK K
          (try simp only [Act.put, List.setIfInBounds_toArray, List.set_cons_zero, List.set_cons_succ])
          refine wpAnyIn_ready (rs := [3]) (by kernel_rfl) (by simp) ?_
          refine AllReadyIn.cons (o := { dst := some 12, op := Op.call { callee := Callee.value (Operand.tmp 9), args := #[Operand.tmp 11], argTypes := #[22] }, type := 4, pos := "merge.go:58", after := #[{ on := 0, ground := Ground.data }, { on := 2, ground := Ground.data }, { on := 2, ground := Ground.chain }], guard := none }) rfl (fun K hK0 => ?_) ?_
          · have hK : Hid _ := hK0
            clear hK0
            go_simp
            refine ⟨fun h => (by cases h), ?_⟩
            refine RoundIn.mono (F := Fence.wide) (round_any rfl hR) ?_
            clear hR
            rintro e W2 (⟨rfl, hj2, hkp⟩ | ⟨rfl, hj2, hkp⟩)
            · skip
              refine hK.out _ _ ?_
              clear hK K
              (try simp only [Act.put, List.setIfInBounds_toArray, List.set_cons_zero, List.set_cons_succ])
              refine wpAnyIn_ready (rs := [4]) (by kernel_rfl) (by simp) ?_
              refine AllReadyIn.cons (o := { dst := some 13, op := Op.unOp UnOp.not 4 (Operand.tmp 12), type := 4, pos := "merge.go:58", after := #[{ on := 3, ground := Ground.data }], guard := none }) rfl (fun K hK0 => ?_) ?_
              · have hK : Hid _ := hK0
                clear hK0
                go_simp
                refine hK.out _ _ ?_
                clear hK K
                (try simp only [Act.put, List.setIfInBounds_toArray, List.set_cons_zero, List.set_cons_succ])
                refine wpAnyIn_done (by kernel_rfl) ?_ _
                have K1 := K9.out W1 W2 HBW.out hkp
                have hsz : N + 3 ≤ W2.heap.size := by have := K1.1.1; have := HWs.out; omega
                have FF : Hid _ := And.intro (And.intro K1.1 K1.2) (And.intro (show ∃ opre : List ((Nat × Nat) × Value), opre.map (·.1) = pre ++ [(xa, xm)] ∧ J opre W2 from ⟨opre ++ [((xa, xm), v1)], by rw [List.map_append, HP.out.2.2.2]; rfl, hj2⟩) (And.intro hsz (HP.out.1.kp K1.2)))
                clear hj2 hkp K1 hsz
                gi_wp2
                exact FF.out
              exact AllReadyIn.nil
            · skip
              refine hK.out _ _ ?_
              clear hK K
              (try simp only [Act.put, List.setIfInBounds_toArray, List.set_cons_zero, List.set_cons_succ])
              refine wpAnyIn_ready (rs := [4]) (by kernel_rfl) (by simp) ?_
              refine AllReadyIn.cons (o := { dst := some 13, op := Op.unOp UnOp.not 4 (Operand.tmp 12), type := 4, pos := "merge.go:58", after := #[{ on := 3, ground := Ground.data }], guard := none }) rfl (fun K hK0 => ?_) ?_
              · have hK : Hid _ := hK0
                clear hK0
                go_simp
                refine hK.out _ _ ?_
                clear hK K
                (try simp only [Act.put, List.setIfInBounds_toArray, List.set_cons_zero, List.set_cons_succ])
                refine wpAnyIn_done (by kernel_rfl) ?_ _
                have K1 := K9.out W1 W2 HBW.out hkp
                have hsz : N + 3 ≤ W2.heap.size := by have := K1.1.1; have := HWs.out; omega
                have hsz2 : N ≤ W2.heap.size := by omega
                clear hkp hsz
                gi_wp2
                exact ⟨⟨K1.1, K1.2⟩, rfl, hsz2, opre ++ [((xa, xm), v1)], by rw [List.map_append, HP.out.2.2.2]; rfl, hj2⟩
              exact AllReadyIn.nil
          exact AllReadyIn.nil
        exact AllReadyIn.nil
      exact AllReadyIn.nil
    exact AllReadyIn.nil
end Go.Proofs.Ytblnpabgakmghaa
