/- Boxes of Bigs told block by block; gromaref10.Ten. -/
import Derived.Test.YtfpifbfnebfdaaaDoorR11
import Derived.Test.YtfpifbfnebfdaaaDoorS1
import Derived.Test.YtfpifbfnebfdaaaDoorH1
import Derived.Test.YtfpifbfnebfdaaaDoorI1
namespace Go.Proofs.YtfpifbfnebfdaaaDoor
open Go.RowKit Go.Shelf
attribute [local go_sem] Gr.size Gr.cell? Gr.frozen? Gr.setCell Gr.drew Gr.drewN Gr.of_drew Gr.of_drewN Gr.gr Gr.lt_of1 Gr.le_of1 Gr.lt_of2 Gr.le_of2 Gr.lt_of3 Gr.le_of3 Gr.lt_of4 Gr.le_of4 Gr.lt_of5 Gr.le_of5 Gr.lt_of6 Gr.le_of6 Gr.lt_of7 Gr.le_of7 Gr.lt_of8 Gr.le_of8 Gr.lt_of9 Gr.le_of9 Gr.lt_of10 Gr.le_of10 Gr.lt_of11 Gr.le_of11 Gr.lt_of12 Gr.le_of12 Gr.lt_of13 Gr.le_of13 Gr.lt_of14 Gr.le_of14 Gr.lt_of15 Gr.le_of15 Gr.lt_of16 Gr.le_of16 Gr.lt_of17 Gr.le_of17 Gr.lt_of18 Gr.le_of18 Gr.lt_of19 Gr.le_of19 Gr.lt_of20 Gr.le_of20 Gr.lt_of21 Gr.le_of21 Gr.lt_of22 Gr.le_of22 Gr.lt_of23 Gr.le_of23 Gr.lt_of24 Gr.le_of24
/-- A box that holds a Big. -/
def BgB (W : World) (P : Nat) (z : Int) : Prop := ∃ (s : Bool) (a : Option Addr) (n c : Nat), W.heap[P]? = some (.cells #[.bool s, .slice a n c] 29 (0, 0)) ∧ IsBig W (.agg #[.bool s, .slice a n c]) z
theorem block_two {W : World} {P : Nat} {s : Bool} {a : Option Addr} {n c : Nat} (h : W.heap[P]? = some (.cells #[.bool s, .slice a n c] 29 (0, 0))) :
    W.cell? ⟨P, 0, none⟩ = some (.bool s) ∧ W.cell? ⟨P, 1, none⟩ = some (.slice a n c) ∧ W.frozen? ⟨P, 0, none⟩ = false ∧ W.frozen? ⟨P, 1, none⟩ = false := by
  refine ⟨?_, ?_, ?_, ?_⟩ <;> simp [World.cell?, World.frozen?, h]
theorem BgB.lt {W : World} {P : Nat} {z : Int} (h : BgB W P z) : P < W.heap.size := by
  obtain ⟨s, a, n, c, h1, -⟩ := h
  exact (Array.getElem?_eq_some_iff.1 h1).1
theorem BgB.gr {W W' : World} {P : Nat} {z : Int} (h : BgB W P z) (hg : IsGr W W') : BgB W' P z := by
  have hl := h.lt
  obtain ⟨s, a, n, c, h1, h2⟩ := h
  exact ⟨s, a, n, c, (hg.below.block P hl).trans h1, h2.gr hg⟩
theorem BgB.new {W : World} {s : Bool} {a : Option Addr} {n c : Nat} {z : Int} (h : IsBig W (.agg #[.bool s, .slice a n c]) z) : BgB (W.alloc (.cells #[.bool s, .slice a n c] 29)) W.heap.size z :=
  ⟨s, a, n, c, World.alloc_heap_new W _, h.gr ((IsGr.refl W).alloc _)⟩
theorem put_two {W : World} {P : Nat} {s s' : Bool} {a a' : Option Addr} {n c n' c' : Nat} (h : W.heap[P]? = some (.cells #[.bool s, .slice a n c] 29 (0, 0))) :
    ((W.setCell ⟨P, 0, none⟩ (.bool s')).setCell ⟨P, 1, none⟩ (.slice a' n' c')).heap[P]? = some (.cells #[.bool s', .slice a' n' c'] 29 (0, 0)) := by
  simp [World.setCell, Array.getElem?_modify, h]
theorem BgB.put {W : World} {P : Nat} {z0 z : Int} {s : Bool} {a : Option Addr} {n c : Nat} (h : BgB W P z0) (hv : IsBig W (.agg #[.bool s, .slice a n c]) z) : BgB ((W.setCell ⟨P, 0, none⟩ (.bool s)).setCell ⟨P, 1, none⟩ (.slice a n c)) P z := by
  obtain ⟨s0, a0, n0, c0, h1, h2⟩ := h
  exact ⟨s, a, n, c, put_two h1, hv.stored h1 _ _⟩
theorem BgB.other {W : World} {P Q : Nat} {z0 z : Int} {x y : Value} (h : BgB W P z0) (k : BgB W Q z) (hne : Q ≠ P) : BgB ((W.setCell ⟨P, 0, none⟩ x).setCell ⟨P, 1, none⟩ y) Q z := by
  obtain ⟨s0, a0, n0, c0, h1, h2⟩ := h
  obtain ⟨s, a, n, c, k1, k2⟩ := k
  exact ⟨s, a, n, c, by rw [set_block _ _ _ _ _ hne, set_block _ _ _ _ _ hne]; exact k1, k2.stored h1 _ _⟩
theorem below_put {w W : World} {P : Nat} {x y : Value} (h : Below w.heap.size w W) (hP : w.heap.size ≤ P) : Below w.heap.size w ((W.setCell ⟨P, 0, none⟩ x).setCell ⟨P, 1, none⟩ y) :=
  (h.setCell (p := ⟨P, 0, none⟩) hP _).setCell (p := ⟨P, 1, none⟩) hP _
theorem ten_sm (k : Nat) (hk : k ≤ 180) : Sm (10 ^ k) := by
  have h1 := ten_pos k
  have h2 := pow_le_pow' (by decide : (1 : Int) ≤ 10) hk
  have h3 : (10 : Int) ^ 180 ≤ 4149515568880992958512407863691161151012446232242436899995657329690652811412908146399707048947103794288197886611300789182395151075411775307886874834113963687061181803401509523685376 := by decide +kernel
  unfold Sm; omega

set_option maxRecDepth 20000 in set_option maxHeartbeats 2000000 in
theorem Ten_any (n : Int) (w : World) (n1 : n ≤ 180) : Calls Tryd.prog 14 #[.int .i64 n] w fun e w' => ∃ v, e = .returned v ∧ IsBig w' v (10 ^ n.toNat) ∧ IsGr w w' := by
  obtain ⟨N, hN⟩ : ∃ N : Nat, n.toNat = N := ⟨_, rfl⟩
  rw [hN]
  have HN : Hid (n.toNat = N ∧ n ≤ 180) := ⟨hN, n1⟩
  have C1 := fun w => BigOf_any 1 (by omega) (by omega) w
  have CT := fun w => BigOf_any 10 (by omega) (by omega) w
  clear hN n1
  go_enter Tryd.func14, Tryd.ntmps14
  go_wp2_with fail
  refine (C1 _).mono ?_
  clear C1
  rintro e w1 ⟨x, rfl, hx, hg1⟩
  obtain ⟨xs, xa, xn, xc, rfl⟩ := hx.shape
  have h0 : BgB w1 w.heap.size 0 := (BgB.new (IsBig.zero w)).gr hg1
  have hB1 : Below w.heap.size w w1 := (((IsGr.refl w).alloc (.cells #[.bool false, .slice none 0 0] 29)).trans hg1).below
  have hp := BgB.new hx
  have h0' := h0.gr ((IsGr.refl w1).alloc (.cells #[.bool xs, .slice xa xn xc] 29))
  have hB2 : Below w.heap.size w (w1.alloc (.cells #[.bool xs, .slice xa xn xc] 29)) := hB1.trans (((IsGr.refl w1).alloc _).below.mono hB1.size)
  have hne : w.heap.size ≠ w1.heap.size := by have := h0.lt; omega
  obtain ⟨P, hP⟩ : ∃ P, w1.heap.size = P := ⟨_, rfl⟩
  have HP : Hid (BgB (w1.alloc (.cells #[.bool xs, .slice xa xn xc] 29)) w.heap.size 0 ∧ BgB (w1.alloc (.cells #[.bool xs, .slice xa xn xc] 29)) P 1 ∧ Below w.heap.size w (w1.alloc (.cells #[.bool xs, .slice xa xn xc] 29)) ∧ w.heap.size ≠ P ∧ w.heap.size ≤ P) := ⟨h0', hP ▸ hp, hB2, hP ▸ hne, by have := h0.lt; omega⟩
  clear h0 hB1 hp h0' hB2 hne hx hg1
  go_wp2_with fail
  clear hP
  go_loopg [4] N (fun r p4 wr => ∃ k : Nat, k + r = N ∧ p4 = .int .i64 k ∧ Hid (BgB wr w.heap.size 0 ∧ BgB wr P (10 ^ k) ∧ Below w.heap.size w wr))
  case atStart => exact ⟨0, by omega, rfl, HP.out.1, HP.out.2.1, HP.out.2.2.1⟩
  case round =>
    obtain ⟨k, hk, rfl, HR⟩ := hrel
    by_cases hin : (k : Int) < n
    · have hkN : k < N := by have := HN.out; omega
      have sk := ten_sm k (by have := HN.out; omega)
      have st : Sm 10 := by unfold Sm; omega
      have HB := HR.out.2.1
      obtain ⟨ps, pa, pn, pc, hb, hbig⟩ := HB
      obtain ⟨c0, c1, f0, f1⟩ := block_two hb
      have HBB : Hid (IsBig wr (.agg #[.bool ps, .slice pa pn pc]) (10 ^ k) ∧ wr.heap[P]? = some (.cells #[.bool ps, .slice pa pn pc] 29 (0, 0))) := ⟨hbig, hb⟩
      have e1 : IntKind.i64.wrap ((k : Int) + 1) = (k : Int) + 1 := by rw [IntKind.wrap_i64]; have := HN.out; omega
      clear hb hbig
      go_upto_region 5 with fail
      obtain ⟨C, hin, hcl, hcells, hgr⟩ : ∃ C : World → Prop, (∀ w', IsGr wr w' → C w') ∧ (∀ u u', C u → IsGr u u' → C u') ∧ (∀ w', C w' → (w'.cell? ⟨P, 0, none⟩ = some (.bool ps)) ∧ (w'.cell? ⟨P, 1, none⟩ = some (.slice pa pn pc)) ∧ (w'.frozen? ⟨P, 0, none⟩ = false) ∧ (w'.frozen? ⟨P, 1, none⟩ = false)) ∧ (∀ w', C w' → IsGr wr w') := ⟨fun w' => IsGr wr w', fun _ h => h, fun _ _ h k => h.trans k, fun w' hg => ⟨cellk c0 hg, cellk c1 hg, frzk c0 f0 hg, frzk c1 f1 hg⟩, fun _ h => h⟩
      refine wp_region_but (S := C) (k := 3) (n := 3) (by kernel_rfl) (by kernel_rfl) (by (try dsimp only); exact hin _ (by with_reducible repeat (first | exact IsGr.refl _ | refine IsGr.gr ?_ _ _ | refine IsGr.alloc ?_ _ | refine IsGr.drew ?_ | refine IsGr.drewN ?_ _))) (fun hHeld => ?_)
      refine wpAnyH_take (i := 0) (oi := { dst := some 11, op := Op.load 29 (Operand.tmp 3), type := 29, pos := "ref.go:12", after := #[], guard := none }) (v := ?_) rfl (by kernel_rfl) (by kernel_rfl) (by kernel_rfl) (fun _ _ _ h => h) (Or.inl ⟨by rfl, ?_⟩) (by assumption) ?_
      rotate_left
      · (intro w hSw; (try dsimp only at hSw); (try have hcs := hcells w hSw); (try go_split_ands); go_simp <;> with_reducible rfl)
      (try simp only [Act.put, List.setIfInBounds_toArray, List.set_cons_zero, List.set_cons_succ])
      refine wpAnyH_ready (rs := [1]) (by kernel_rfl) (by simp) ?_
      refine AllReadyH.cons (o := { dst := some 12, op := Op.call { callee := Callee.value (Operand.func 12), args := #[Operand.const (Value.int IntKind.i64 10)], argTypes := #[3] }, type := 29, pos := "ref.go:12", after := #[], guard := none }) rfl (fun K hK => ?_) ?_
      · go_simp
        refine (CT _).mono ?_
        rintro e w2 ⟨T, rfl, hT, hg2⟩
        obtain ⟨Ts, Ta, Tn, Tc, rfl⟩ := hT.shape
        (try go_wp2_with fail)
        refine hK.out _ _ (by (try dsimp only); exact hcl _ _ hHeld (by first | with_reducible assumption | with_reducible exact IsGr.refl _ | with_reducible exact (IsGr.refl _).alloc _ | with_reducible exact ((IsGr.refl _).alloc _).alloc _ | assumption)) (fun hHeld2 => ?_)
        clear hK K hHeld
        have hHeld := hHeld2
        clear hHeld2
        (try simp only [Act.put, List.setIfInBounds_toArray, List.set_cons_zero, List.set_cons_succ])
        refine wpAnyH_ready (rs := [2]) (by kernel_rfl) (by simp) ?_
        refine AllReadyH.cons (o := { dst := some 13, op := Op.call { callee := Callee.value (Operand.func 13), args := #[Operand.tmp 11, Operand.tmp 12], argTypes := #[29, 29] }, type := 29, pos := "ref.go:12", after := #[{ on := 0, ground := Ground.data }, { on := 1, ground := Ground.data }, { on := 1, ground := Ground.chain }], guard := none }) rfl (fun K hK => ?_) ?_
        · go_simp
          refine (BigMul_any _ _ (10 ^ k) 10 _ (HBB.out.1.gr (hgr _ hHeld)) hT sk st).mono ?_
          rintro e w3 ⟨R, rfl, hR, hg3⟩
          obtain ⟨Rs, Ra, Rn, Rc, rfl⟩ := hR.shape
          (try go_wp2_with fail)
          refine hK.out _ _ (by (try dsimp only); exact hcl _ _ hHeld (by first | with_reducible assumption | with_reducible exact IsGr.refl _ | with_reducible exact (IsGr.refl _).alloc _ | with_reducible exact ((IsGr.refl _).alloc _).alloc _ | assumption)) (fun hHeld2 => ?_)
          clear hK K hHeld
          have hHeld := hHeld2
          clear hHeld2
          (try simp only [Act.put, List.setIfInBounds_toArray, List.set_cons_zero, List.set_cons_succ])
          refine wpAnyH_done (by kernel_rfl) ?_ _
          obtain ⟨q0, q1, q2, q3⟩ := hcells _ hHeld
          have hg := hgr _ hHeld
          refine butLast_step (o := { dst := none, op := Op.store 29 (Operand.tmp 3) (Operand.tmp 13), type := 0, pos := "ref.go:12", after := #[{ on := 2, ground := Ground.data }, { on := 2, ground := Ground.chain }, { on := 0, ground := Ground.phase }, { on := 1, ground := Ground.phase }, { on := 2, ground := Ground.phase }], guard := none }) rfl (fun K hK => ?_)
          go_simp
          refine hK.out _ _ ?_
          clear hK K
          (try simp only [Act.put, List.setIfInBounds_toArray, List.set_cons_zero, List.set_cons_succ])
          have HQ : Hid (BgB w3 w.heap.size 0 ∧ BgB w3 P (10 ^ k) ∧ Below w.heap.size w w3) := ⟨HR.out.1.gr hg, HR.out.2.1.gr hg, HR.out.2.2.trans (hg.below.mono HR.out.2.2.size)⟩
          have HM := HQ.out.2.1.put hR
          rw [← Int.pow_succ] at HM
          have HM' : Hid (BgB ((w3.setCell ⟨P, 0, none⟩ (.bool Rs)).setCell ⟨P, 1, none⟩ (.slice Ra Rn Rc)) w.heap.size 0 ∧ BgB ((w3.setCell ⟨P, 0, none⟩ (.bool Rs)).setCell ⟨P, 1, none⟩ (.slice Ra Rn Rc)) P (10 ^ (k + 1)) ∧ Below w.heap.size w ((w3.setCell ⟨P, 0, none⟩ (.bool Rs)).setCell ⟨P, 1, none⟩ (.slice Ra Rn Rc))) := ⟨HQ.out.2.1.other HQ.out.1 HP.out.2.2.2.1, HM, below_put HQ.out.2.2 HP.out.2.2.2.2⟩
          clear HM hHeld hgr hin hcl hcells q0 q1 q2 q3 c0 c1 f0 f1 hg hR hT HQ
          go_wp2_with fail
          go_roundg (N - (k + 1))
          case measure => omega
          case rel => exact ⟨k + 1, by omega, by simp, HM'.out⟩
        exact AllReadyH.nil
      exact AllReadyH.nil
    · obtain ⟨ps, pa, pn, pc, hb, hbig⟩ := HR.out.2.1
      have hkN : k = N := by have := HN.out; omega
      obtain ⟨c0, c1, f0, f1⟩ := block_two hb
      obtain ⟨s0, a0, n0, cc0, hb0, hbig0⟩ := HR.out.1
      obtain ⟨d0, d1, g0, g1⟩ := block_two hb0
      have HF : Hid (IsBig ((wr.setCell ⟨w.heap.size, 0, none⟩ (.bool ps)).setCell ⟨w.heap.size, 1, none⟩ (.slice pa pn pc)) (.agg #[.bool ps, .slice pa pn pc]) (10 ^ N) ∧ IsGr w ((wr.setCell ⟨w.heap.size, 0, none⟩ (.bool ps)).setCell ⟨w.heap.size, 1, none⟩ (.slice pa pn pc))) := ⟨hkN ▸ hbig.stored hb0 _ _, IsGr.of_below (below_put HR.out.2.2 (Nat.le_refl _))⟩
      obtain ⟨y0, y1, -, -⟩ := block_two (put_two (s' := ps) (a' := pa) (n' := pn) (c' := pc) hb0)
      have HY : Hid (_ ∧ _) := And.intro y0 y1
      clear hb hbig hb0 hbig0 hkN y0 y1
      go_wp2_with fail
      obtain ⟨y0, y1⟩ := HY.out
      exact bodyPost_ret (v := .agg #[.bool ps, .slice pa pn pc]) (by simp [results, Tryd.results14, go_sem, y0, y1]) rfl ⟨_, rfl, HF.out.1, HF.out.2⟩
end Go.Proofs.YtfpifbfnebfdaaaDoor
