/- Contracts of package union over the loaded program: Groups. -/
import Derived.Test.YtchbnkapajnjgaaO19
import Derived.Test.YtchbnkapajnjgaaS10
import Derived.LoopIn
import Derived.Shelf.RegionOpen
namespace Go.Proofs.Ytchbnkapajnjgaa
open Go.RowKit Go.Shelf
attribute [local go_sem] Oper.semAt_some
set_option maxHeartbeats 1000000 in
theorem Groups_any (t : Nat) (w : World) : Calls Try.prog 19 #[.pointer (some ⟨t, 0, none⟩)] w fun e w' => e = .returned (.func (.func 25) #[] #[.pointer (some ⟨w.heap.size, 0, none⟩)]) ∧ w' = w.alloc (.cells #[.pointer (some ⟨t, 0, none⟩)] 24) := by
  go_enter Try.func19, Try.ntmps19
  go_wp2_with fail
  go_ret
  exact ⟨rfl, rfl⟩
/-- All that lies at N and behind it is as it was. -/
def KpG (N : Nat) (A B : World) : Prop := A.heap.size ≤ B.heap.size ∧ ∀ k, N ≤ k → k < A.heap.size → B.heap[k]? = A.heap[k]?
theorem KpG.trans {N : Nat} {A B C : World} (h : KpG N A B) (k : KpG N B C) : KpG N A C :=
  ⟨Nat.le_trans h.1 k.1, fun b hb hl => (k.2 b hb (Nat.lt_of_lt_of_le hl h.1)).trans (h.2 b hb hl)⟩
theorem Lst.keep {w w' : World} {base : Nat} {v : Value} {L : List Int} (h : Lst w base v L) (hk : ∀ g, v.ownBlock = some g → w'.heap[g]? = w.heap[g]?) : Lst w' base v L := by
  obtain ⟨h1, h2⟩ := h
  refine ⟨h1, ?_⟩
  rcases h2 with h2 | ⟨g, cap, cur, rfl, h3, h4, h5⟩
  · exact Or.inl h2
  · exact Or.inr ⟨g, cap, cur, rfl, h3, (hk g rfl).trans h4, h5⟩
theorem Lst.kpg {w w' : World} {N : Nat} {v : Value} {L : List Int} (h : Lst w N v L) (hk : KpG N w w') : Lst w' N v L :=
  h.keep fun g e => hk.2 g (own_block h g e).1 (own_block h g e).2
/-- What Groups goes through. -/
structure GpH (N G C : Nat) (x : List Int) (vs : List Value) (W : World) : Prop where
  row : RowV W G vs
  len : vs.length = C
  lst : ∀ j, j < C → Lst W N (vs.getD j Vn) (grp (nums x) j x.length)
  low : N ≤ G
theorem GpH.kpg {N G C : Nat} {x : List Int} {vs : List Value} {A B : World} (h : GpH N G C x vs A) (hk : KpG N A B) : GpH N G C x vs B := by
  refine ⟨?_, h.len, fun j hj => (h.lst j hj).kpg hk, h.low⟩
  have hl := h.row.lt
  have := h.row
  unfold RowV at *
  rw [hk.2 G h.low hl]
  exact this
set_option maxRecDepth 100000 in
set_option maxHeartbeats 2000000 in
theorem groups_in {base t gu gz gm C : Nat} {x : List Int} (Bt N m : Nat) (W0 : World) (hN : W0.heap.size = N) (hu : Un W0 base t gu gz gm x) (hx : x.length ≤ 1000) (hC : cntU x x.length = C) (hB : W0.cell? ⟨Bt, 0, none⟩ = some (.pointer (some ⟨t, 0, none⟩))) :
    SeqW Fence.wide m Try.prog 25 #[.pointer (some ⟨Bt, 0, none⟩)] (fun v : Value => #[v]) (Below N) (KpG N) (fun pre v W => pre.length < C ∧ Lst W N v (grp (nums x) (pre.length : Nat) x.length)) (fun xs _ => xs.length = C) (fun xs _ => xs.length ≤ C) W0 := by
  intro l J Jx hJ hJx hY h0
  have CG := groups_any W0 hu hx
  have hC1 := cntU_le x x.length
  rw [hC] at CG hC1
  have HC : Hid (C ≤ 1000) := by show _ ≤ _; omega
  refine callsIn_of_wp Try.func25 rfl trivial ?_ rfl
  simp only [Try.ntmps25, List.size_toArray, List.length_cons, List.length_nil, Nat.reduceAdd, Nat.reduceSub, Array.replicate_succ, Array.replicate_zero, List.push_toArray, List.append_toArray, List.nil_append, List.cons_append]
  clear hu hC
  gi_wp2
  refine ⟨trivial, fun h => (by cases h), ?_⟩
  refine (callsIn_wide.2 CG).mono ?_
  clear CG
  rintro e w1 ⟨G, rfl, ⟨B, vs, hI, hBw⟩, hG, hb⟩
  rw [hN] at hG hb
  have HH : Hid (J [] w1 ∧ GpH N G C x vs w1) := ⟨hJ _ _ _ h0 hb, hI.row, hI.len, fun j hj => (hI.lst j hj).mono (by have := hI.low; omega), hG⟩
  clear hI hBw hG hb h0 hB hN
  gi_wp2
  gi_loopw [8] (fun p8 wr => ∃ (i : Nat) (pre : List Value), p8 = .int .i64 i ∧ Hid (pre.length = i ∧ i ≤ C ∧ J pre wr ∧ GpH N G C x vs wr)) (fun p8 _ => C - (intOf p8).toNat)
  case atStart => exact ⟨0, [], rfl, rfl, Nat.zero_le _, HH.out.1, HH.out.2⟩
  case round =>
    clear HH
    obtain ⟨i, pre, rfl, H⟩ := hrel
    by_cases hiC : i < C
    · have cG := H.out.2.2.2.row.cell (i := i) (by rw [H.out.2.2.2.len]; exact hiC)
      have hL := H.out.2.2.2.lst i hiC
      obtain ⟨va, vc, hv, -⟩ := hL.form
      rw [hv] at cG
      obtain ⟨fn, tmps, assign, body, hy, hR⟩ := hY (m - 1) pre (.slice va (grp (nums x) i x.length).length vc) wr H.out.2.2.1 ⟨by have := H.out.1; omega, by rw [H.out.1, ← hv]; exact hL⟩
      obtain ⟨k, hk⟩ : ∃ k, (grp (nums x) i x.length).length = k := ⟨_, rfl⟩
      have HK : Hid (i < C) := hiC
      have hiC' : (i : Int) < C := by omega
      have e1 : IntKind.i64.wrap ((i : Int) + 1) = (i : Int) + 1 := by rw [IntKind.wrap_i64]; have := HC.out; omega
      rw [hk] at hR hy cG
      clear hL hv hiC hk
      gi_wp2
      refine ⟨fun h => (by cases h), ?_⟩
      refine hR.mono ?_
      clear hR
      rintro e w3 (⟨rfl, hj, hkp⟩ | ⟨rfl, hj, hkp⟩)
      · have H3 : Hid ((pre ++ [Value.slice va k vc]).length = i + 1 ∧ i + 1 ≤ C ∧ J (pre ++ [Value.slice va k vc]) w3 ∧ GpH N G C x vs w3) := ⟨by simp [H.out.1], HK.out, hj, H.out.2.2.2.kpg hkp⟩
        clear hj hkp H cG
        gi_wp2
        go_roundw
        case rel => exact ⟨i + 1, _, by simp, H3⟩
        case measure => have := HK.out; simp [intOf]; omega
      · have H3 : Hid ((pre ++ [Value.slice va k vc]).length ≤ C) := by show _ ≤ _; have := H.out.1; have := HK.out; simp; omega
        clear hkp H cG
        gi_wp2
        exact bodyPost_ret (v := .tuple #[]) (by simp [results, Try.results25, go_sem]) rfl ⟨⟨_, rfl⟩, Or.inr ⟨_, H3.out, hj⟩⟩
    · have hiC' : ¬ (i : Int) < C := by omega
      have H3 : Hid (pre.length = C ∧ J pre wr) := ⟨by have := H.out.1; have := H.out.2.1; omega, H.out.2.2.1⟩
      clear H
      gi_wp2
      go_end0
      exact ⟨⟨_, rfl⟩, Or.inl ⟨pre, H3.out⟩⟩
end Go.Proofs.Ytchbnkapajnjgaa
