/- Contracts of package avl over the loaded program: all things, told in order. -/
import Derived.Test.YtaackkfegkmpkaaE14
import Derived.RangeFuncNested
import Derived.RangeFuncBound
import Derived.RangeFuncCalls
import Derived.RangeFuncLeaves
import Derived.RangeFuncFrom
import Derived.OwnWalkIn
import Derived.TacticsInMore
namespace Go.Proofs.Ytaackkfegkmpkaa
open Go.RowKit Go.Shelf
attribute [local go_sem] Oper.semAt_some
theorem Nd.below {n₀ : Nat} {w w' : World} {b : Nat} {v : Int} {l r : Option Addr} {d : Int} (h : Nd w b v l r d) (hb : b < n₀) (hg : Below n₀ w w') : Nd w' b v l r d := by
  unfold Nd at *; rw [hg.block b hb]; exact h
theorem InT.below {n₀ : Nat} {w w' : World} (hg : Below n₀ w w') : ∀ {t : AT}, InT w t → (∀ b ∈ t.ids, b < n₀) → InT w' t
  | .nil, _, _ => trivial
  | .nd c v l r, ⟨h1, h2, h3⟩, hd => by
    simp only [mem_nd] at hd
    exact ⟨h1.below (hd c (Or.inl rfl)) hg, InT.below hg h2 (fun b hb => hd b (Or.inr (Or.inl hb))), InT.below hg h3 (fun b hb => hd b (Or.inr (Or.inr hb)))⟩
theorem room_none {F : Fence} (hd : F.depth = none) (k : Nat) : F.room k := fun d h => by rw [hd] at h; cases h
theorem round_any {F : Fence} (hd : F.depth = none) {m m' : Nat} {P : Program} {l : Nat} {f : FuncId} {tmps : Array Value} {assign body : Code} {w : World} {R : Ending → World → Prop}
    (h : RoundIn F m P l f tmps assign body w R) : RoundIn F m' P l f tmps assign body w R := ⟨h.1, fun c cs _ => h.2 c cs (room_none hd _)⟩
theorem yield_any {F : Fence} (hd : F.depth = none) {m : Nat} (m' : Nat) {P : Program} {l : Nat} {args : Array Value} {W : World} {R : Ending → World → Prop} (h : YieldAt F m P l args W R) : YieldAt F m' P l args W R := by
  obtain ⟨fn, tmps, assign, body, hy, hR⟩ := h
  exact ⟨fn, tmps, assign, body, hy, round_any hd hR⟩
set_option maxRecDepth 100000 in
set_option maxHeartbeats 2000000 in
theorem each_in (F : Fence) (hd : F.depth = none) (h6 : F.fn 36) (hro : F.round = none) (l n₀ N : Nat) (J Jx : List Int → World → Prop)
    (hY : ∀ m pre x W, I64 x → J pre W → pre.length < N → YieldAt F m Try.prog l #[.int .i64 x] W fun e W' =>
      (e = .returned (.bool true) ∧ J (pre ++ [x]) W' ∧ Below n₀ W W') ∨ (e = .returned (.bool false) ∧ Jx (pre ++ [x]) W')) (T : AT) :
    ∀ (n : Nat) (pre : List Int) (W : World), InT W T → Int64s T → (∀ b ∈ T.ids, b < n₀) → J pre W → pre.length + T.vals.length ≤ N →
      CallsIn F n Try.prog 36 #[.pointer T.ptr, .func (.yield l) #[] #[]] W fun e W' =>
        (e = .returned (.bool true) ∧ J (pre ++ T.vals) W' ∧ Below n₀ W W') ∨ (e = .returned (.bool false) ∧ ∃ q, q <+: T.vals ∧ Jx (pre ++ q) W') := by
  induction T with
  | nil =>
    intro n pre W ht _ hb hJ _
    show CallsIn F n Try.prog 36 #[.pointer none, .func (.yield l) #[] #[]] W _
    refine callsIn_of_wp Try.func36 rfl h6 ?_ hro
    simp only [Try.ntmps36, List.size_toArray, List.length_cons, List.length_nil, Nat.reduceAdd, Nat.reduceSub, Array.replicate_succ, Array.replicate_zero, List.push_toArray, List.append_toArray, List.nil_append, List.cons_append]
    gi_wp2
    all_goals first
      | exact absurd ‹some undef = some (Value.bool _)› (by intro h; cases h)
      | (refine ⟨fun _ h => (by cases h), ?_⟩; gi_wp2; go_ret; exact .inl ⟨rfl, by simpa [AT.vals, AT.inl] using hJ, Below.refl _ _⟩)
  | nd b v tl tr ihl ihr =>
    intro n pre W ht hi hlt hJ hN
    obtain ⟨i1, i2, i3⟩ := hi.nd
    have hdd : ∀ k : Nat, (F.depth.isSome = true → 1 ≤ k) := fun k h => by rw [hd] at h; cases h
    rw [vals_nd]
    rw [vals_nd] at hN
    simp only [List.length_append, List.length_cons] at hN
    simp only [mem_nd] at hlt
    have hb := hlt b (Or.inl rfl)
    have hl := ht.2.1
    have hr := ht.2.2
    have hNd := ht.1
    have bl : ∀ a ∈ tl.ids, a < n₀ := fun a ha => hlt a (Or.inr (Or.inl ha))
    have br : ∀ a ∈ tr.ids, a < n₀ := fun a ha => hlt a (Or.inr (Or.inr ha))
    have c1 := hNd.c1
    clear hlt ht
    have hy2 : ∀ W1, J (pre ++ tl.vals) W1 → Below n₀ W W1 → YieldAt F (n - 1) Try.prog l #[.int .i64 v] W1 fun e W2 =>
        (e = .returned (.bool true) ∧ J (pre ++ tl.vals ++ [v]) W2 ∧ Below n₀ W W2 ∧ W2.cell? ⟨b, 2, none⟩ = some (.pointer tr.ptr) ∧ InT W2 tr) ∨ (e = .returned (.bool false) ∧ Jx (pre ++ tl.vals ++ [v]) W2) := fun W1 hJ1 hb1 =>
      YieldAt.mono (hY (n - 1) _ v W1 i1 hJ1 (by simp; omega)) fun e W2 h => h.elim
        (fun ⟨he, hj, hb2⟩ => .inl ⟨he, hj, hb1.trans hb2, (hNd.below hb (hb1.trans hb2)).c2, hr.below (hb1.trans hb2) br⟩) .inr
    have ih1 := (ihl (n - 1) pre W hl i2 bl hJ (by omega)).mono (R' := fun e W1 =>
        (e = .returned (.bool true) ∧ W1.cell? ⟨b, 0, none⟩ = some (.int .i64 v) ∧ YieldAt F (n - 1) Try.prog l #[.int .i64 v] W1 fun e W2 =>
          (e = .returned (.bool true) ∧ J (pre ++ tl.vals ++ [v]) W2 ∧ Below n₀ W W2 ∧ W2.cell? ⟨b, 2, none⟩ = some (.pointer tr.ptr) ∧ InT W2 tr) ∨ (e = .returned (.bool false) ∧ Jx (pre ++ tl.vals ++ [v]) W2)) ∨
        (e = .returned (.bool false) ∧ ∃ q, q <+: tl.vals ∧ Jx (pre ++ q) W1))
      (fun e W1 h => h.elim (fun ⟨he, hj, hb1⟩ => .inl ⟨he, (hNd.below hb hb1).c0, hy2 W1 hj hb1⟩) .inr)
    clear hy2 ihl
    show CallsIn F n Try.prog 36 #[.pointer (some ⟨b, 0, none⟩), .func (.yield l) #[] #[]] W _
    refine callsIn_of_wp Try.func36 rfl h6 ?_ hro
    simp only [Try.ntmps36, List.size_toArray, List.length_cons, List.length_nil, Nat.reduceAdd, Nat.reduceSub, Array.replicate_succ, Array.replicate_zero, List.push_toArray, List.append_toArray, List.nil_append, List.cons_append]
    gi_wp2_with (first
      | ((try refine ⟨hdd _, ?_⟩); gi_at_call 36; refine ih1.mono ?_; clear ih1; rintro e W1 (⟨rfl, c1', fn, tmps, assign, body, hy, hR⟩ | ⟨rfl, q, hq, hx1⟩))
      | ((try refine ⟨hdd _, ?_⟩); refine hR.mono ?_; clear hR; rintro e W2 (⟨rfl, hJ2, hb2, c2', hr2⟩ | ⟨rfl, hx2⟩))
      | ((try refine ⟨hdd _, ?_⟩); gi_at_call 36; refine (ihr (n - 1) _ _ hr2 i3 br hJ2 (by simp; omega)).mono ?_; rintro e W3 (⟨rfl, hJ3, hb3⟩ | ⟨rfl, q, hq, hx3⟩)))
    · go_ret
      exact .inl ⟨rfl, by simpa [List.append_assoc] using hJ3, hb2.trans hb3⟩
    · go_ret
      obtain ⟨r, hr'⟩ := hq
      exact .inr ⟨rfl, tl.vals ++ v :: q, ⟨r, by simp [← hr']⟩, by simpa [List.append_assoc] using hx3⟩
    · go_ret
      exact .inr ⟨rfl, tl.vals ++ [v], ⟨tr.vals, by simp⟩, by simpa [List.append_assoc] using hx2⟩
    · refine ⟨fun _ h => (by cases h), ?_⟩
      gi_wp2
      go_ret
      exact .inr ⟨rfl, q, hq.trans (by simp), hx1⟩
set_option maxHeartbeats 1000000 in
theorem all1_in (F : Fence) (hd : F.depth = none) (n : Nat) (h5 : F.fn 35) (h6 : F.fn 36) (hro : F.round = none) (l Bt t n₀ : Nat) (T : AT) (J Jx : List Int → World → Prop)
    (hY : ∀ pre x W, I64 x → J pre W → pre.length < T.vals.length → YieldAt F (n - 1) Try.prog l #[.int .i64 x] W fun e W' =>
      (e = .returned (.bool true) ∧ J (pre ++ [x]) W' ∧ Below n₀ W W') ∨ (e = .returned (.bool false) ∧ Jx (pre ++ [x]) W'))
    (W : World) (hBt : W.cell? ⟨Bt, 0, none⟩ = some (.pointer (some ⟨t, 0, none⟩))) (hc : W.cell? ⟨t, 1, none⟩ = some (.pointer T.ptr)) (hT : InT W T) (hi : Int64s T) (hb : ∀ b ∈ T.ids, b < n₀) (h0 : J [] W) :
    CallsIn F n Try.prog 35 #[.func (.yield l) #[] #[], .pointer (some ⟨Bt, 0, none⟩)] W fun e W' => (∃ v, e = .returned v) ∧
      ((∃ ys, ys = T.vals ∧ J ys W') ∨ (∃ pre, pre <+: T.vals ∧ Jx pre W')) := by
  have hdd : ∀ k : Nat, (F.depth.isSome = true → 1 ≤ k) := fun k h => by rw [hd] at h; cases h
  have hp := each_in F hd h6 hro l n₀ T.vals.length J Jx (fun m pre x W hx hj hl => yield_any hd m (hY pre x W hx hj hl)) T (n - 1) [] W hT hi hb h0 (by simp)
  generalize T.ptr = q at *
  refine callsIn_of_wp Try.func35 rfl h5 ?_ hro
  simp only [Try.ntmps35, List.size_toArray, List.length_cons, List.length_nil, Nat.reduceAdd, Nat.reduceSub, Array.replicate_succ, Array.replicate_zero, List.push_toArray, List.append_toArray, List.nil_append, List.cons_append]
  gi_wp2_with ((try refine ⟨hdd _, ?_⟩); gi_at_call 36; refine hp.mono ?_; clear hp; rintro e W1 (⟨rfl, hJ1, _⟩ | ⟨rfl, q, hq, hx⟩))
  · go_end0
    exact ⟨⟨_, rfl⟩, .inl ⟨_, rfl, by simpa using hJ1⟩⟩
  · go_end0
    exact ⟨⟨_, rfl⟩, .inr ⟨q, hq, by simpa using hx⟩⟩
set_option maxHeartbeats 1000000 in
theorem all_in (F : Fence) (n : Nat) (h4 : F.fn 17) (hro : F.round = none) (p : Addr) (w : World) :
    CallsIn F n Try.prog 17 #[.pointer (some p)] w fun e w' => e = .returned (.func (.func 35) #[] #[.pointer (some ⟨w.heap.size, 0, none⟩)]) ∧ w' = w.alloc (.cells #[.pointer (some p)] 23) := by
  refine callsIn_of_wp Try.func17 rfl h4 ?_ hro
  simp only [Try.ntmps17, List.size_toArray, List.length_cons, List.length_nil, Nat.reduceAdd, Nat.reduceSub, Array.replicate_succ, Array.replicate_zero, List.push_toArray, List.append_toArray, List.nil_append, List.cons_append]
  gi_wp2
  go_ret
  exact ⟨rfl, rfl⟩
abbrev I64x := { x : Int // I64 x }
theorem all_stops (F : Fence) (hd : F.depth = none) (n : Nat) (h5 : F.fn 35) (h6 : F.fn 36) (hro : F.round = none) (Bt t n₀ : Nat) (T : AT) (w : World) (hBt : Bt < w.heap.size) (hn₀ : n₀ ≤ w.heap.size)
    (hc : w.cell? ⟨Bt, 0, none⟩ = some (.pointer (some ⟨t, 0, none⟩))) (hT : InT w T) (hi : Int64s T) (ht : t < w.heap.size) (h1 : w.cell? ⟨t, 1, none⟩ = some (.pointer T.ptr)) (hb : ∀ b ∈ T.ids, b < n₀) :
    SeqStopsK F n Try.prog 35 #[.pointer (some ⟨Bt, 0, none⟩)] (fun x : I64x => #[Value.int .i64 x.1]) (Below n₀) (fun ys => ys.map (·.1) = T.vals) (fun pre => pre.map (·.1) <+: T.vals) T.vals.length w := fun l J Jx W hW _ _ hY h0 => by
  refine (all1_in F hd n h5 h6 hro l Bt t n₀ T (fun pre W => ∃ ys : List I64x, ys.map (·.1) = pre ∧ J ys W) (fun pre W => ∃ ys : List I64x, ys.map (·.1) = pre ∧ Jx ys W) ?_ W ((hW.cell (p := ⟨Bt, 0, none⟩) hBt).trans hc) ((hW.cell (p := ⟨t, 1, none⟩) ht).trans h1) (hT.below (hW.mono hn₀) hb) hi hb ⟨[], rfl, h0⟩).mono ?_
  · rintro pre x W hx ⟨ys, rfl, hj⟩ hl
    refine YieldAt.mono (hY ys ⟨x, hx⟩ W hj (by simpa using hl)) fun e W' h => ?_
    rcases h with ⟨h1, h2, h3⟩ | ⟨h1, h2⟩
    · exact .inl ⟨h1, ⟨ys ++ [⟨x, hx⟩], by simp, h2⟩, h3⟩
    · exact .inr ⟨h1, ys ++ [⟨x, hx⟩], by simp, h2⟩
  · rintro e W' ⟨h1, h2⟩
    refine ⟨h1, ?_⟩
    rcases h2 with ⟨ys, h3, zs, h4, h5⟩ | ⟨pre, h3, zs, h4, h5⟩
    · exact .inl ⟨zs, h4.trans h3, h5⟩
    · exact .inr ⟨zs, by show zs.map (·.1) <+: _; rw [h4]; exact h3, h5⟩
end Go.Proofs.Ytaackkfegkmpkaa
