/- Contracts of package avl over the loaded program: a set in memory; New, Len, Deep, Put, Del. -/
import Derived.Test.YtaackkfegkmpkaaE10
namespace Go.Proofs.Ytaackkfegkmpkaa
open Go.RowKit
attribute [local go_sem] Gr.size Gr.cell? Gr.frozen? Gr.setCell Gr.drew Gr.drewN Gr.of_drew Gr.of_drewN Gr.gr Gr.lt_of1 Gr.le_of1 Gr.lt_of2 Gr.le_of2 Gr.lt_of3 Gr.le_of3 Gr.lt_of4 Gr.le_of4 Gr.lt_of5 Gr.le_of5 Gr.lt_of6 Gr.le_of6 Gr.lt_of7 Gr.le_of7 Gr.lt_of8 Gr.le_of8 Gr.lt_of9 Gr.le_of9 Gr.lt_of10 Gr.le_of10 Gr.lt_of11 Gr.le_of11 Gr.lt_of12 Gr.le_of12 Gr.lt_of13 Gr.le_of13 Gr.lt_of14 Gr.le_of14 Gr.lt_of15 Gr.le_of15 Gr.lt_of16 Gr.le_of16 Gr.lt_of17 Gr.le_of17 Gr.lt_of18 Gr.le_of18 Gr.lt_of19 Gr.le_of19 Gr.lt_of20 Gr.le_of20 Gr.lt_of21 Gr.le_of21 Gr.lt_of22 Gr.le_of22 Gr.lt_of23 Gr.le_of23 Gr.lt_of24 Gr.le_of24
/-- A set's own block. -/
def Hd (w : World) (t f : Nat) (p : Option Addr) (n : Int) : Prop := w.heap[t]? = some (.cells #[.func (.func f) #[] #[], .pointer p, .int .i64 n] 50 (0, 0))
theorem Hd.c0 {w : World} {t f : Nat} {p : Option Addr} {n : Int} (h : Hd w t f p n) : OrdAt w t f := by unfold Hd at h; simp [OrdAt, World.cell?, h]
theorem Hd.c1 {w : World} {t f : Nat} {p : Option Addr} {n : Int} (h : Hd w t f p n) : w.cell? ⟨t, 1, none⟩ = some (.pointer p) := by unfold Hd at h; simp [World.cell?, h]
theorem Hd.c2 {w : World} {t f : Nat} {p : Option Addr} {n : Int} (h : Hd w t f p n) : w.cell? ⟨t, 2, none⟩ = some (.int .i64 n) := by unfold Hd at h; simp [World.cell?, h]
theorem Hd.fz {w : World} {t f : Nat} {p : Option Addr} {n : Int} (h : Hd w t f p n) (i : Nat) : w.frozen? ⟨t, i, none⟩ = false := by unfold Hd at h; simp [World.frozen?, h]
theorem Hd.lt {w : World} {t f : Nat} {p : Option Addr} {n : Int} (h : Hd w t f p n) : t < w.heap.size := (Array.getElem?_eq_some_iff.1 h).1
theorem Hd.set1 {w : World} {t f : Nat} {p : Option Addr} {n : Int} (h : Hd w t f p n) (q : Option Addr) : Hd (w.setCell ⟨t, 1, none⟩ (.pointer q)) t f q n := by
  unfold Hd at *; simp only [World.setCell]; rw [Array.getElem?_modify, if_pos rfl, h]; rfl
theorem Hd.set2 {w : World} {t f : Nat} {p : Option Addr} {n : Int} (h : Hd w t f p n) (m : Int) : Hd (w.setCell ⟨t, 2, none⟩ (.int .i64 m)) t f p m := by
  unfold Hd at *; simp only [World.setCell]; rw [Array.getElem?_modify, if_pos rfl, h]; rfl
theorem Hd.wr {S : List Nat} {w w' : World} {t f : Nat} {p : Option Addr} {n : Int} (h : Hd w t f p n) (hg : Wr S w w') (ht : t ∉ S) : Hd w' t f p n := by
  have := h.lt
  unfold Hd at *; rw [hg.block t this ht]; exact h
theorem Hd.gr {w w' : World} {t f : Nat} {p : Option Addr} {n : Int} (h : Hd w t f p n) (hg : IsGr w w') : Hd w' t f p n := h.wr (S := []) (Wr.of_gr hg) (by simp)
/-- The set at t, by the order f with the keys k, is kept as the tree T. -/
structure St (k : Int → Int) (w : World) (t f : Nat) (T : AT) : Prop where
  hd : Hd w t f T.ptr (T.inl.length : Nat)
  tree : InT w T
  nodup : T.ids.Nodup
  apart : t ∉ T.ids
  ok : T.ok
  ints : Int64s T
  rise : Rise k T.inl
theorem St.wr {k : Int → Int} {S : List Nat} {w w' : World} {t f : Nat} {T : AT} (h : St k w t f T) (hg : Wr S w w') (hS : ∀ a ∈ S, a ≠ t ∧ a ∉ T.ids) : St k w' t f T :=
  ⟨h.hd.wr hg (fun hm => (hS t hm).1 rfl), h.tree.wr hg (fun b hb hm => (hS b hm).2 hb), h.nodup, h.apart, h.ok, h.ints, h.rise⟩
theorem St.gr {k : Int → Int} {w w' : World} {t f : Nat} {T : AT} (h : St k w t f T) (hg : IsGr w w') : St k w' t f T := h.wr (S := []) (Wr.of_gr hg) (by simp)
theorem St.ht {k : Int → Int} {w : World} {t f : Nat} {T : AT} (h : St k w t f T) {n : Nat} (hn : T.inl.length ≤ n) : T.ht ≤ n := Nat.le_trans (ht_le_len T) (by have := h.ok; omega)
theorem ins_rise {k : Int → Int} {nb : Nat} {v : Int} {T : AT} (hr : Rise k T.inl) (h : has k v T = false) : Rise k (ins k nb v T).inl := by
  obtain ⟨A, B, q1, q2, q3, q4⟩ := ins_spec (nb := nb) hr h
  rw [q1] at hr
  rw [q2]
  unfold Rise at *
  rw [List.pairwise_append] at hr ⊢
  obtain ⟨h1, h2, h3⟩ := hr
  refine ⟨h1, List.pairwise_cons.2 ⟨q4, h2⟩, fun a ha b hb => ?_⟩
  rcases List.mem_cons.1 hb with rfl | hb
  · exact q3 a ha
  · exact h3 a ha b hb
theorem del_rise {k : Int → Int} {v : Int} {T : AT} (hr : Rise k T.inl) (h : has k v T = true) : Rise k (del k v T).inl := by
  obtain ⟨A, y, B, q1, _, q3⟩ := del_spec h
  rw [q1] at hr
  rw [q3]
  exact hr.sublist ((List.Sublist.refl A).append (List.sublist_cons_self y B))
theorem ins_int64s {k : Int → Int} {nb : Nat} {v : Int} {T : AT} (hi : Int64s T) (hv : I64 v) (h : has k v T = false) : Int64s (ins k nb v T) := fun x hx => by
  rcases List.mem_cons.1 ((ins_perm h).subset hx) with rfl | h
  · exact hv
  · exact hi x h
theorem del_int64s {k : Int → Int} {v : Int} {T : AT} (hi : Int64s T) (h : has k v T = true) : Int64s (del k v T) := fun x hx => by
  obtain ⟨A, y, B, q1, _, q3⟩ := del_spec h
  rw [q3] at hx
  refine hi x (q1 ▸ ?_)
  rcases List.mem_append.1 hx with h | h
  · exact List.mem_append.2 (Or.inl h)
  · exact List.mem_append.2 (Or.inr (List.mem_cons.2 (Or.inr h)))

set_option maxRecDepth 20000 in set_option maxHeartbeats 2000000 in
theorem New_any (f : Nat) (w : World) : Calls Try.prog 8 #[.func (.func f) #[] #[]] w fun e w' => e = .returned (.pointer (some ⟨w.heap.size, 0, none⟩)) ∧ w' = w.alloc (.cells #[.func (.func f) #[] #[], .pointer none, .int .i64 0] 50 (0, 0)) := by
  go_enter Try.func8, Try.ntmps8
  go_wp2_with fail
  go_ret
  exact ⟨rfl, rfl⟩
theorem New_St (k : Int → Int) (f : Nat) (w : World) : St k (w.alloc (.cells #[.func (.func f) #[] #[], .pointer none, .int .i64 0] 50 (0, 0))) w.heap.size f .nil := by
  refine ⟨?_, trivial, by simp [AT.ids, AT.inl], by simp [AT.ids, AT.inl], trivial, fun x hx => by simp [AT.inl] at hx, by simp [Rise, AT.inl]⟩
  unfold Hd World.alloc
  simp [AT.ptr, AT.inl]
set_option maxRecDepth 20000 in set_option maxHeartbeats 2000000 in
theorem Len_any {k : Int → Int} {t f : Nat} {T : AT} (w : World) (h : St k w t f T) : Calls Try.prog 13 #[.pointer (some ⟨t, 0, none⟩)] w fun e w' => e = .returned (.int .i64 (T.inl.length : Nat)) ∧ w' = w := by
  have c2 := h.hd.c2
  obtain ⟨n, hn⟩ : ∃ n : Int, ((T.inl.length : Nat) : Int) = n := ⟨_, rfl⟩
  rw [hn] at c2 ⊢
  clear hn h
  go_enter Try.func13, Try.ntmps13
  go_wp2_with fail
  go_ret
  exact ⟨rfl, rfl⟩
set_option maxRecDepth 20000 in set_option maxHeartbeats 2000000 in
theorem Deep_any {k : Int → Int} {t f : Nat} {T : AT} (w : World) (h : St k w t f T) : Calls Try.prog 23 #[.pointer (some ⟨t, 0, none⟩)] w fun e w' => e = .returned (.int .i64 (T.ht : Nat)) ∧ w' = w := by
  have c1 := h.hd.c1
  have hT := h.tree
  clear h
  go_enter Try.func23, Try.ntmps23
  go_wp2_with fail
  have D := depth_any T w hT
  obtain ⟨n, hn⟩ : ∃ n : Int, ((T.ht : Nat) : Int) = n := ⟨_, rfl⟩
  rw [hn] at D
  refine D.mono ?_
  clear D
  rintro e w' ⟨rfl, rfl⟩
  clear hT
  have A : Hid (((T.ht : Nat) : Int) = n) := hn
  clear hn
  go_wp2_with fail
  go_ret
  rw [A.out]
  exact ⟨rfl, rfl⟩

set_option maxRecDepth 20000 in set_option maxHeartbeats 2000000 in
theorem Put_old {f : Nat} {k : Int → Int} (hO : Ordr f k) {t : Nat} {T : AT} (v : Int) (hv : I64 v) (w : World) (h : St k w t f T) (hh : has k v T = true) :
    Calls Try.prog 26 #[.pointer (some ⟨t, 0, none⟩), .int .i64 v] w fun e w' => e = .returned (.bool false) ∧ IsGr w w' := by
  have c1 := h.hd.c1
  have C := fun w' (hg : IsGr w w') => with_old hO t v hv T w' (h.hd.c0.gr hg) (h.tree.gr hg) h.ints hh
  clear h
  go_enter Try.func26, Try.ntmps26
  go_wp2_with fail
  refine (C _ (IsGr.refl _)).mono ?_
  rintro e w1 ⟨rfl, hg1⟩
  go_wp2_with fail
  go_ret
  exact ⟨rfl, hg1⟩

set_option maxRecDepth 20000 in set_option maxHeartbeats 2000000 in
theorem Put_new {f : Nat} {k : Int → Int} (hO : Ordr f k) {t : Nat} {T : AT} (v : Int) (hv : I64 v) (w : World) (h : St k w t f T) (hh : has k v T = false) (hl : T.inl.length ≤ 400) :
    Calls Try.prog 26 #[.pointer (some ⟨t, 0, none⟩), .int .i64 v] w fun e w' => ∃ nb, w.heap.size ≤ nb ∧ e = .returned (.bool true) ∧ St k w' t f (ins k nb v T) ∧ Wr (t :: T.ids) w w' := by
  have c1 := h.hd.c1
  have hht := h.ht hl
  have C := with_new hO t v hv T w h.hd.c0 h.tree h.ints h.ok (by omega) h.nodup hh
  go_enter Try.func26, Try.ntmps26
  go_wp2_with fail
  refine C.mono ?_
  clear C
  rintro e w1 ⟨nb, hn1, hn2, rfl, hT, hw1⟩
  obtain ⟨U, hU⟩ : ∃ U, ins k nb v T = U := ⟨_, rfl⟩
  rw [hU] at hT ⊢
  have h1 := h.hd.wr hw1 h.apart
  have f1 := h1.fz 1
  have f2 := h1.fz 2
  have d1 := h1.c1
  have d2 := h1.c2
  obtain ⟨n, hn⟩ : ∃ n : Int, ((T.inl.length : Nat) : Int) = n := ⟨_, rfl⟩
  rw [hn] at d2 h1
  have hn3 : 0 ≤ n ∧ n ≤ 400 := by omega
  have wn : IntKind.i64.wrap (n + 1) = n + 1 := by rw [IntKind.wrap_i64]; omega
  have nU : U.ids.Nodup := hU ▸ (ins_ids hh).nodup_iff.2 (List.nodup_cons.2 ⟨fun hm => by have := h.tree.lt nb hm; omega, h.nodup⟩)
  have tU : t ∉ U.ids := hU ▸ (fun hm => by rcases List.mem_cons.1 ((ins_ids hh).subset hm) with e | e; have := h.hd.lt; omega; exact h.apart e)
  have oU : U.ok := hU ▸ (ins_ok (nb := nb) h.ok hh).1
  have iU : Int64s U := hU ▸ ins_int64s h.ints hv hh
  have rU : Rise k U.inl := hU ▸ ins_rise h.rise hh
  have lU : Hid (((U.inl.length : Nat) : Int) = n + 1) := by
    subst hU
    show _ = _
    have := (ins_perm (nb := nb) hh).length_eq; simp only [List.length_cons] at this; omega
  clear hl hht hh hn
  go_wp2_with fail
  go_ret
  subst hU
  exact ⟨nb, hn1, rfl, ⟨by rw [lU.out]; exact (h1.set1 _).set2 _, (hT.set _ _ _ tU).set _ _ _ tU, nU, tU, oU, iU, rU⟩, ((hw1.mono (fun a ha => List.mem_cons_of_mem _ ha)).set _ _ _ (Or.inl List.mem_cons_self)).set _ _ _ (Or.inl List.mem_cons_self)⟩

set_option maxRecDepth 20000 in set_option maxHeartbeats 2000000 in
theorem Del_old {f : Nat} {k : Int → Int} (hO : Ordr f k) {t : Nat} {T : AT} (v : Int) (hv : I64 v) (w : World) (h : St k w t f T) (hh : has k v T = false) :
    Calls Try.prog 27 #[.pointer (some ⟨t, 0, none⟩), .int .i64 v] w fun e w' => e = .returned (.bool false) ∧ IsGr w w' := by
  have c1 := h.hd.c1
  have C := fun w' (hg : IsGr w w') => without_no hO t v hv T w' (h.hd.c0.gr hg) (h.tree.gr hg) h.ints hh
  clear h
  go_enter Try.func27, Try.ntmps27
  go_wp2_with fail
  refine (C _ (IsGr.refl _)).mono ?_
  rintro e w1 ⟨rfl, hg1⟩
  go_wp2_with fail
  go_ret
  exact ⟨rfl, hg1⟩

set_option maxRecDepth 20000 in set_option maxHeartbeats 2000000 in
theorem Del_new {f : Nat} {k : Int → Int} (hO : Ordr f k) {t : Nat} {T : AT} (v : Int) (hv : I64 v) (w : World) (h : St k w t f T) (hh : has k v T = true) (hl : T.inl.length ≤ 400) :
    Calls Try.prog 27 #[.pointer (some ⟨t, 0, none⟩), .int .i64 v] w fun e w' => e = .returned (.bool true) ∧ St k w' t f (del k v T) ∧ Wr (t :: T.ids) w w' := by
  have c1 := h.hd.c1
  have hht := h.ht hl
  have C := without_del hO t v hv T w h.hd.c0 h.tree h.ints h.ok (by omega) h.nodup hh
  go_enter Try.func27, Try.ntmps27
  go_wp2_with fail
  refine C.mono ?_
  clear C
  rintro e w1 ⟨rfl, hT, hw1⟩
  obtain ⟨U, hU⟩ : ∃ U, del k v T = U := ⟨_, rfl⟩
  rw [hU] at hT ⊢
  have h1 := h.hd.wr hw1 h.apart
  have f1 := h1.fz 1
  have f2 := h1.fz 2
  have d1 := h1.c1
  have d2 := h1.c2
  obtain ⟨n, hn⟩ : ∃ n : Int, ((T.inl.length : Nat) : Int) = n := ⟨_, rfl⟩
  rw [hn] at d2 h1
  have hn3 : 0 ≤ n ∧ n ≤ 400 := by omega
  have wn : IntKind.i64.wrap (n - 1) = n - 1 := by rw [IntKind.wrap_i64]; omega
  have nU : U.ids.Nodup := hU ▸ (del_sub hh).nodup h.nodup
  have tU : t ∉ U.ids := hU ▸ (fun hm => h.apart ((del_sub hh).subset hm))
  have oU : U.ok := hU ▸ (del_ok h.ok hh).1
  have iU : Int64s U := hU ▸ del_int64s h.ints hh
  have rU : Rise k U.inl := hU ▸ del_rise h.rise hh
  have lU : Hid (((U.inl.length : Nat) : Int) = n - 1) := by
    subst hU
    show _ = _
    obtain ⟨A, y, B, q1, _, q3⟩ := del_spec hh; have e1 := congrArg List.length q1; have e2 := congrArg List.length q3; simp only [List.length_append, List.length_cons] at e1 e2; omega
  clear hl hht hh hn
  go_wp2_with fail
  go_ret
  subst hU
  exact ⟨rfl, ⟨by rw [lU.out]; exact (h1.set1 _).set2 _, (hT.set _ _ _ tU).set _ _ _ tU, nU, tU, oU, iU, rU⟩, ((hw1.mono (fun a ha => List.mem_cons_of_mem _ ha)).set _ _ _ (Or.inl List.mem_cons_self)).set _ _ _ (Or.inl List.mem_cons_self)⟩
end Go.Proofs.Ytaackkfegkmpkaa
