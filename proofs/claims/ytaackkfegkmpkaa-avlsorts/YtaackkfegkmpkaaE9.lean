/- Contracts of package avl over the loaded program: with. -/
import Derived.Test.YtaackkfegkmpkaaE8
namespace Go.Proofs.Ytaackkfegkmpkaa
open Go.RowKit
attribute [local go_sem] Gr.size Gr.cell? Gr.frozen? Gr.setCell Gr.drew Gr.drewN Gr.of_drew Gr.of_drewN Gr.gr Gr.lt_of1 Gr.le_of1 Gr.lt_of2 Gr.le_of2 Gr.lt_of3 Gr.le_of3 Gr.lt_of4 Gr.le_of4 Gr.lt_of5 Gr.le_of5 Gr.lt_of6 Gr.le_of6 Gr.lt_of7 Gr.le_of7 Gr.lt_of8 Gr.le_of8 Gr.lt_of9 Gr.le_of9 Gr.lt_of10 Gr.le_of10 Gr.lt_of11 Gr.le_of11 Gr.lt_of12 Gr.le_of12 Gr.lt_of13 Gr.le_of13 Gr.lt_of14 Gr.le_of14 Gr.lt_of15 Gr.le_of15 Gr.lt_of16 Gr.le_of16 Gr.lt_of17 Gr.le_of17 Gr.lt_of18 Gr.le_of18 Gr.lt_of19 Gr.le_of19 Gr.lt_of20 Gr.le_of20 Gr.lt_of21 Gr.le_of21 Gr.lt_of22 Gr.le_of22 Gr.lt_of23 Gr.le_of23 Gr.lt_of24 Gr.le_of24
/-- All of its things are ints. -/
def Int64s (T : AT) : Prop := ∀ x ∈ T.inl, I64 x.2
theorem Int64s.nd {b : Nat} {x : Int} {l r : AT} (h : Int64s (.nd b x l r)) : I64 x ∧ Int64s l ∧ Int64s r := by
  unfold Int64s at *
  simp only [AT.inl, List.mem_append, List.mem_cons] at h
  exact ⟨h (b, x) (Or.inr (Or.inl rfl)), fun y hy => h y (Or.inl hy), fun y hy => h y (Or.inr (Or.inr hy))⟩
theorem ins_perm {k : Int → Int} {nb : Nat} {v : Int} : ∀ {t : AT}, has k v t = false → (ins k nb v t).inl.Perm ((nb, v) :: t.inl)
  | .nil, _ => by simp [ins, AT.inl]
  | .nd b x l r, hh => by
    simp only [has] at hh
    split at hh
    · cases hh
    · rename_i e1
      split at hh
      · rename_i e2
        simp only [ins, if_neg e1, if_pos e2, bal_inl, AT.inl]
        exact ((ins_perm hh).append_right _)
      · rename_i e2
        simp only [ins, if_neg e1, if_neg e2, bal_inl, AT.inl]
        exact ((((ins_perm hh).cons (b, x)).trans (List.Perm.swap _ _ _)).append_left _).trans List.perm_middle
theorem ins_ids {k : Int → Int} {nb : Nat} {v : Int} {t : AT} (h : has k v t = false) : (ins k nb v t).ids.Perm (nb :: t.ids) := (ins_perm h).map _
theorem OrdAt.lt {w : World} {t f : Nat} (h : OrdAt w t f) : t < w.heap.size := by
  unfold OrdAt World.cell? at h
  simp only at h
  cases hb : w.heap[t]? with
  | none => rw [hb] at h; cases h
  | some o => exact (Array.getElem?_eq_some_iff.1 hb).1
theorem OrdAt.wr {S : List Nat} {w w' : World} {t f : Nat} (h : OrdAt w t f) (hg : Wr S w w') (ht : t ∉ S) : OrdAt w' t f := by
  have hlt := h.lt
  unfold OrdAt World.cell? at *
  simp only at *
  rw [hg.block t hlt ht]; exact h
theorem OrdAt.gr {w w' : World} {t f : Nat} (h : OrdAt w t f) (hg : IsGr w w') : OrdAt w' t f := h.wr (S := []) (Wr.of_gr hg) (by simp)
set_option maxRecDepth 20000 in set_option maxHeartbeats 2000000 in
theorem with_nil (t : Nat) (v : Int) (w : World) :
    Calls Try.prog 41 #[.pointer (some ⟨t, 0, none⟩), .pointer none, .int .i64 v] w fun e w' => e = .returned (.tuple #[.pointer (some ⟨w.heap.size, 0, none⟩), .bool true]) ∧ w' = w.alloc (.cells #[.int .i64 v, .pointer none, .pointer none, .int .i64 1] 54 (0, 0)) := by
  go_enter Try.func41, Try.ntmps41
  go_wp2_with fail
  exact bodyPost_ret (v := .tuple #[.pointer (some ⟨w.heap.size, 0, none⟩), .bool true]) (by simp [results, Try.results41, go_sem]) rfl ⟨rfl, rfl⟩

set_option maxRecDepth 20000 in set_option maxHeartbeats 2000000 in
theorem with_eq {f : Nat} {k : Int → Int} (hO : Ordr f k) (t : Nat) (v : Int) (hv : I64 v) (b : Nat) (x d : Int) (pl pr : Option Addr) (w : World) (ho : OrdAt w t f) (h : Nd w b x pl pr d) (hx : I64 x) (hk : k v = k x) :
    Calls Try.prog 41 #[.pointer (some ⟨t, 0, none⟩), .pointer (some ⟨b, 0, none⟩), .int .i64 v] w fun e w' => e = .returned (.tuple #[.pointer (some ⟨b, 0, none⟩), .bool false]) ∧ IsGr w w' := by
  have c0 := h.c0
  go_enter Try.func41, Try.ntmps41
  go_wp2_with fail
  refine (place_eq hO t v x _ ho hv hx hk).mono ?_
  rintro e w1 ⟨rfl, hg1⟩
  go_wp2_with fail
  exact bodyPost_ret (v := .tuple #[.pointer (some ⟨b, 0, none⟩), .bool false]) (by simp [results, Try.results41, go_sem]) rfl ⟨rfl, hg1⟩

set_option maxRecDepth 20000 in set_option maxHeartbeats 2000000 in
theorem with_old_lt {f : Nat} {k : Int → Int} (hO : Ordr f k) (t : Nat) (v : Int) (hv : I64 v) (b : Nat) (x d : Int) (l r : AT) (w : World) (ho : OrdAt w t f) (h : Nd w b x l.ptr r.ptr d) (hx : I64 x) (hk : k v < k x)
    (ih : ∀ w1, IsGr w w1 → Calls Try.prog 41 #[.pointer (some ⟨t, 0, none⟩), .pointer l.ptr, .int .i64 v] w1 fun e w' => e = .returned (.tuple #[.pointer l.ptr, .bool false]) ∧ IsGr w1 w') :
    Calls Try.prog 41 #[.pointer (some ⟨t, 0, none⟩), .pointer (some ⟨b, 0, none⟩), .int .i64 v] w fun e w' => e = .returned (.tuple #[.pointer (some ⟨b, 0, none⟩), .bool false]) ∧ IsGr w w' := by
  have c0 := h.c0
  go_enter Try.func41, Try.ntmps41
  go_wp2_with fail
  refine (place_lt hO t v x _ ho hv hx hk).mono ?_
  rintro e w1 ⟨rfl, hg1⟩
  have c1 := (h.gr hg1).c1
  go_wp2_with fail
  refine (ih _ hg1).mono ?_
  rintro e w2 ⟨rfl, hg2⟩
  go_wp2_with fail
  exact bodyPost_ret (v := .tuple #[.pointer (some ⟨b, 0, none⟩), .bool false]) (by simp [results, Try.results41, go_sem]) rfl ⟨rfl, hg1.trans hg2⟩

set_option maxRecDepth 20000 in set_option maxHeartbeats 2000000 in
theorem with_new_lt {f : Nat} {k : Int → Int} (hO : Ordr f k) (t : Nat) (v : Int) (hv : I64 v) (b : Nat) (x d : Int) (l r : AT) (w : World) (ho : OrdAt w t f) (h : Nd w b x l.ptr r.ptr d) (hl : InT w l) (hr : InT w r) (hx : I64 x) (hk : k v < k x)
    (hnd : (AT.nd b x l r).ids.Nodup) (kO : r.ht ≤ 700) (U : Nat → AT) (hU : ∀ nb, (U nb).ht ≤ 700 ∧ (U nb).ids.Perm (nb :: l.ids))
    (ih : ∀ w1, IsGr w w1 → Calls Try.prog 41 #[.pointer (some ⟨t, 0, none⟩), .pointer l.ptr, .int .i64 v] w1 fun e w' => ∃ nb, w1.heap.size ≤ nb ∧ nb < w'.heap.size ∧ e = .returned (.tuple #[.pointer (U nb).ptr, .bool true]) ∧ InT w' (U nb) ∧ Wr l.ids w1 w') :
    Calls Try.prog 41 #[.pointer (some ⟨t, 0, none⟩), .pointer (some ⟨b, 0, none⟩), .int .i64 v] w fun e w' => ∃ nb, w.heap.size ≤ nb ∧ nb < w'.heap.size ∧ e = .returned (.tuple #[.pointer (bal b x (U nb) r).ptr, .bool true]) ∧ InT w' (bal b x (U nb) r) ∧ Wr (AT.nd b x l r).ids w w' := by
  have c0 := h.c0
  obtain ⟨n1, n2, n3, n4, n5⟩ := nodup_nd hnd
  go_enter Try.func41, Try.ntmps41
  go_wp2_with fail
  refine (place_lt hO t v x _ ho hv hx hk).mono ?_
  rintro e w1 ⟨rfl, hg1⟩
  have c1 := (h.gr hg1).c1
  go_wp2_with fail
  refine (ih _ hg1).mono ?_
  rintro e w2 ⟨nb, hnb1, hnb2, rfl, hT, hw2⟩
  obtain ⟨kU, pU⟩ := hU nb
  obtain ⟨u, hu⟩ : ∃ u, U nb = u := ⟨_, rfl⟩
  rw [hu] at kU pU hT ⊢
  have hsz : w.heap.size ≤ nb := Nat.le_trans hg1.size hnb1
  have f1 := ((h.gr hg1).wr hw2 n1).fz 1
  have c2 := ((h.gr hg1).wr hw2 n1).c1
  go_wp2_with fail
  obtain ⟨w3, hw3⟩ : ∃ w3, w3 = w2.setCell ⟨b, 1, none⟩ (.pointer u.ptr) := ⟨_, rfl⟩
  rw [← hw3]
  have hbn : b < nb := Nat.lt_of_lt_of_le h.lt hsz
  have bu : b ∉ u.ids := fun hm => by rcases List.mem_cons.1 (pU.subset hm) with h | h; omega; exact n1 h
  have h3 : Nd w3 b x u.ptr r.ptr d := hw3 ▸ ((h.gr hg1).wr hw2 n1).set1 _
  have u3 : InT w3 u := hw3 ▸ hT.set _ _ _ bu
  have o3 : InT w3 r := hw3 ▸ ((hr.gr hg1).wr hw2 (fun a ha hm => n5 a hm ha)).set _ _ _ n2
  have W3 : Wr (AT.nd b x l r).ids w w3 := hw3 ▸ ((Wr.of_gr hg1).trans hw2 (fun a ha _ => by rw [mem_nd]; simp [ha])).set _ _ _ (Or.inl (by rw [mem_nd]; simp))
  have hnu : u.ids.Nodup := pU.nodup_iff.2 (List.nodup_cons.2 ⟨fun hm => by have := hl.lt nb hm; omega, n3⟩)
  have dis : ∀ a ∈ u.ids, a ∉ r.ids := fun a ha ho => by
    rcases List.mem_cons.1 (pU.subset ha) with rfl | h
    · have := hr.lt a ho; omega
    · exact n5 a h ho
  have hnd3 : (AT.nd b x u r).ids.Nodup := by
    rw [ids_nd, List.nodup_append]
    refine ⟨hnu, List.nodup_cons.2 ⟨n2, n4⟩, fun a ha z hz e => ?_⟩
    subst e
    rcases List.mem_cons.1 hz with rfl | hz
    · exact bu ha
    · exact dis a ha hz
  have hs3 : nb < w3.heap.size := by rw [hw3, set_size]; exact hnb2
  clear hw3 f1 c1 c2 c0 hT hw2 ih ho hg1 h
  refine (balanced_any b x d u r _ h3 u3 o3 (by omega) (by omega) hnd3).mono ?_
  rintro e w4 ⟨rfl, h4, hw4⟩
  go_wp2_with fail
  subst hu
  refine bodyPost_ret (v := .tuple #[.pointer (bal b x (U nb) r).ptr, .bool true]) (by simp [results, Try.results41, go_sem]) rfl ⟨nb, hsz, Nat.lt_of_lt_of_le hs3 hw4.size, rfl, h4, W3.trans hw4 ?_⟩
  intro a ha hlt
  rw [mem_nd] at ha ⊢
  rcases ha with h | h | h
  · exact Or.inl h
  · (rcases List.mem_cons.1 (pU.subset h) with h | h; omega; exact Or.inr (Or.inl h))
  · exact Or.inr (Or.inr h)

set_option maxRecDepth 20000 in set_option maxHeartbeats 2000000 in
theorem with_old_gt {f : Nat} {k : Int → Int} (hO : Ordr f k) (t : Nat) (v : Int) (hv : I64 v) (b : Nat) (x d : Int) (l r : AT) (w : World) (ho : OrdAt w t f) (h : Nd w b x l.ptr r.ptr d) (hx : I64 x) (hk : k x < k v)
    (ih : ∀ w1, IsGr w w1 → Calls Try.prog 41 #[.pointer (some ⟨t, 0, none⟩), .pointer r.ptr, .int .i64 v] w1 fun e w' => e = .returned (.tuple #[.pointer r.ptr, .bool false]) ∧ IsGr w1 w') :
    Calls Try.prog 41 #[.pointer (some ⟨t, 0, none⟩), .pointer (some ⟨b, 0, none⟩), .int .i64 v] w fun e w' => e = .returned (.tuple #[.pointer (some ⟨b, 0, none⟩), .bool false]) ∧ IsGr w w' := by
  have c0 := h.c0
  go_enter Try.func41, Try.ntmps41
  go_wp2_with fail
  refine (place_gt hO t v x _ ho hv hx hk).mono ?_
  rintro e w1 ⟨rfl, hg1⟩
  have c1 := (h.gr hg1).c2
  go_wp2_with fail
  refine (ih _ hg1).mono ?_
  rintro e w2 ⟨rfl, hg2⟩
  go_wp2_with fail
  exact bodyPost_ret (v := .tuple #[.pointer (some ⟨b, 0, none⟩), .bool false]) (by simp [results, Try.results41, go_sem]) rfl ⟨rfl, hg1.trans hg2⟩

set_option maxRecDepth 20000 in set_option maxHeartbeats 2000000 in
theorem with_new_gt {f : Nat} {k : Int → Int} (hO : Ordr f k) (t : Nat) (v : Int) (hv : I64 v) (b : Nat) (x d : Int) (l r : AT) (w : World) (ho : OrdAt w t f) (h : Nd w b x l.ptr r.ptr d) (hl : InT w l) (hr : InT w r) (hx : I64 x) (hk : k x < k v)
    (hnd : (AT.nd b x l r).ids.Nodup) (kO : l.ht ≤ 700) (U : Nat → AT) (hU : ∀ nb, (U nb).ht ≤ 700 ∧ (U nb).ids.Perm (nb :: r.ids))
    (ih : ∀ w1, IsGr w w1 → Calls Try.prog 41 #[.pointer (some ⟨t, 0, none⟩), .pointer r.ptr, .int .i64 v] w1 fun e w' => ∃ nb, w1.heap.size ≤ nb ∧ nb < w'.heap.size ∧ e = .returned (.tuple #[.pointer (U nb).ptr, .bool true]) ∧ InT w' (U nb) ∧ Wr r.ids w1 w') :
    Calls Try.prog 41 #[.pointer (some ⟨t, 0, none⟩), .pointer (some ⟨b, 0, none⟩), .int .i64 v] w fun e w' => ∃ nb, w.heap.size ≤ nb ∧ nb < w'.heap.size ∧ e = .returned (.tuple #[.pointer (bal b x l (U nb)).ptr, .bool true]) ∧ InT w' (bal b x l (U nb)) ∧ Wr (AT.nd b x l r).ids w w' := by
  have c0 := h.c0
  obtain ⟨n1, n2, n3, n4, n5⟩ := nodup_nd hnd
  go_enter Try.func41, Try.ntmps41
  go_wp2_with fail
  refine (place_gt hO t v x _ ho hv hx hk).mono ?_
  rintro e w1 ⟨rfl, hg1⟩
  have c1 := (h.gr hg1).c2
  go_wp2_with fail
  refine (ih _ hg1).mono ?_
  rintro e w2 ⟨nb, hnb1, hnb2, rfl, hT, hw2⟩
  obtain ⟨kU, pU⟩ := hU nb
  obtain ⟨u, hu⟩ : ∃ u, U nb = u := ⟨_, rfl⟩
  rw [hu] at kU pU hT ⊢
  have hsz : w.heap.size ≤ nb := Nat.le_trans hg1.size hnb1
  have f1 := ((h.gr hg1).wr hw2 n2).fz 2
  have c2 := ((h.gr hg1).wr hw2 n2).c2
  go_wp2_with fail
  obtain ⟨w3, hw3⟩ : ∃ w3, w3 = w2.setCell ⟨b, 2, none⟩ (.pointer u.ptr) := ⟨_, rfl⟩
  rw [← hw3]
  have hbn : b < nb := Nat.lt_of_lt_of_le h.lt hsz
  have bu : b ∉ u.ids := fun hm => by rcases List.mem_cons.1 (pU.subset hm) with h | h; omega; exact n2 h
  have h3 : Nd w3 b x l.ptr u.ptr d := hw3 ▸ ((h.gr hg1).wr hw2 n2).set2 _
  have u3 : InT w3 u := hw3 ▸ hT.set _ _ _ bu
  have o3 : InT w3 l := hw3 ▸ ((hl.gr hg1).wr hw2 (fun a ha hm => n5 a ha hm)).set _ _ _ n1
  have W3 : Wr (AT.nd b x l r).ids w w3 := hw3 ▸ ((Wr.of_gr hg1).trans hw2 (fun a ha _ => by rw [mem_nd]; simp [ha])).set _ _ _ (Or.inl (by rw [mem_nd]; simp))
  have hnu : u.ids.Nodup := pU.nodup_iff.2 (List.nodup_cons.2 ⟨fun hm => by have := hr.lt nb hm; omega, n4⟩)
  have dis : ∀ a ∈ u.ids, a ∉ l.ids := fun a ha ho => by
    rcases List.mem_cons.1 (pU.subset ha) with rfl | h
    · have := hl.lt a ho; omega
    · exact n5 a ho h
  have hnd3 : (AT.nd b x l u).ids.Nodup := by
    rw [ids_nd, List.nodup_append]
    refine ⟨n3, List.nodup_cons.2 ⟨bu, hnu⟩, fun a ha z hz e => ?_⟩
    subst e
    rcases List.mem_cons.1 hz with rfl | hz
    · exact n1 ha
    · exact dis a hz ha
  have hs3 : nb < w3.heap.size := by rw [hw3, set_size]; exact hnb2
  clear hw3 f1 c1 c2 c0 hT hw2 ih ho hg1 h
  refine (balanced_any b x d l u _ h3 o3 u3 (by omega) (by omega) hnd3).mono ?_
  rintro e w4 ⟨rfl, h4, hw4⟩
  go_wp2_with fail
  subst hu
  refine bodyPost_ret (v := .tuple #[.pointer (bal b x l (U nb)).ptr, .bool true]) (by simp [results, Try.results41, go_sem]) rfl ⟨nb, hsz, Nat.lt_of_lt_of_le hs3 hw4.size, rfl, h4, W3.trans hw4 ?_⟩
  intro a ha hlt
  rw [mem_nd] at ha ⊢
  rcases ha with h | h | h
  · exact Or.inl h
  · exact Or.inr (Or.inl h)
  · (rcases List.mem_cons.1 (pU.subset h) with h | h; omega; exact Or.inr (Or.inr h))
theorem with_old {f : Nat} {k : Int → Int} (hO : Ordr f k) (t : Nat) (v : Int) (hv : I64 v) (T : AT) : ∀ w, OrdAt w t f → InT w T → Int64s T → has k v T = true →
    Calls Try.prog 41 #[.pointer (some ⟨t, 0, none⟩), .pointer T.ptr, .int .i64 v] w fun e w' => e = .returned (.tuple #[.pointer T.ptr, .bool false]) ∧ IsGr w w' := by
  induction T with
  | nil => intro w _ _ _ h; cases h
  | nd b x l r ihl ihr =>
    intro w ho h hi hh
    obtain ⟨i1, i2, i3⟩ := hi.nd
    simp only [has] at hh
    split at hh
    · rename_i e1
      exact with_eq hO t v hv b x _ _ _ w ho h.1 i1 e1
    · rename_i e1
      split at hh
      · rename_i e2
        exact with_old_lt hO t v hv b x _ l r w ho h.1 i1 e2 (fun w1 hg => ihl w1 (ho.gr hg) (h.2.1.gr hg) i2 hh)
      · rename_i e2
        exact with_old_gt hO t v hv b x _ l r w ho h.1 i1 (by omega) (fun w1 hg => ihr w1 (ho.gr hg) (h.2.2.gr hg) i3 hh)
theorem with_new {f : Nat} {k : Int → Int} (hO : Ordr f k) (t : Nat) (v : Int) (hv : I64 v) (T : AT) : ∀ w, OrdAt w t f → InT w T → Int64s T → T.ok → T.ht ≤ 500 → T.ids.Nodup → has k v T = false →
    Calls Try.prog 41 #[.pointer (some ⟨t, 0, none⟩), .pointer T.ptr, .int .i64 v] w fun e w' => ∃ nb, w.heap.size ≤ nb ∧ nb < w'.heap.size ∧ e = .returned (.tuple #[.pointer (ins k nb v T).ptr, .bool true]) ∧ InT w' (ins k nb v T) ∧ Wr T.ids w w' := by
  induction T with
  | nil =>
    intro w _ _ _ _ _ _ _
    refine (with_nil t v w).mono ?_
    rintro e w' ⟨rfl, rfl⟩
    refine ⟨w.heap.size, Nat.le_refl _, by rw [World.size_alloc]; omega, rfl, ⟨?_, trivial, trivial⟩, Wr.of_gr ((IsGr.refl _).alloc _)⟩
    show Nd _ _ _ _ _ _
    unfold Nd World.alloc
    simp [AT.ptr, AT.ht]
  | nd b x l r ihl ihr =>
    intro w ho h hi hok hht hnd hh
    obtain ⟨i1, i2, i3⟩ := hi.nd
    obtain ⟨ol, or', k1, k2⟩ := hok
    obtain ⟨n1, n2, n3, n4, n5⟩ := nodup_nd hnd
    simp only [AT.ht] at hht
    simp only [has] at hh
    split at hh
    · cases hh
    · rename_i e1
      split at hh
      · rename_i e2
        refine (with_new_lt hO t v hv b x _ l r w ho h.1 h.2.1 h.2.2 i1 e2 hnd (by omega) (fun nb => ins k nb v l) (fun nb => ⟨?_, ins_ids hh⟩) (fun w1 hg => ihl w1 (ho.gr hg) (h.2.1.gr hg) i2 ol (by omega) n3 hh)).mono ?_
        · have := (ins_ok (nb := nb) ol hh).2.2; omega
        · rintro e w' ⟨nb, h1, h2, h3, h4, h5⟩
          have e4 : ins k nb v (.nd b x l r) = bal b x (ins k nb v l) r := by simp only [ins, if_neg e1, if_pos e2]
          exact ⟨nb, h1, h2, e4 ▸ h3, e4 ▸ h4, h5⟩
      · rename_i e2
        refine (with_new_gt hO t v hv b x _ l r w ho h.1 h.2.1 h.2.2 i1 (by omega) hnd (by omega) (fun nb => ins k nb v r) (fun nb => ⟨?_, ins_ids hh⟩) (fun w1 hg => ihr w1 (ho.gr hg) (h.2.2.gr hg) i3 or' (by omega) n4 hh)).mono ?_
        · have := (ins_ok (nb := nb) or' hh).2.2; omega
        · rintro e w' ⟨nb, h1, h2, h3, h4, h5⟩
          have e4 : ins k nb v (.nd b x l r) = bal b x l (ins k nb v r) := by simp only [ins, if_neg e1, if_neg e2]
          exact ⟨nb, h1, h2, e4 ▸ h3, e4 ▸ h4, h5⟩
end Go.Proofs.Ytaackkfegkmpkaa
