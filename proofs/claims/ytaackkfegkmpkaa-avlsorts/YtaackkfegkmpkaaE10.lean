/- Contracts of package avl over the loaded program: without. -/
import Derived.Test.YtaackkfegkmpkaaE9
namespace Go.Proofs.Ytaackkfegkmpkaa
open Go.RowKit
attribute [local go_sem] Gr.size Gr.cell? Gr.frozen? Gr.setCell Gr.drew Gr.drewN Gr.of_drew Gr.of_drewN Gr.gr Gr.lt_of1 Gr.le_of1 Gr.lt_of2 Gr.le_of2 Gr.lt_of3 Gr.le_of3 Gr.lt_of4 Gr.le_of4 Gr.lt_of5 Gr.le_of5 Gr.lt_of6 Gr.le_of6 Gr.lt_of7 Gr.le_of7 Gr.lt_of8 Gr.le_of8 Gr.lt_of9 Gr.le_of9 Gr.lt_of10 Gr.le_of10 Gr.lt_of11 Gr.le_of11 Gr.lt_of12 Gr.le_of12 Gr.lt_of13 Gr.le_of13 Gr.lt_of14 Gr.le_of14 Gr.lt_of15 Gr.le_of15 Gr.lt_of16 Gr.le_of16 Gr.lt_of17 Gr.le_of17 Gr.lt_of18 Gr.le_of18 Gr.lt_of19 Gr.le_of19 Gr.lt_of20 Gr.le_of20 Gr.lt_of21 Gr.le_of21 Gr.lt_of22 Gr.le_of22 Gr.lt_of23 Gr.le_of23 Gr.lt_of24 Gr.le_of24
theorem del_sub {k : Int → Int} {v : Int} {t : AT} (h : has k v t = true) : (del k v t).ids.Sublist t.ids := by
  obtain ⟨A, y, B, q1, q2, q3⟩ := del_spec h
  unfold AT.ids
  rw [q1, q3]
  exact ((List.Sublist.refl A).append (List.sublist_cons_self y B)).map _
set_option maxRecDepth 20000 in set_option maxHeartbeats 2000000 in
theorem without_nil (t : Nat) (v : Int) (w : World) :
    Calls Try.prog 42 #[.pointer (some ⟨t, 0, none⟩), .pointer none, .int .i64 v] w fun e w' => e = .returned (.tuple #[.pointer none, .bool false]) ∧ w' = w := by
  go_enter Try.func42, Try.ntmps42
  go_wp2_with fail
  exact bodyPost_ret (v := .tuple #[.pointer none, .bool false]) (by simp [results, Try.results42, go_sem]) rfl ⟨rfl, rfl⟩

set_option maxRecDepth 20000 in set_option maxHeartbeats 2000000 in
theorem without_eq {f : Nat} {k : Int → Int} (hO : Ordr f k) (t : Nat) (v : Int) (hv : I64 v) (b : Nat) (x d : Int) (l r : AT) (w : World) (ho : OrdAt w t f) (h : Nd w b x l.ptr r.ptr d) (hl : InT w l) (hr : InT w r) (hx : I64 x) (hk : k v = k x)
    (or' : r.ok) (k1 : l.ht ≤ r.ht + 1) (k2 : r.ht ≤ l.ht + 1) (k3 : l.ht ≤ 600) (k4 : r.ht ≤ 600) (hnd : (AT.nd b x l r).ids.Nodup) :
    Calls Try.prog 42 #[.pointer (some ⟨t, 0, none⟩), .pointer (some ⟨b, 0, none⟩), .int .i64 v] w fun e w' => e = .returned (.tuple #[.pointer (join l r).ptr, .bool true]) ∧ InT w' (join l r) ∧ Wr (AT.nd b x l r).ids w w' := by
  have c0 := h.c0
  go_enter Try.func42, Try.ntmps42
  go_wp2_with fail
  refine (place_eq hO t v x _ ho hv hx hk).mono ?_
  rintro e w1 ⟨rfl, hg1⟩
  go_wp2_with fail
  refine (joined_any b x d l r _ (h.gr hg1) (hl.gr hg1) (hr.gr hg1) or' k1 k2 k3 k4 hnd).mono ?_
  rintro e w2 ⟨rfl, h2, hw2⟩
  go_wp2_with fail
  exact bodyPost_ret (v := .tuple #[.pointer (join l r).ptr, .bool true]) (by simp [results, Try.results42, go_sem]) rfl ⟨rfl, h2, (Wr.of_gr hg1).trans hw2 (fun a ha _ => ha)⟩

set_option maxRecDepth 20000 in set_option maxHeartbeats 2000000 in
theorem without_no_lt {f : Nat} {k : Int → Int} (hO : Ordr f k) (t : Nat) (v : Int) (hv : I64 v) (b : Nat) (x d : Int) (l r : AT) (w : World) (ho : OrdAt w t f) (h : Nd w b x l.ptr r.ptr d) (hx : I64 x) (hk : k v < k x)
    (ih : ∀ w1, IsGr w w1 → Calls Try.prog 42 #[.pointer (some ⟨t, 0, none⟩), .pointer l.ptr, .int .i64 v] w1 fun e w' => e = .returned (.tuple #[.pointer l.ptr, .bool false]) ∧ IsGr w1 w') :
    Calls Try.prog 42 #[.pointer (some ⟨t, 0, none⟩), .pointer (some ⟨b, 0, none⟩), .int .i64 v] w fun e w' => e = .returned (.tuple #[.pointer (some ⟨b, 0, none⟩), .bool false]) ∧ IsGr w w' := by
  have c0 := h.c0
  go_enter Try.func42, Try.ntmps42
  go_wp2_with fail
  refine (place_lt hO t v x _ ho hv hx hk).mono ?_
  rintro e w1 ⟨rfl, hg1⟩
  have c1 := (h.gr hg1).c1
  go_wp2_with fail
  refine (ih _ hg1).mono ?_
  rintro e w2 ⟨rfl, hg2⟩
  go_wp2_with fail
  exact bodyPost_ret (v := .tuple #[.pointer (some ⟨b, 0, none⟩), .bool false]) (by simp [results, Try.results42, go_sem]) rfl ⟨rfl, hg1.trans hg2⟩

set_option maxRecDepth 20000 in set_option maxHeartbeats 2000000 in
theorem without_del_lt {f : Nat} {k : Int → Int} (hO : Ordr f k) (t : Nat) (v : Int) (hv : I64 v) (b : Nat) (x d : Int) (l r u : AT) (w : World) (ho : OrdAt w t f) (h : Nd w b x l.ptr r.ptr d) (hr : InT w r) (hx : I64 x) (hk : k v < k x)
    (hnd : (AT.nd b x l r).ids.Nodup) (kO : r.ht ≤ 700) (kU : u.ht ≤ 700) (pU : u.ids.Sublist l.ids)
    (ih : ∀ w1, IsGr w w1 → Calls Try.prog 42 #[.pointer (some ⟨t, 0, none⟩), .pointer l.ptr, .int .i64 v] w1 fun e w' => e = .returned (.tuple #[.pointer u.ptr, .bool true]) ∧ InT w' u ∧ Wr l.ids w1 w') :
    Calls Try.prog 42 #[.pointer (some ⟨t, 0, none⟩), .pointer (some ⟨b, 0, none⟩), .int .i64 v] w fun e w' => e = .returned (.tuple #[.pointer (bal b x u r).ptr, .bool true]) ∧ InT w' (bal b x u r) ∧ Wr (AT.nd b x l r).ids w w' := by
  have c0 := h.c0
  obtain ⟨n1, n2, n3, n4, n5⟩ := nodup_nd hnd
  go_enter Try.func42, Try.ntmps42
  go_wp2_with fail
  refine (place_lt hO t v x _ ho hv hx hk).mono ?_
  rintro e w1 ⟨rfl, hg1⟩
  have c1 := (h.gr hg1).c1
  go_wp2_with fail
  refine (ih _ hg1).mono ?_
  rintro e w2 ⟨rfl, hT, hw2⟩
  have f1 := ((h.gr hg1).wr hw2 n1).fz 1
  have c2 := ((h.gr hg1).wr hw2 n1).c1
  go_wp2_with fail
  obtain ⟨w3, hw3⟩ : ∃ w3, w3 = w2.setCell ⟨b, 1, none⟩ (.pointer u.ptr) := ⟨_, rfl⟩
  rw [← hw3]
  have bu : b ∉ u.ids := fun hm => n1 (pU.subset hm)
  have h3 : Nd w3 b x u.ptr r.ptr d := hw3 ▸ ((h.gr hg1).wr hw2 n1).set1 _
  have u3 : InT w3 u := hw3 ▸ hT.set _ _ _ bu
  have o3 : InT w3 r := hw3 ▸ ((hr.gr hg1).wr hw2 (fun a ha hm => n5 a hm ha)).set _ _ _ n2
  have W3 : Wr (AT.nd b x l r).ids w w3 := hw3 ▸ ((Wr.of_gr hg1).trans hw2 (fun a ha _ => by rw [mem_nd]; simp [ha])).set _ _ _ (Or.inl (by rw [mem_nd]; simp))
  have hnu : u.ids.Nodup := pU.nodup n3
  have dis : ∀ a ∈ u.ids, a ∉ r.ids := fun a ha ho => by
    have h := pU.subset ha
    exact n5 a h ho
  have hnd3 : (AT.nd b x u r).ids.Nodup := by
    rw [ids_nd, List.nodup_append]
    refine ⟨hnu, List.nodup_cons.2 ⟨n2, n4⟩, fun a ha z hz e => ?_⟩
    subst e
    rcases List.mem_cons.1 hz with rfl | hz
    · exact bu ha
    · exact dis a ha hz
  clear hw3 f1 c1 c2 c0 hT hw2 ih ho hg1 h
  refine (balanced_any b x d u r _ h3 u3 o3 (by omega) (by omega) hnd3).mono ?_
  rintro e w4 ⟨rfl, h4, hw4⟩
  go_wp2_with fail
  refine bodyPost_ret (v := .tuple #[.pointer (bal b x u r).ptr, .bool true]) (by simp [results, Try.results42, go_sem]) rfl ⟨rfl, h4, W3.trans hw4 ?_⟩
  intro a ha _
  rw [mem_nd] at ha ⊢
  rcases ha with h | h | h
  · exact Or.inl h
  · exact Or.inr (Or.inl (pU.subset h))
  · exact Or.inr (Or.inr h)

set_option maxRecDepth 20000 in set_option maxHeartbeats 2000000 in
theorem without_no_gt {f : Nat} {k : Int → Int} (hO : Ordr f k) (t : Nat) (v : Int) (hv : I64 v) (b : Nat) (x d : Int) (l r : AT) (w : World) (ho : OrdAt w t f) (h : Nd w b x l.ptr r.ptr d) (hx : I64 x) (hk : k x < k v)
    (ih : ∀ w1, IsGr w w1 → Calls Try.prog 42 #[.pointer (some ⟨t, 0, none⟩), .pointer r.ptr, .int .i64 v] w1 fun e w' => e = .returned (.tuple #[.pointer r.ptr, .bool false]) ∧ IsGr w1 w') :
    Calls Try.prog 42 #[.pointer (some ⟨t, 0, none⟩), .pointer (some ⟨b, 0, none⟩), .int .i64 v] w fun e w' => e = .returned (.tuple #[.pointer (some ⟨b, 0, none⟩), .bool false]) ∧ IsGr w w' := by
  have c0 := h.c0
  go_enter Try.func42, Try.ntmps42
  go_wp2_with fail
  refine (place_gt hO t v x _ ho hv hx hk).mono ?_
  rintro e w1 ⟨rfl, hg1⟩
  have c1 := (h.gr hg1).c2
  go_wp2_with fail
  refine (ih _ hg1).mono ?_
  rintro e w2 ⟨rfl, hg2⟩
  go_wp2_with fail
  exact bodyPost_ret (v := .tuple #[.pointer (some ⟨b, 0, none⟩), .bool false]) (by simp [results, Try.results42, go_sem]) rfl ⟨rfl, hg1.trans hg2⟩

set_option maxRecDepth 20000 in set_option maxHeartbeats 2000000 in
theorem without_del_gt {f : Nat} {k : Int → Int} (hO : Ordr f k) (t : Nat) (v : Int) (hv : I64 v) (b : Nat) (x d : Int) (l r u : AT) (w : World) (ho : OrdAt w t f) (h : Nd w b x l.ptr r.ptr d) (hl : InT w l) (hx : I64 x) (hk : k x < k v)
    (hnd : (AT.nd b x l r).ids.Nodup) (kO : l.ht ≤ 700) (kU : u.ht ≤ 700) (pU : u.ids.Sublist r.ids)
    (ih : ∀ w1, IsGr w w1 → Calls Try.prog 42 #[.pointer (some ⟨t, 0, none⟩), .pointer r.ptr, .int .i64 v] w1 fun e w' => e = .returned (.tuple #[.pointer u.ptr, .bool true]) ∧ InT w' u ∧ Wr r.ids w1 w') :
    Calls Try.prog 42 #[.pointer (some ⟨t, 0, none⟩), .pointer (some ⟨b, 0, none⟩), .int .i64 v] w fun e w' => e = .returned (.tuple #[.pointer (bal b x l u).ptr, .bool true]) ∧ InT w' (bal b x l u) ∧ Wr (AT.nd b x l r).ids w w' := by
  have c0 := h.c0
  obtain ⟨n1, n2, n3, n4, n5⟩ := nodup_nd hnd
  go_enter Try.func42, Try.ntmps42
  go_wp2_with fail
  refine (place_gt hO t v x _ ho hv hx hk).mono ?_
  rintro e w1 ⟨rfl, hg1⟩
  have c1 := (h.gr hg1).c2
  go_wp2_with fail
  refine (ih _ hg1).mono ?_
  rintro e w2 ⟨rfl, hT, hw2⟩
  have f1 := ((h.gr hg1).wr hw2 n2).fz 2
  have c2 := ((h.gr hg1).wr hw2 n2).c2
  go_wp2_with fail
  obtain ⟨w3, hw3⟩ : ∃ w3, w3 = w2.setCell ⟨b, 2, none⟩ (.pointer u.ptr) := ⟨_, rfl⟩
  rw [← hw3]
  have bu : b ∉ u.ids := fun hm => n2 (pU.subset hm)
  have h3 : Nd w3 b x l.ptr u.ptr d := hw3 ▸ ((h.gr hg1).wr hw2 n2).set2 _
  have u3 : InT w3 u := hw3 ▸ hT.set _ _ _ bu
  have o3 : InT w3 l := hw3 ▸ ((hl.gr hg1).wr hw2 (fun a ha hm => n5 a ha hm)).set _ _ _ n1
  have W3 : Wr (AT.nd b x l r).ids w w3 := hw3 ▸ ((Wr.of_gr hg1).trans hw2 (fun a ha _ => by rw [mem_nd]; simp [ha])).set _ _ _ (Or.inl (by rw [mem_nd]; simp))
  have hnu : u.ids.Nodup := pU.nodup n4
  have dis : ∀ a ∈ u.ids, a ∉ l.ids := fun a ha ho => by
    have h := pU.subset ha
    exact n5 a ho h
  have hnd3 : (AT.nd b x l u).ids.Nodup := by
    rw [ids_nd, List.nodup_append]
    refine ⟨n3, List.nodup_cons.2 ⟨bu, hnu⟩, fun a ha z hz e => ?_⟩
    subst e
    rcases List.mem_cons.1 hz with rfl | hz
    · exact n1 ha
    · exact dis a hz ha
  clear hw3 f1 c1 c2 c0 hT hw2 ih ho hg1 h
  refine (balanced_any b x d l u _ h3 o3 u3 (by omega) (by omega) hnd3).mono ?_
  rintro e w4 ⟨rfl, h4, hw4⟩
  go_wp2_with fail
  refine bodyPost_ret (v := .tuple #[.pointer (bal b x l u).ptr, .bool true]) (by simp [results, Try.results42, go_sem]) rfl ⟨rfl, h4, W3.trans hw4 ?_⟩
  intro a ha _
  rw [mem_nd] at ha ⊢
  rcases ha with h | h | h
  · exact Or.inl h
  · exact Or.inr (Or.inl h)
  · exact Or.inr (Or.inr (pU.subset h))
theorem without_no {f : Nat} {k : Int → Int} (hO : Ordr f k) (t : Nat) (v : Int) (hv : I64 v) (T : AT) : ∀ w, OrdAt w t f → InT w T → Int64s T → has k v T = false →
    Calls Try.prog 42 #[.pointer (some ⟨t, 0, none⟩), .pointer T.ptr, .int .i64 v] w fun e w' => e = .returned (.tuple #[.pointer T.ptr, .bool false]) ∧ IsGr w w' := by
  induction T with
  | nil =>
    intro w _ _ _ h
    refine (without_nil t v w).mono ?_
    rintro e w' ⟨rfl, rfl⟩
    exact ⟨rfl, IsGr.refl _⟩
  | nd b x l r ihl ihr =>
    intro w ho h hi hh
    obtain ⟨i1, i2, i3⟩ := hi.nd
    simp only [has] at hh
    split at hh
    · cases hh
    · rename_i e1
      split at hh
      · rename_i e2
        exact without_no_lt hO t v hv b x _ l r w ho h.1 i1 e2 (fun w1 hg => ihl w1 (ho.gr hg) (h.2.1.gr hg) i2 hh)
      · rename_i e2
        exact without_no_gt hO t v hv b x _ l r w ho h.1 i1 (by omega) (fun w1 hg => ihr w1 (ho.gr hg) (h.2.2.gr hg) i3 hh)
theorem without_del {f : Nat} {k : Int → Int} (hO : Ordr f k) (t : Nat) (v : Int) (hv : I64 v) (T : AT) : ∀ w, OrdAt w t f → InT w T → Int64s T → T.ok → T.ht ≤ 500 → T.ids.Nodup → has k v T = true →
    Calls Try.prog 42 #[.pointer (some ⟨t, 0, none⟩), .pointer T.ptr, .int .i64 v] w fun e w' => e = .returned (.tuple #[.pointer (del k v T).ptr, .bool true]) ∧ InT w' (del k v T) ∧ Wr T.ids w w' := by
  induction T with
  | nil => intro w _ _ _ _ _ _ h; cases h
  | nd b x l r ihl ihr =>
    intro w ho h hi hok hht hnd hh
    obtain ⟨i1, i2, i3⟩ := hi.nd
    obtain ⟨ol, or', k1, k2⟩ := hok
    obtain ⟨n1, n2, n3, n4, n5⟩ := nodup_nd hnd
    simp only [AT.ht] at hht
    simp only [has] at hh
    split at hh
    · rename_i e1
      have e4 : del k v (.nd b x l r) = join l r := by simp only [del, if_pos e1]
      rw [e4]
      exact without_eq hO t v hv b x _ l r w ho h.1 h.2.1 h.2.2 i1 e1 or' k1 k2 (by omega) (by omega) hnd
    · rename_i e1
      split at hh
      · rename_i e2
        have e4 : del k v (.nd b x l r) = bal b x (del k v l) r := by simp only [del, if_neg e1, if_pos e2]
        rw [e4]
        exact without_del_lt hO t v hv b x _ l r (del k v l) w ho h.1 h.2.2 i1 e2 hnd (by omega) (by have := (del_ok ol hh).2.1; omega) (del_sub hh) (fun w1 hg => ihl w1 (ho.gr hg) (h.2.1.gr hg) i2 ol (by omega) n3 hh)
      · rename_i e2
        have e4 : del k v (.nd b x l r) = bal b x l (del k v r) := by simp only [del, if_neg e1, if_neg e2]
        rw [e4]
        exact without_del_gt hO t v hv b x _ l r (del k v r) w ho h.1 h.2.1 i1 (by omega) hnd (by omega) (by have := (del_ok or' hh).2.1; omega) (del_sub hh) (fun w1 hg => ihr w1 (ho.gr hg) (h.2.2.gr hg) i3 or' (by omega) n4 hh)
end Go.Proofs.Ytaackkfegkmpkaa
