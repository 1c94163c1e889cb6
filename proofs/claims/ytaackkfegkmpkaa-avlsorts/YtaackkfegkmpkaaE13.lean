/- Contracts of package avl over the loaded program: the outermost, the nearest; First, Last, Next, Prev. -/
import Derived.Test.YtaackkfegkmpkaaE12
namespace Go.Proofs.Ytaackkfegkmpkaa
open Go.RowKit
attribute [local go_sem] Gr.size Gr.cell? Gr.frozen? Gr.setCell Gr.drew Gr.drewN Gr.of_drew Gr.of_drewN Gr.gr Gr.lt_of1 Gr.le_of1 Gr.lt_of2 Gr.le_of2 Gr.lt_of3 Gr.le_of3 Gr.lt_of4 Gr.le_of4 Gr.lt_of5 Gr.le_of5 Gr.lt_of6 Gr.le_of6 Gr.lt_of7 Gr.le_of7 Gr.lt_of8 Gr.le_of8 Gr.lt_of9 Gr.le_of9 Gr.lt_of10 Gr.le_of10 Gr.lt_of11 Gr.le_of11 Gr.lt_of12 Gr.le_of12 Gr.lt_of13 Gr.le_of13 Gr.lt_of14 Gr.le_of14 Gr.lt_of15 Gr.le_of15 Gr.lt_of16 Gr.le_of16 Gr.lt_of17 Gr.le_of17 Gr.lt_of18 Gr.le_of18 Gr.lt_of19 Gr.le_of19 Gr.lt_of20 Gr.le_of20 Gr.lt_of21 Gr.le_of21 Gr.lt_of22 Gr.le_of22 Gr.lt_of23 Gr.le_of23 Gr.lt_of24 Gr.le_of24
/-- The thing on top. -/
def topv : AT → Option Int
  | .nil => none
  | .nd _ x _ _ => some x
/-- Nothing, or the one ahead of all. -/
def end0 (T : AT) : Option Int := T.vals.head?
def end1 (T : AT) : Option Int := T.vals.getLast?
theorem vals_nd (b : Nat) (x : Int) (l r : AT) : (AT.nd b x l r).vals = l.vals ++ x :: r.vals := by simp [AT.vals, AT.inl]
theorem end0_nil (b : Nat) (x : Int) (r : AT) : end0 (.nd b x .nil r) = some x := by simp [end0, AT.vals, AT.inl]
theorem end0_nd (b c : Nat) (x y : Int) (p q r : AT) : end0 (.nd b x (.nd c y p q) r) = end0 (.nd c y p q) := by
  simp only [end0, vals_nd]
  cases h : p.vals <;> simp
theorem end1_nil (b : Nat) (x : Int) (l : AT) : end1 (.nd b x l .nil) = some x := by simp [end1, AT.vals, AT.inl]
theorem end1_nd (b c : Nat) (x y : Int) (p q l : AT) : end1 (.nd b x l (.nd c y p q)) = end1 (.nd c y p q) := by
  simp only [end1, vals_nd]
  rw [List.getLast?_append, List.getLast?_cons]
  simp [List.getLast?_cons, List.getLast?_append]
/-- The first one behind, the nodes on the way down. -/
def next0 (k : Int → Int) (v : Int) : AT → AT → AT
  | .nil, acc => acc
  | .nd b x l r, acc => if k v < k x then next0 k v l (.nd b x l r) else next0 k v r acc
def next1 (k : Int → Int) (v : Int) : AT → AT → AT
  | .nil, acc => acc
  | .nd b x l r, acc => if k x < k v then next1 k v r (.nd b x l r) else next1 k v l acc

def OutR0 (o : Option Int) (n : Nat) (p : Value) (w : World) : Prop := ∃ U, p = .pointer U.ptr ∧ U.ht = n ∧ InT w U ∧ end0 U = o
set_option maxRecDepth 20000 in set_option maxHeartbeats 1000000 in
theorem outermost0_any (T : AT) (w : World) (h : InT w T) : Calls Try.prog 39 #[.pointer T.ptr, .int .i64 0] w fun e w' => ∃ U, e = .returned (.pointer U.ptr) ∧ InT w U ∧ topv U = end0 T ∧ w' = w := by
  have h0 : OutR0 (end0 T) T.ht (.pointer T.ptr) w := ⟨T, rfl, rfl, h, rfl⟩
  obtain ⟨q0, hq0⟩ : ∃ q, T.ptr = q := ⟨_, rfl⟩
  obtain ⟨n0, hn0⟩ : ∃ n, T.ht = n := ⟨_, rfl⟩
  obtain ⟨o, ho⟩ : ∃ o, end0 T = o := ⟨_, rfl⟩
  rw [hq0, hn0, ho] at h0
  rw [hq0, ho]
  clear h hq0 hn0 ho
  go_enter Try.func39, Try.ntmps39
  go_wp2_with fail
  go_loopg [0] n0 (fun n p wr => OutR0 o n p wr ∧ wr = w)
  case atStart => exact ⟨h0, rfl⟩
  case round =>
    clear h0
    obtain ⟨⟨U, rfl, hn, hU, hz⟩, rfl⟩ := hrel
    cases U with
    | nil =>
      have A : Hid (end0 .nil = o) := hz
      clear hn hU hz
      simp only [AT.ptr]
      go_wp2_with fail
      go_ret
      exact ⟨.nil, rfl, trivial, A.out, rfl⟩
    | nd b x l r =>
      have A : Hid (end0 (.nd b x l r) = o ∧ 1 + max l.ht r.ht = gk) := ⟨hz, hn⟩
      clear hz hn
      have c1 := hU.1.c1
      cases l with
      | nil =>
        have c1 : wr.cell? ⟨b, 1, none⟩ = some (.pointer none) := c1
        simp only [AT.ptr]
        go_wp2_with fail
        go_ret
        exact ⟨.nd b x .nil r, rfl, hU, A.out.1 ▸ (end0_nil b x r).symm, rfl⟩
      | nd c y p q =>
        have c1 : wr.cell? ⟨b, 1, none⟩ = some (.pointer (some ⟨c, 0, none⟩)) := c1
        simp only [AT.ptr]
        go_wp2_with fail
        go_roundg (AT.nd c y p q).ht
        case measure => have := A.out.2; simp only [AT.ht] at *; omega
        case rel => exact ⟨⟨.nd c y p q, rfl, rfl, hU.2.1, (end0_nd b c x y p q r) ▸ A.out.1⟩, rfl⟩

def OutR1 (o : Option Int) (n : Nat) (p : Value) (w : World) : Prop := ∃ U, p = .pointer U.ptr ∧ U.ht = n ∧ InT w U ∧ end1 U = o
set_option maxRecDepth 20000 in set_option maxHeartbeats 1000000 in
theorem outermost1_any (T : AT) (w : World) (h : InT w T) : Calls Try.prog 39 #[.pointer T.ptr, .int .i64 1] w fun e w' => ∃ U, e = .returned (.pointer U.ptr) ∧ InT w U ∧ topv U = end1 T ∧ w' = w := by
  have h0 : OutR1 (end1 T) T.ht (.pointer T.ptr) w := ⟨T, rfl, rfl, h, rfl⟩
  obtain ⟨q0, hq0⟩ : ∃ q, T.ptr = q := ⟨_, rfl⟩
  obtain ⟨n0, hn0⟩ : ∃ n, T.ht = n := ⟨_, rfl⟩
  obtain ⟨o, ho⟩ : ∃ o, end1 T = o := ⟨_, rfl⟩
  rw [hq0, hn0, ho] at h0
  rw [hq0, ho]
  clear h hq0 hn0 ho
  go_enter Try.func39, Try.ntmps39
  go_wp2_with fail
  go_loopg [0] n0 (fun n p wr => OutR1 o n p wr ∧ wr = w)
  case atStart => exact ⟨h0, rfl⟩
  case round =>
    clear h0
    obtain ⟨⟨U, rfl, hn, hU, hz⟩, rfl⟩ := hrel
    cases U with
    | nil =>
      have A : Hid (end1 .nil = o) := hz
      clear hn hU hz
      simp only [AT.ptr]
      go_wp2_with fail
      go_ret
      exact ⟨.nil, rfl, trivial, A.out, rfl⟩
    | nd b x l r =>
      have A : Hid (end1 (.nd b x l r) = o ∧ 1 + max l.ht r.ht = gk) := ⟨hz, hn⟩
      clear hz hn
      have c1 := hU.1.c2
      cases r with
      | nil =>
        have c1 : wr.cell? ⟨b, 2, none⟩ = some (.pointer none) := c1
        simp only [AT.ptr]
        go_wp2_with fail
        go_ret
        exact ⟨.nd b x l .nil, rfl, hU, A.out.1 ▸ (end1_nil b x l).symm, rfl⟩
      | nd c y p q =>
        have c1 : wr.cell? ⟨b, 2, none⟩ = some (.pointer (some ⟨c, 0, none⟩)) := c1
        simp only [AT.ptr]
        go_wp2_with fail
        go_roundg (AT.nd c y p q).ht
        case measure => have := A.out.2; simp only [AT.ht] at *; omega
        case rel => exact ⟨⟨.nd c y p q, rfl, rfl, hU.2.2, (end1_nd b c x y p q l) ▸ A.out.1⟩, rfl⟩

def NearR1 (k : Int → Int) (v : Int) (o : Option Int) (w0 : World) (n : Nat) (p q : Value) (w : World) : Prop := ∃ A U, p = .pointer A.ptr ∧ q = .pointer U.ptr ∧ U.ht = n ∧ InT w A ∧ InT w U ∧ Int64s U ∧ topv (next0 k v U A) = o ∧ IsGr w0 w
set_option maxRecDepth 20000 in set_option maxHeartbeats 1000000 in
theorem nearest1_any {f : Nat} {k : Int → Int} (hO : Ordr f k) {t : Nat} {T : AT} (v : Int) (hv : I64 v) (w : World) (h : St k w t f T) :
    Calls Try.prog 38 #[.pointer (some ⟨t, 0, none⟩), .int .i64 v, .int .i64 1] w fun e w' => ∃ U, e = .returned (.pointer U.ptr) ∧ InT w' U ∧ topv U = topv (next0 k v T .nil) ∧ IsGr w w' := by
  have c1 := h.hd.c1
  have ho := fun w' (hg : IsGr w w') => h.hd.c0.gr hg
  obtain ⟨o, hoo⟩ : ∃ o, topv (next0 k v T .nil) = o := ⟨_, rfl⟩
  have h0 : NearR1 k v o w T.ht (.pointer none) (.pointer T.ptr) w := ⟨.nil, T, rfl, rfl, rfl, trivial, h.tree, h.ints, hoo, IsGr.refl _⟩
  obtain ⟨q0, hq0⟩ : ∃ q, T.ptr = q := ⟨_, rfl⟩
  obtain ⟨n0, hn0⟩ : ∃ n, T.ht = n := ⟨_, rfl⟩
  rw [hq0] at c1 h0
  rw [hn0] at h0
  rw [hoo]
  clear h hq0 hn0 hoo
  go_enter Try.func38, Try.ntmps38
  go_wp2_with fail
  go_loopg [7, 8] n0 (fun n p q wr => NearR1 k v o w n p q wr)
  case atStart => exact h0
  case round =>
    clear h0 c1
    obtain ⟨A, U, rfl, rfl, hn, hA, hU, hi, hz, hg⟩ := hrel
    obtain ⟨pa, hpa⟩ : ∃ pa, A.ptr = pa := ⟨_, rfl⟩
    rw [hpa]
    have hpa' : Hid (A.ptr = pa) := hpa
    clear hpa
    cases U with
    | nil =>
      have B : Hid (topv A = o) := hz
      clear hn hU hi hz
      simp only [AT.ptr]
      go_wp2_with fail
      go_ret
      exact ⟨A, by rw [hpa'.out]; rfl, hA, B.out, hg⟩
    | nd b x l r =>
      obtain ⟨i1, i2, i3⟩ := hi.nd
      have hN := hU.1
      have hL := hU.2.1
      have hR := hU.2.2
      have c0 := hN.c0
      have hh : Hid (1 + max l.ht r.ht = gk) := hn
      clear hn hi
      unfold next0 at hz
      by_cases hk : k v < k x
      · rw [if_pos hk] at hz
        have PL := fun w' (hg' : IsGr w w') => place_lt hO t v x w' (ho w' hg') hv i1 hk
        have B : Hid (topv (next0 k v l (.nd b x l r)) = o) := hz
        clear hz hk
        simp only [AT.ptr]
        go_wp2_with fail
        refine (PL _ hg).mono ?_
        rintro e w1 ⟨rfl, hg1⟩
        go_wp2_with fail
        refine (other1_any _).mono ?_
        rintro e w2 ⟨rfl, rfl⟩
        go_upto_region 6 with fail
        have hN1 := hN.gr hg1
        obtain ⟨C, hin, hcl, hcells, hgr⟩ : ∃ C : World → Prop, (∀ w', IsGr w2 w' → C w') ∧ (∀ u u', C u → IsGr u u' → C u') ∧ (∀ w', C w' → (w'.cell? ⟨b, 1, none⟩ = some (.pointer l.ptr))) ∧ (∀ w', C w' → IsGr w2 w') := ⟨fun w' => IsGr w2 w', fun _ h => h, fun _ _ h k => h.trans k, fun w' hg => (hN1.gr hg).c1, fun _ h => h⟩
        refine wp_region_quietV C (by kernel_rfl) (by kernel_rfl) (hin _ (by with_reducible repeat (first | exact IsGr.refl _ | refine IsGr.gr ?_ _ _ | refine IsGr.alloc ?_ _ | refine IsGr.drew ?_ | refine IsGr.drewN ?_ _))) (fun K HK => ?_)
        refine QK.take HK ?_ (by rfl) ?_ ?_
        rotate_left
        · (intro w hw; (try have hcs := hcells w hw); (try go_split_ands); go_simp <;> with_reducible rfl)
        (try simp only [Act.put, List.setIfInBounds_toArray, List.set_cons_zero, List.set_cons_succ])
        refine QK.take HK ?_ (by rfl) ?_ ?_
        rotate_left
        · (intro w hw; (try have hcs := hcells w hw); (try go_split_ands); go_simp <;> with_reducible rfl)
        (try simp only [Act.put, List.setIfInBounds_toArray, List.set_cons_zero, List.set_cons_succ])
        refine QK.callC HK 45 #[.int .i64 1] (.int .i64 0) hcl (by rfl) (fun w => by go_simp) (fun w _ => (other1_any w).mono fun _ _ ⟨h1, h2⟩ => ⟨h1, h2 ▸ IsGr.refl _⟩) ?_
        (try simp only [Act.put, List.setIfInBounds_toArray, List.set_cons_zero, List.set_cons_succ])
        refine QK.take HK ?_ (by rfl) ?_ ?_
        rotate_left
        · (intro w hw; (try have hcs := hcells w hw); (try go_split_ands); go_simp <;> with_reducible rfl)
        (try simp only [Act.put, List.setIfInBounds_toArray, List.set_cons_zero, List.set_cons_succ])
        refine QK.take HK ?_ (by rfl) ?_ ?_
        rotate_left
        · (intro w hw; (try have hcs := hcells w hw); (try go_split_ands); go_simp <;> with_reducible rfl)
        (try simp only [Act.put, List.setIfInBounds_toArray, List.set_cons_zero, List.set_cons_succ])
        refine QK.take HK ?_ (by rfl) ?_ ?_
        rotate_left
        · (intro w hw; (try have hcs := hcells w hw); (try go_split_ands); go_simp <;> with_reducible rfl)
        (try simp only [Act.put, List.setIfInBounds_toArray, List.set_cons_zero, List.set_cons_succ])
        refine QK.take HK ?_ (by rfl) ?_ ?_
        rotate_left
        · (intro w hw; (try have hcs := hcells w hw); (try go_split_ands); go_simp <;> with_reducible rfl)
        (try simp only [Act.put, List.setIfInBounds_toArray, List.set_cons_zero, List.set_cons_succ])
        refine QK.take HK ?_ (by rfl) ?_ ?_
        rotate_left
        · (intro w hw; (try have hcs := hcells w hw); (try go_split_ands); go_simp <;> with_reducible rfl)
        (try simp only [Act.put, List.setIfInBounds_toArray, List.set_cons_zero, List.set_cons_succ])
        refine QK.nil HK ?_
        clear HK K
        intro wq hq
        have hgq := hgr wq hq
        clear hcells hin hcl hgr hq
        go_wp2_with fail
        go_roundg l.ht
        case measure => have := hh.out; omega
        case rel => exact ⟨.nd b x l r, l, rfl, rfl, rfl, hU.gr (hg1.trans hgq), hL.gr (hg1.trans hgq), i2, B.out, hg.trans (hg1.trans hgq)⟩
      · rw [if_neg hk] at hz
        have B : Hid (topv (next0 k v r A) = o) := hz
        clear hz
        rcases Int.lt_trichotomy (k v) (k x) with hk2 | hk2 | hk2
        · omega
        · have PL := fun w' (hg' : IsGr w w') => place_eq hO t v x w' (ho w' hg') hv i1 hk2
          clear hk hk2
          simp only [AT.ptr]
          go_wp2_with fail
          refine (PL _ hg).mono ?_
          rintro e w1 ⟨rfl, hg1⟩
          go_wp2_with fail
          refine (other1_any _).mono ?_
          rintro e w2 ⟨rfl, rfl⟩
          have c1 := (hN.gr hg1).c2
          go_wp2_with fail
          go_roundg r.ht
          case measure => have := hh.out; omega
          case rel => exact ⟨A, r, by rw [hpa'.out], rfl, rfl, hA.gr hg1, hR.gr hg1, i3, B.out, hg.trans hg1⟩
        · have PL := fun w' (hg' : IsGr w w') => place_gt hO t v x w' (ho w' hg') hv i1 hk2
          clear hk hk2
          simp only [AT.ptr]
          go_wp2_with fail
          refine (PL _ hg).mono ?_
          rintro e w1 ⟨rfl, hg1⟩
          go_wp2_with fail
          refine (other1_any _).mono ?_
          rintro e w2 ⟨rfl, rfl⟩
          have c1 := (hN.gr hg1).c2
          go_wp2_with fail
          go_roundg r.ht
          case measure => have := hh.out; omega
          case rel => exact ⟨A, r, by rw [hpa'.out], rfl, rfl, hA.gr hg1, hR.gr hg1, i3, B.out, hg.trans hg1⟩

def NearR0 (k : Int → Int) (v : Int) (o : Option Int) (w0 : World) (n : Nat) (p q : Value) (w : World) : Prop := ∃ A U, p = .pointer A.ptr ∧ q = .pointer U.ptr ∧ U.ht = n ∧ InT w A ∧ InT w U ∧ Int64s U ∧ topv (next1 k v U A) = o ∧ IsGr w0 w
set_option maxRecDepth 20000 in set_option maxHeartbeats 1000000 in
theorem nearest0_any {f : Nat} {k : Int → Int} (hO : Ordr f k) {t : Nat} {T : AT} (v : Int) (hv : I64 v) (w : World) (h : St k w t f T) :
    Calls Try.prog 38 #[.pointer (some ⟨t, 0, none⟩), .int .i64 v, .int .i64 0] w fun e w' => ∃ U, e = .returned (.pointer U.ptr) ∧ InT w' U ∧ topv U = topv (next1 k v T .nil) ∧ IsGr w w' := by
  have c1 := h.hd.c1
  have ho := fun w' (hg : IsGr w w') => h.hd.c0.gr hg
  obtain ⟨o, hoo⟩ : ∃ o, topv (next1 k v T .nil) = o := ⟨_, rfl⟩
  have h0 : NearR0 k v o w T.ht (.pointer none) (.pointer T.ptr) w := ⟨.nil, T, rfl, rfl, rfl, trivial, h.tree, h.ints, hoo, IsGr.refl _⟩
  obtain ⟨q0, hq0⟩ : ∃ q, T.ptr = q := ⟨_, rfl⟩
  obtain ⟨n0, hn0⟩ : ∃ n, T.ht = n := ⟨_, rfl⟩
  rw [hq0] at c1 h0
  rw [hn0] at h0
  rw [hoo]
  clear h hq0 hn0 hoo
  go_enter Try.func38, Try.ntmps38
  go_wp2_with fail
  go_loopg [7, 8] n0 (fun n p q wr => NearR0 k v o w n p q wr)
  case atStart => exact h0
  case round =>
    clear h0 c1
    obtain ⟨A, U, rfl, rfl, hn, hA, hU, hi, hz, hg⟩ := hrel
    obtain ⟨pa, hpa⟩ : ∃ pa, A.ptr = pa := ⟨_, rfl⟩
    rw [hpa]
    have hpa' : Hid (A.ptr = pa) := hpa
    clear hpa
    cases U with
    | nil =>
      have B : Hid (topv A = o) := hz
      clear hn hU hi hz
      simp only [AT.ptr]
      go_wp2_with fail
      go_ret
      exact ⟨A, by rw [hpa'.out]; rfl, hA, B.out, hg⟩
    | nd b x l r =>
      obtain ⟨i1, i2, i3⟩ := hi.nd
      have hN := hU.1
      have hL := hU.2.1
      have hR := hU.2.2
      have c0 := hN.c0
      have hh : Hid (1 + max l.ht r.ht = gk) := hn
      clear hn hi
      unfold next1 at hz
      by_cases hk : k x < k v
      · rw [if_pos hk] at hz
        have PL := fun w' (hg' : IsGr w w') => place_gt hO t v x w' (ho w' hg') hv i1 hk
        have B : Hid (topv (next1 k v r (.nd b x l r)) = o) := hz
        clear hz hk
        simp only [AT.ptr]
        go_wp2_with fail
        refine (PL _ hg).mono ?_
        rintro e w1 ⟨rfl, hg1⟩
        go_wp2_with fail
        refine (other0_any _).mono ?_
        rintro e w2 ⟨rfl, rfl⟩
        go_upto_region 6 with fail
        have hN1 := hN.gr hg1
        obtain ⟨C, hin, hcl, hcells, hgr⟩ : ∃ C : World → Prop, (∀ w', IsGr w2 w' → C w') ∧ (∀ u u', C u → IsGr u u' → C u') ∧ (∀ w', C w' → (w'.cell? ⟨b, 2, none⟩ = some (.pointer r.ptr))) ∧ (∀ w', C w' → IsGr w2 w') := ⟨fun w' => IsGr w2 w', fun _ h => h, fun _ _ h k => h.trans k, fun w' hg => (hN1.gr hg).c2, fun _ h => h⟩
        refine wp_region_quietV C (by kernel_rfl) (by kernel_rfl) (hin _ (by with_reducible repeat (first | exact IsGr.refl _ | refine IsGr.gr ?_ _ _ | refine IsGr.alloc ?_ _ | refine IsGr.drew ?_ | refine IsGr.drewN ?_ _))) (fun K HK => ?_)
        refine QK.take HK ?_ (by rfl) ?_ ?_
        rotate_left
        · (intro w hw; (try have hcs := hcells w hw); (try go_split_ands); go_simp <;> with_reducible rfl)
        (try simp only [Act.put, List.setIfInBounds_toArray, List.set_cons_zero, List.set_cons_succ])
        refine QK.take HK ?_ (by rfl) ?_ ?_
        rotate_left
        · (intro w hw; (try have hcs := hcells w hw); (try go_split_ands); go_simp <;> with_reducible rfl)
        (try simp only [Act.put, List.setIfInBounds_toArray, List.set_cons_zero, List.set_cons_succ])
        refine QK.callC HK 45 #[.int .i64 0] (.int .i64 1) hcl (by rfl) (fun w => by go_simp) (fun w _ => (other0_any w).mono fun _ _ ⟨h1, h2⟩ => ⟨h1, h2 ▸ IsGr.refl _⟩) ?_
        (try simp only [Act.put, List.setIfInBounds_toArray, List.set_cons_zero, List.set_cons_succ])
        refine QK.take HK ?_ (by rfl) ?_ ?_
        rotate_left
        · (intro w hw; (try have hcs := hcells w hw); (try go_split_ands); go_simp <;> with_reducible rfl)
        (try simp only [Act.put, List.setIfInBounds_toArray, List.set_cons_zero, List.set_cons_succ])
        refine QK.take HK ?_ (by rfl) ?_ ?_
        rotate_left
        · (intro w hw; (try have hcs := hcells w hw); (try go_split_ands); go_simp <;> with_reducible rfl)
        (try simp only [Act.put, List.setIfInBounds_toArray, List.set_cons_zero, List.set_cons_succ])
        refine QK.take HK ?_ (by rfl) ?_ ?_
        rotate_left
        · (intro w hw; (try have hcs := hcells w hw); (try go_split_ands); go_simp <;> with_reducible rfl)
        (try simp only [Act.put, List.setIfInBounds_toArray, List.set_cons_zero, List.set_cons_succ])
        refine QK.take HK ?_ (by rfl) ?_ ?_
        rotate_left
        · (intro w hw; (try have hcs := hcells w hw); (try go_split_ands); go_simp <;> with_reducible rfl)
        (try simp only [Act.put, List.setIfInBounds_toArray, List.set_cons_zero, List.set_cons_succ])
        refine QK.take HK ?_ (by rfl) ?_ ?_
        rotate_left
        · (intro w hw; (try have hcs := hcells w hw); (try go_split_ands); go_simp <;> with_reducible rfl)
        (try simp only [Act.put, List.setIfInBounds_toArray, List.set_cons_zero, List.set_cons_succ])
        refine QK.nil HK ?_
        clear HK K
        intro wq hq
        have hgq := hgr wq hq
        clear hcells hin hcl hgr hq
        go_wp2_with fail
        go_roundg r.ht
        case measure => have := hh.out; omega
        case rel => exact ⟨.nd b x l r, r, rfl, rfl, rfl, hU.gr (hg1.trans hgq), hR.gr (hg1.trans hgq), i3, B.out, hg.trans (hg1.trans hgq)⟩
      · rw [if_neg hk] at hz
        have B : Hid (topv (next1 k v l A) = o) := hz
        clear hz
        rcases Int.lt_trichotomy (k v) (k x) with hk2 | hk2 | hk2
        · have PL := fun w' (hg' : IsGr w w') => place_lt hO t v x w' (ho w' hg') hv i1 hk2
          clear hk hk2
          simp only [AT.ptr]
          go_wp2_with fail
          refine (PL _ hg).mono ?_
          rintro e w1 ⟨rfl, hg1⟩
          go_wp2_with fail
          refine (other0_any _).mono ?_
          rintro e w2 ⟨rfl, rfl⟩
          have c1 := (hN.gr hg1).c1
          go_wp2_with fail
          go_roundg l.ht
          case measure => have := hh.out; omega
          case rel => exact ⟨A, l, by rw [hpa'.out], rfl, rfl, hA.gr hg1, hL.gr hg1, i2, B.out, hg.trans hg1⟩
        · have PL := fun w' (hg' : IsGr w w') => place_eq hO t v x w' (ho w' hg') hv i1 hk2
          clear hk hk2
          simp only [AT.ptr]
          go_wp2_with fail
          refine (PL _ hg).mono ?_
          rintro e w1 ⟨rfl, hg1⟩
          go_wp2_with fail
          refine (other0_any _).mono ?_
          rintro e w2 ⟨rfl, rfl⟩
          have c1 := (hN.gr hg1).c1
          go_wp2_with fail
          go_roundg l.ht
          case measure => have := hh.out; omega
          case rel => exact ⟨A, l, by rw [hpa'.out], rfl, rfl, hA.gr hg1, hL.gr hg1, i2, B.out, hg.trans hg1⟩
        · omega

set_option maxRecDepth 20000 in set_option maxHeartbeats 1000000 in
theorem First_any {f : Nat} {k : Int → Int} {t : Nat} {T : AT} (w : World) (h : St k w t f T) (z : Int) (s : Bool) (hz : Tells (end0 T) z s) :
    Calls Try.prog 21 #[.pointer (some ⟨t, 0, none⟩)] w fun e w' => e = .returned (.tuple #[.int .i64 z, .bool s]) ∧ IsGr w w' := by
  have c1 := h.hd.c1
  have C := outermost0_any T w h.tree
  obtain ⟨o, ho⟩ : ∃ o, end0 T = o := ⟨_, rfl⟩
  obtain ⟨q0, hq0⟩ : ∃ q, T.ptr = q := ⟨_, rfl⟩
  rw [ho] at C hz
  rw [hq0] at c1 C
  clear h ho hq0
  have hZ : Hid (Tells o z s) := hz
  clear hz
  go_enter Try.func21, Try.ntmps21
  go_wp2_with fail
  refine C.mono ?_
  clear C
  rintro e w1 ⟨U, rfl, hU, hv, rfl⟩
  have hV : Hid (topv U = o) := hv
  clear hv
  cases U with
  | nil =>
    obtain ⟨rfl, rfl⟩ : z = 0 ∧ s = false := by have := hV.out; have h2 := hZ.out; subst this; exact h2
    simp only [AT.ptr]
    go_wp2_with fail
    refine (told_nil _).mono ?_
    rintro e w2 ⟨rfl, rfl⟩
    go_wp2_with fail
    exact bodyPost_ret (v := .tuple #[.int .i64 0, .bool false]) (by simp [results, Try.results21, go_sem]) rfl ⟨rfl, IsGr.refl _⟩
  | nd b x l r =>
    obtain ⟨hx, rfl⟩ : z = x ∧ s = true := by have := hV.out; have h2 := hZ.out; subst this; exact h2
    have hX : Hid (z = x) := hx
    clear hx
    simp only [AT.ptr]
    go_wp2_with fail
    refine (told_any b x _ _ _ _ hU.1).mono ?_
    rintro e w2 ⟨rfl, rfl⟩
    go_wp2_with fail
    exact bodyPost_ret (v := .tuple #[.int .i64 x, .bool true]) (by simp [results, Try.results21, go_sem]) rfl ⟨by rw [hX.out], IsGr.refl _⟩

set_option maxRecDepth 20000 in set_option maxHeartbeats 1000000 in
theorem Last_any {f : Nat} {k : Int → Int} {t : Nat} {T : AT} (w : World) (h : St k w t f T) (z : Int) (s : Bool) (hz : Tells (end1 T) z s) :
    Calls Try.prog 22 #[.pointer (some ⟨t, 0, none⟩)] w fun e w' => e = .returned (.tuple #[.int .i64 z, .bool s]) ∧ IsGr w w' := by
  have c1 := h.hd.c1
  have C := outermost1_any T w h.tree
  obtain ⟨o, ho⟩ : ∃ o, end1 T = o := ⟨_, rfl⟩
  obtain ⟨q0, hq0⟩ : ∃ q, T.ptr = q := ⟨_, rfl⟩
  rw [ho] at C hz
  rw [hq0] at c1 C
  clear h ho hq0
  have hZ : Hid (Tells o z s) := hz
  clear hz
  go_enter Try.func22, Try.ntmps22
  go_wp2_with fail
  refine C.mono ?_
  clear C
  rintro e w1 ⟨U, rfl, hU, hv, rfl⟩
  have hV : Hid (topv U = o) := hv
  clear hv
  cases U with
  | nil =>
    obtain ⟨rfl, rfl⟩ : z = 0 ∧ s = false := by have := hV.out; have h2 := hZ.out; subst this; exact h2
    simp only [AT.ptr]
    go_wp2_with fail
    refine (told_nil _).mono ?_
    rintro e w2 ⟨rfl, rfl⟩
    go_wp2_with fail
    exact bodyPost_ret (v := .tuple #[.int .i64 0, .bool false]) (by simp [results, Try.results22, go_sem]) rfl ⟨rfl, IsGr.refl _⟩
  | nd b x l r =>
    obtain ⟨hx, rfl⟩ : z = x ∧ s = true := by have := hV.out; have h2 := hZ.out; subst this; exact h2
    have hX : Hid (z = x) := hx
    clear hx
    simp only [AT.ptr]
    go_wp2_with fail
    refine (told_any b x _ _ _ _ hU.1).mono ?_
    rintro e w2 ⟨rfl, rfl⟩
    go_wp2_with fail
    exact bodyPost_ret (v := .tuple #[.int .i64 x, .bool true]) (by simp [results, Try.results22, go_sem]) rfl ⟨by rw [hX.out], IsGr.refl _⟩

set_option maxRecDepth 20000 in set_option maxHeartbeats 1000000 in
theorem Next_any {f : Nat} {k : Int → Int} (hO : Ordr f k) {t : Nat} {T : AT} (v : Int) (hv : I64 v) (w : World) (h : St k w t f T) (z : Int) (s : Bool) (hz : Tells (topv (next0 k v T .nil)) z s) :
    Calls Try.prog 19 #[.pointer (some ⟨t, 0, none⟩), .int .i64 v] w fun e w' => e = .returned (.tuple #[.int .i64 z, .bool s]) ∧ IsGr w w' := by
  have c1 := h.hd.c1
  have C := nearest1_any hO v hv w h
  obtain ⟨o, ho⟩ : ∃ o, topv (next0 k v T .nil) = o := ⟨_, rfl⟩
  obtain ⟨q0, hq0⟩ : ∃ q, T.ptr = q := ⟨_, rfl⟩
  rw [ho] at C hz
  rw [hq0] at c1
  clear h ho hq0
  have hZ : Hid (Tells o z s) := hz
  clear hz
  go_enter Try.func19, Try.ntmps19
  go_wp2_with fail
  refine C.mono ?_
  clear C
  rintro e w1 ⟨U, rfl, hU, hv, hg⟩
  have hV : Hid (topv U = o) := hv
  clear hv
  cases U with
  | nil =>
    obtain ⟨rfl, rfl⟩ : z = 0 ∧ s = false := by have := hV.out; have h2 := hZ.out; subst this; exact h2
    simp only [AT.ptr]
    go_wp2_with fail
    refine (told_nil _).mono ?_
    rintro e w2 ⟨rfl, rfl⟩
    go_wp2_with fail
    exact bodyPost_ret (v := .tuple #[.int .i64 0, .bool false]) (by simp [results, Try.results19, go_sem]) rfl ⟨rfl, hg⟩
  | nd b x l r =>
    obtain ⟨hx, rfl⟩ : z = x ∧ s = true := by have := hV.out; have h2 := hZ.out; subst this; exact h2
    have hX : Hid (z = x) := hx
    clear hx
    simp only [AT.ptr]
    go_wp2_with fail
    refine (told_any b x _ _ _ _ hU.1).mono ?_
    rintro e w2 ⟨rfl, rfl⟩
    go_wp2_with fail
    exact bodyPost_ret (v := .tuple #[.int .i64 x, .bool true]) (by simp [results, Try.results19, go_sem]) rfl ⟨by rw [hX.out], hg⟩

set_option maxRecDepth 20000 in set_option maxHeartbeats 1000000 in
theorem Prev_any {f : Nat} {k : Int → Int} (hO : Ordr f k) {t : Nat} {T : AT} (v : Int) (hv : I64 v) (w : World) (h : St k w t f T) (z : Int) (s : Bool) (hz : Tells (topv (next1 k v T .nil)) z s) :
    Calls Try.prog 20 #[.pointer (some ⟨t, 0, none⟩), .int .i64 v] w fun e w' => e = .returned (.tuple #[.int .i64 z, .bool s]) ∧ IsGr w w' := by
  have c1 := h.hd.c1
  have C := nearest0_any hO v hv w h
  obtain ⟨o, ho⟩ : ∃ o, topv (next1 k v T .nil) = o := ⟨_, rfl⟩
  obtain ⟨q0, hq0⟩ : ∃ q, T.ptr = q := ⟨_, rfl⟩
  rw [ho] at C hz
  rw [hq0] at c1
  clear h ho hq0
  have hZ : Hid (Tells o z s) := hz
  clear hz
  go_enter Try.func20, Try.ntmps20
  go_wp2_with fail
  refine C.mono ?_
  clear C
  rintro e w1 ⟨U, rfl, hU, hv, hg⟩
  have hV : Hid (topv U = o) := hv
  clear hv
  cases U with
  | nil =>
    obtain ⟨rfl, rfl⟩ : z = 0 ∧ s = false := by have := hV.out; have h2 := hZ.out; subst this; exact h2
    simp only [AT.ptr]
    go_wp2_with fail
    refine (told_nil _).mono ?_
    rintro e w2 ⟨rfl, rfl⟩
    go_wp2_with fail
    exact bodyPost_ret (v := .tuple #[.int .i64 0, .bool false]) (by simp [results, Try.results20, go_sem]) rfl ⟨rfl, hg⟩
  | nd b x l r =>
    obtain ⟨hx, rfl⟩ : z = x ∧ s = true := by have := hV.out; have h2 := hZ.out; subst this; exact h2
    have hX : Hid (z = x) := hx
    clear hx
    simp only [AT.ptr]
    go_wp2_with fail
    refine (told_any b x _ _ _ _ hU.1).mono ?_
    rintro e w2 ⟨rfl, rfl⟩
    go_wp2_with fail
    exact bodyPost_ret (v := .tuple #[.int .i64 x, .bool true]) (by simp [results, Try.results20, go_sem]) rfl ⟨by rw [hX.out], hg⟩
end Go.Proofs.Ytaackkfegkmpkaa
