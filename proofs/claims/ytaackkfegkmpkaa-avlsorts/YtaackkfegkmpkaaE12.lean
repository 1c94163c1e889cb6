/- Contracts of package avl over the loaded program: Get; the outermost; the nearest. -/
import Derived.Test.YtaackkfegkmpkaaE11
import Derived.Test.YtaackkfegkmpkaaH2b
import Derived.Deep.LoopGhost
namespace Go.Proofs.Ytaackkfegkmpkaa
open Go.RowKit
attribute [local go_sem] Gr.size Gr.cell? Gr.frozen? Gr.setCell Gr.drew Gr.drewN Gr.of_drew Gr.of_drewN Gr.gr Gr.lt_of1 Gr.le_of1 Gr.lt_of2 Gr.le_of2 Gr.lt_of3 Gr.le_of3 Gr.lt_of4 Gr.le_of4 Gr.lt_of5 Gr.le_of5 Gr.lt_of6 Gr.le_of6 Gr.lt_of7 Gr.le_of7 Gr.lt_of8 Gr.le_of8 Gr.lt_of9 Gr.le_of9 Gr.lt_of10 Gr.le_of10 Gr.lt_of11 Gr.le_of11 Gr.lt_of12 Gr.le_of12 Gr.lt_of13 Gr.le_of13 Gr.lt_of14 Gr.le_of14 Gr.lt_of15 Gr.le_of15 Gr.lt_of16 Gr.le_of16 Gr.lt_of17 Gr.le_of17 Gr.lt_of18 Gr.le_of18 Gr.lt_of19 Gr.le_of19 Gr.lt_of20 Gr.le_of20 Gr.lt_of21 Gr.le_of21 Gr.lt_of22 Gr.le_of22 Gr.lt_of23 Gr.le_of23 Gr.lt_of24 Gr.le_of24
/-- The one that is the same. -/
def look (k : Int → Int) (v : Int) : AT → Option Int
  | .nil => none
  | .nd _ x l r => if k v = k x then some x else if k v < k x then look k v l else look k v r
/-- z and s tell o. -/
def Tells (o : Option Int) (z : Int) (s : Bool) : Prop := z = o.getD 0 ∧ s = o.isSome
theorem Tells.of (o : Option Int) : ∃ z s, Tells o z s := ⟨_, _, rfl, rfl⟩
/-- On the way down: at p the tree T lies, of which at most n rounds are to come, and which holds the answer. -/
def GetR (k : Int → Int) (v : Int) (z : Int) (s : Bool) (w0 : World) (n : Nat) (p : Value) (w : World) : Prop :=
  ∃ T, p = .pointer T.ptr ∧ T.ht = n ∧ InT w T ∧ Int64s T ∧ Tells (look k v T) z s ∧ IsGr w0 w
set_option maxRecDepth 20000 in set_option maxHeartbeats 2000000 in
theorem Get_any {f : Nat} {k : Int → Int} (hO : Ordr f k) {t : Nat} {T : AT} (v : Int) (hv : I64 v) (w : World) (h : St k w t f T) (z : Int) (s : Bool) (hz : Tells (look k v T) z s) :
    Calls Try.prog 14 #[.pointer (some ⟨t, 0, none⟩), .int .i64 v] w fun e w' => e = .returned (.tuple #[.int .i64 z, .bool s]) ∧ IsGr w w' := by
  have c1 := h.hd.c1
  have ho := fun w' (hg : IsGr w w') => h.hd.c0.gr hg
  have h0 : GetR k v z s w T.ht (.pointer T.ptr) w := ⟨T, rfl, rfl, h.tree, h.ints, hz, IsGr.refl _⟩
  obtain ⟨q0, hq0⟩ : ∃ q, T.ptr = q := ⟨_, rfl⟩
  obtain ⟨n0, hn0⟩ : ∃ n, T.ht = n := ⟨_, rfl⟩
  rw [hq0] at c1 h0
  rw [hn0] at h0
  clear h hz hq0 hn0
  go_enter Try.func14, Try.ntmps14
  go_wp2_with fail
  go_loopg [6] n0 (fun n p wr => GetR k v z s w n p wr)
  case atStart => exact h0
  case round =>
    clear h0 c1
    obtain ⟨U, rfl, hn, hU, hi, hz, hg⟩ := hrel
    cases U with
    | nil =>
      obtain ⟨rfl, rfl⟩ : z = 0 ∧ s = false := hz
      clear hn hU hi
      simp only [AT.ptr]
      go_wp2_with fail
      refine (told_nil _).mono ?_
      rintro e w1 ⟨rfl, rfl⟩
      go_wp2_with fail
      exact bodyPost_ret (v := .tuple #[.int .i64 0, .bool false]) (by simp [results, Try.results14, go_sem]) rfl ⟨rfl, hg⟩
    | nd b x l r =>
      obtain ⟨i1, i2, i3⟩ := hi.nd
      have hN := hU.1
      have c0 := hN.c0
      have hL := hU.2.1
      have hR := hU.2.2
      clear hU hi
      have hh : Hid (1 + max l.ht r.ht = gk) := hn
      clear hn
      unfold look at hz
      rcases Int.lt_trichotomy (k v) (k x) with hk | hk | hk
      · rw [if_neg (by omega), if_pos hk] at hz
        have PL := fun w' (hg' : IsGr w w') => place_lt hO t v x w' (ho w' hg') hv i1 hk
        have A : Hid (Tells (look k v l) z s) := hz
        clear hz hk
        simp only [AT.ptr]
        go_wp2_with fail
        refine (PL _ hg).mono ?_
        rintro e w1 ⟨rfl, hg1⟩
        have c1 := (hN.gr hg1).c1
        go_wp2_with fail
        go_roundg l.ht
        case measure => have := hh.out; omega
        case rel => exact ⟨l, rfl, rfl, hL.gr hg1, i2, A.out, hg.trans hg1⟩
      · rw [if_pos hk] at hz
        obtain ⟨e1, rfl⟩ : z = x ∧ s = true := hz
        have A : Hid (z = x) := e1
        clear e1
        have PL := fun w' (hg' : IsGr w w') => place_eq hO t v x w' (ho w' hg') hv i1 hk
        clear hk
        simp only [AT.ptr]
        go_wp2_with fail
        refine (PL _ hg).mono ?_
        rintro e w1 ⟨rfl, hg1⟩
        go_wp2_with fail
        refine (told_any b x _ _ _ _ (hN.gr hg1)).mono ?_
        rintro e w2 ⟨rfl, rfl⟩
        go_wp2_with fail
        exact bodyPost_ret (v := .tuple #[.int .i64 x, .bool true]) (by simp [results, Try.results14, go_sem]) rfl ⟨by rw [A.out], hg.trans hg1⟩
      · rw [if_neg (by omega), if_neg (by omega)] at hz
        have PL := fun w' (hg' : IsGr w w') => place_gt hO t v x w' (ho w' hg') hv i1 hk
        have A : Hid (Tells (look k v r) z s) := hz
        clear hz hk
        simp only [AT.ptr]
        go_wp2_with fail
        refine (PL _ hg).mono ?_
        rintro e w1 ⟨rfl, hg1⟩
        have c1 := (hN.gr hg1).c2
        go_wp2_with fail
        go_roundg r.ht
        case measure => have := hh.out; omega
        case rel => exact ⟨r, rfl, rfl, hR.gr hg1, i3, A.out, hg.trans hg1⟩
end Go.Proofs.Ytaackkfegkmpkaa
