/- Package decimal over the loaded program: unit, digit, count. -/
import Derived.Test.YtfpifbfnebfdaaaDoorJ1
import Derived.Test.YtfpifbfnebfdaaaDoorS12
import Derived.Test.YtfpifbfnebfdaaaDoorC2
import Derived.Lib.OthersKept
import Derived.WalkKit
import Derived.BigCall
namespace Go.Proofs.YtfpifbfnebfdaaaDoor
open Go.RowKit Go.Shelf
attribute [local go_sem] Gr.size Gr.cell? Gr.frozen? Gr.setCell Gr.drew Gr.drewN Gr.of_drew Gr.of_drewN Gr.gr Gr.lt_of1 Gr.le_of1 Gr.lt_of2 Gr.le_of2 Gr.lt_of3 Gr.le_of3 Gr.lt_of4 Gr.le_of4 Gr.lt_of5 Gr.le_of5 Gr.lt_of6 Gr.le_of6 Gr.lt_of7 Gr.le_of7 Gr.lt_of8 Gr.le_of8 Gr.lt_of9 Gr.le_of9 Gr.lt_of10 Gr.le_of10 Gr.lt_of11 Gr.le_of11 Gr.lt_of12 Gr.le_of12 Gr.lt_of13 Gr.le_of13 Gr.lt_of14 Gr.le_of14 Gr.lt_of15 Gr.le_of15 Gr.lt_of16 Gr.le_of16 Gr.lt_of17 Gr.le_of17 Gr.lt_of18 Gr.le_of18 Gr.lt_of19 Gr.le_of19 Gr.lt_of20 Gr.le_of20 Gr.lt_of21 Gr.le_of21 Gr.lt_of22 Gr.le_of22 Gr.lt_of23 Gr.le_of23 Gr.lt_of24 Gr.le_of24
set_option maxRecDepth 20000 in set_option maxHeartbeats 2000000 in
theorem ddigit_any (c : Int) (w : World) : Calls Tryd.prog 38 #[.int .i32 c] w fun e w' => e = .returned (.bool (dgB c)) ∧ w' = w := by
  obtain ⟨b, hb⟩ : ∃ b, dgB c = b := ⟨_, rfl⟩
  rw [hb]
  unfold dgB at hb
  by_cases h : 48 ≤ c
  · have hb2 : decide (c ≤ 57) = b := by rw [← hb, decide_eq_true h]; rfl
    have h' : decide (48 ≤ c) = true := decide_eq_true h
    clear hb
    go_enter Tryd.func38, Tryd.ntmps38
    go_wp2_with fail
    go_ret
    first | exact ⟨rfl, rfl⟩ | (refine ⟨?_, rfl⟩; rw [← hb2]; rfl)
  · have hb2 : b = false := by rw [← hb, decide_eq_false h]; rfl
    subst hb2
    have h' : decide (48 ≤ c) = false := decide_eq_false h
    clear hb
    go_enter Tryd.func38, Tryd.ntmps38
    go_wp2_with fail
    go_ret
    exact ⟨rfl, rfl⟩
set_option maxRecDepth 20000 in set_option maxHeartbeats 2000000 in
theorem dunit_any (n : Int) (b : Bool) (hb : decide (0 ≤ n ∧ n ≤ 9) = b) (w : World) : Calls Tryd.prog 22 #[.int .i64 n] w fun e w' => e = .returned (.bool b) ∧ w' = w := by
  by_cases h : 0 ≤ n
  · have hb2 : decide (n ≤ 9) = b := by rw [← hb]; simp [h]
    have h' : decide (0 ≤ n) = true := decide_eq_true h
    clear hb
    go_enter Tryd.func22, Tryd.ntmps22
    go_wp2_with fail
    go_ret
    first | exact ⟨rfl, rfl⟩ | (refine ⟨?_, rfl⟩; rw [← hb2]; rfl)
  · have hb2 : b = false := by rw [← hb]; simp [h]
    subst hb2
    have h' : decide (0 ≤ n) = false := decide_eq_false h
    clear hb
    go_enter Tryd.func22, Tryd.ntmps22
    go_wp2_with fail
    go_ret
    exact ⟨rfl, rfl⟩
/-- Bytes below 128 alone. -/
def Asc (l : List Int) : Prop := ∀ c ∈ l, c < 128
theorem Asc.at {s : ByteArray} (h : Asc (bts s)) {i : Nat} (hi : i < s.size) : (s[i]'hi).toNat < 128 := by
  have h1 := bts_at hi
  have h2 : (bts s).getD i 0 ∈ bts s := by
    simp only [List.getD_eq_getElem?_getD, List.getElem?_eq_getElem (show i < (bts s).length by rw [bts_len]; exact hi), Option.getD_some]
    exact List.getElem_mem _
  have := h _ h2
  rw [h1] at this
  omega
theorem take_at {s : ByteArray} {i : Nat} (hi : i < s.size) : (bts s).take (i + 1) = (bts s).take i ++ [((s[i]'hi).toNat : Int)] := by
  rw [← bts_at hi, List.take_add_one, List.getD_eq_getElem?_getD, List.getElem?_eq_getElem (show i < (bts s).length by rw [bts_len]; exact hi)]
  rfl
set_option maxRecDepth 20000 in set_option maxHeartbeats 2000000 in
theorem dcount_any (s : ByteArray) (w : World) (hs : s.size ≤ 100000) (ha : Asc (bts s)) : Calls Tryd.prog 23 #[.string s] w fun e w' => e = .returned (.int .i64 (cnF 0 (bts s))) ∧ IsGr w w' := by
  have HS : Hid (s.size ≤ 100000 ∧ Asc (bts s)) := ⟨hs, ha⟩
  clear hs ha
  go_enter Tryd.func23, Tryd.ntmps23
  go_wp2_with fail
  go_loopg [3] s.size (fun r p3 wr => ∃ i, i + r = s.size ∧ p3 = .int .i64 (cnF 0 ((bts s).take i)) ∧ wr.heap[w.heap.size]? = some (.stringIter s i) ∧ Below w.heap.size w wr)
  case atStart =>
    exact ⟨0, by omega, rfl, by simpa using World.iter_heap w s 0, (Below.refl _ w).alloc (Nat.le_refl _) _⟩
  case round =>
    obtain ⟨i, hk, rfl, hit, hbw⟩ := hrel
    have hsz : w.heap.size < wr.heap.size := (Array.getElem?_eq_some_iff.1 hit).1
    obtain ⟨n, hn⟩ : ∃ n, cnF 0 ((bts s).take i) = n := ⟨_, rfl⟩
    have hr := cnF_range ((bts s).take i) (n := 0) (by omega)
    rw [hn] at hr ⊢
    by_cases hp : i < s.size
    · have hA := HS.out.2.at hp
      have hnx := fun ty => Lib.run_next_ascii_at (P := Tryd.prog) wr w.heap.size s i ty hit hp hA
      have hit2 := Lib.iterAt_heap wr w.heap.size s i (i + 1) hit
      have hbw2 := Lib.below_iterAt hbw (k := w.heap.size) (Nat.le_refl _) s (i + 1)
      have hT := take_at hp
      obtain ⟨c, hc⟩ : ∃ c : Int, ((s[i]'hp).toNat : Int) = c := ⟨_, rfl⟩
      rw [hc] at hnx hT
      have hcr : 0 ≤ c ∧ c < 128 := by omega
      have HC : Hid (cnF 0 ((bts s).take (i + 1)) = cn1 n c) := by show _ = _; rw [hT, cnF_snoc, hn]
      obtain ⟨W2, hW2⟩ : ∃ W2, wr.iterAt w.heap.size s (i + 1) = W2 := ⟨_, rfl⟩
      rw [hW2] at hnx hit2 hbw2
      clear hT hc hA hit hbw hW2 hn
      cases hd : dgB c with
      | true =>
        have hdr := dg_range hd
        obtain ⟨m, hm⟩ : ∃ m, (if 1125899906842624 < 10 * n + (c - 48) then 1125899906842624 else 10 * n + (c - 48)) = m := ⟨_, rfl⟩
        have e1 : IntKind.i64.wrap (10 * n) = 10 * n := by rw [IntKind.wrap_i64]; omega
        have e2 : IntKind.i32.wrap (c - 48) = c - 48 := by rw [IntKind.wrap_i32]; omega
        have e3 : IntKind.i64.wrap (c - 48) = c - 48 := by rw [IntKind.wrap_i64]; omega
        have e4 : IntKind.i64.wrap (10 * n + (c - 48)) = 10 * n + (c - 48) := by rw [IntKind.wrap_i64]; omega
        go_wp2_with fail
        refine (ddigit_any c _).mono ?_
        rintro e w2 ⟨rfl, rfl⟩
        rw [hd]
        go_wp2_with fail
        go_roundg (s.size - (i + 1))
        case measure => omega
        case rel =>
          refine ⟨i + 1, by omega, ?_, hit2, hbw2⟩
          rw [HC.out]; unfold cn1; rw [if_pos hd, hm]
      | false =>
        go_wp2_with fail
        refine (ddigit_any c _).mono ?_
        rintro e w2 ⟨rfl, rfl⟩
        rw [hd]
        go_wp2_with fail
        go_roundg (s.size - (i + 1))
        case measure => omega
        case rel =>
          refine ⟨i + 1, by omega, ?_, hit2, hbw2⟩
          rw [HC.out]; unfold cn1; rw [hd]; rfl
    · have hnx := fun ty => Lib.run_next_end_at (P := Tryd.prog) wr w.heap.size s i ty hit hp
      go_wp2_with fail
      go_ret
      rw [← hn, List.take_of_length_le (by rw [bts_len]; omega)]
      exact ⟨rfl, IsGr.of_below hbw⟩
end Go.Proofs.YtfpifbfnebfdaaaDoor
