/- gromalaw05 over the loaded program: AvlDeep's law. -/
import Derived.Test.YtaackkfegkmpkaaE21
namespace Go.Proofs.Ytaackkfegkmpkaa
open Go.RowKit Go.Shelf
attribute [local go_sem] Gr.size Gr.cell? Gr.frozen? Gr.setCell Gr.drew Gr.drewN Gr.of_drew Gr.of_drewN Gr.gr Gr.lt_of1 Gr.le_of1 Gr.lt_of2 Gr.le_of2 Gr.lt_of3 Gr.le_of3 Gr.lt_of4 Gr.le_of4 Gr.lt_of5 Gr.le_of5 Gr.lt_of6 Gr.le_of6 Gr.lt_of7 Gr.le_of7 Gr.lt_of8 Gr.le_of8 Gr.lt_of9 Gr.le_of9 Gr.lt_of10 Gr.le_of10 Gr.lt_of11 Gr.le_of11 Gr.lt_of12 Gr.le_of12 Gr.lt_of13 Gr.le_of13 Gr.lt_of14 Gr.le_of14 Gr.lt_of15 Gr.le_of15 Gr.lt_of16 Gr.le_of16 Gr.lt_of17 Gr.le_of17 Gr.lt_of18 Gr.le_of18 Gr.lt_of19 Gr.le_of19 Gr.lt_of20 Gr.le_of20 Gr.lt_of21 Gr.le_of21 Gr.lt_of22 Gr.le_of22 Gr.lt_of23 Gr.le_of23 Gr.lt_of24 Gr.le_of24
/-- The calls that came in. -/
def Ops (w : World) (a : Option Addr) (n : Nat) (l : List (Int × Int)) : Prop :=
  n = l.length ∧ (∀ p ∈ l, I64 p.2) ∧ (n = 0 ∨ ∃ g o, a = some ⟨g, o, none⟩ ∧ g < w.heap.size ∧ ∀ i, i < n → w.cell? ⟨g, o + i * 2, none⟩ = some (.int .i64 (l.getD i (0, 0)).1) ∧ w.cell? ⟨g, o + i * 2 + 1, none⟩ = some (.int .i64 (l.getD i (0, 0)).2))
theorem Ops.at {w : World} {a : Option Addr} {n : Nat} {l : List (Int × Int)} (h : Ops w a n l) {k : Nat} (hk : k < n) :
    ∃ g o x y, a = some ⟨g, o, none⟩ ∧ I64 y ∧ ∀ w', Below w.heap.size w w' → w'.cell? ⟨g, o + k * 2, none⟩ = some (.int .i64 x) ∧ w'.cell? ⟨g, o + k * 2 + 1, none⟩ = some (.int .i64 y) := by
  obtain ⟨h1, h2, h3⟩ := h
  rcases h3 with h3 | ⟨g, o, h4, h5, h6⟩
  · omega
  · refine ⟨g, o, _, _, h4, ?_, fun w' hb => ⟨(hb.cell (p := ⟨g, o + k * 2, none⟩) h5).trans (h6 k hk).1, (hb.cell (p := ⟨g, o + k * 2 + 1, none⟩) h5).trans (h6 k hk).2⟩⟩
    have : l.getD k (0, 0) ∈ l := by
      have hk' : k < l.length := by omega
      simp only [List.getD, List.getElem?_eq_getElem hk', Option.getD_some]; exact List.getElem_mem hk'
    exact h2 _ this
theorem New_Both (w : World) : Both (w.alloc (.cells #[.func (.func 9) #[] #[], .pointer none, .int .i64 0] 50 (0, 0))) w.heap.size w.heap.size (.slice none 0 0) .nil :=
  ⟨New_St tq 9 w, Lst.nil _ _, (fun g h => by cases h), Nat.le_refl _, (fun b hb => by simp [AT.ids, AT.inl] at hb)⟩
theorem half_spec {len j r : Nat} (h : r = len / 2 ^ j) (hr : 0 < r) : r / 2 = len / 2 ^ (j + 1) ∧ 2 ^ j ≤ len := by
  subst h
  refine ⟨by rw [Nat.pow_succ, Nat.div_div_eq_div_mul], ?_⟩
  rcases Nat.lt_or_ge len (2 ^ j) with h | h
  · rw [Nat.div_eq_of_lt h] at hr; omega
  · exact h
theorem ht_low {T : AT} {j : Nat} (h : j = 0 ∨ 2 ^ (j - 1) ≤ T.inl.length) : j ≤ T.ht := by
  rcases h with h | h
  · omega
  · have h1 := Nat.lt_of_le_of_lt h (len_lt_pow T)
    have := (Nat.pow_lt_pow_iff_right (by omega : 1 < 2)).1 h1
    omega
theorem ht_high {T : AT} {d n : Nat} (hT : T.ok) (h : T.inl.length = n) (hd : n < least (d + 1)) : T.ht ≤ d := by
  rcases Nat.lt_or_ge d T.ht with h1 | h1
  · have := least_le (show d + 1 ≤ T.ht from h1)
    have := ok_least hT
    omega
  · exact h1
theorem Wr.belowN {w w' : World} (h : Wr [] w w') {n : Nat} (hn : n ≤ w.heap.size) : Below n w w' := h.below hn (by simp)
set_option maxRecDepth 20000 in set_option maxHeartbeats 2000000 in
theorem law_deep_many (a : Option Addr) (n c : Nat) (w : World) (hn : 200 < n) : Calls Try.prog 6 #[.slice a n c] w fun e w' => e = .returned (.bool true) ∧ Below w.heap.size w w' := by
  have hn' : (200 : Int) < n := by omega
  go_enter Try.func6, Try.ntmps6
  go_wp2_with fail
  refine (New_any 9 w).mono ?_
  rintro e w1 ⟨rfl, e1⟩
  have B1 : Below w.heap.size w w1 := e1 ▸ ((IsGr.refl w).alloc _).below
  clear e1
  go_wp2_with fail
  refine (awake_any _).mono ?_
  rintro e w2 ⟨rfl, B2⟩
  go_wp2_with fail
  go_ret
  exact ⟨rfl, B1.trans (B2.mono B1.size)⟩
set_option maxRecDepth 20000 in set_option maxHeartbeats 2000000 in
theorem law_deep_few (a : Option Addr) (n c : Nat) (l : List (Int × Int)) (w : World) (h : Ops w a n l) (hn : n ≤ 200) : Calls Try.prog 6 #[.slice a n c] w fun e w' => e = .returned (.bool true) ∧ Below w.heap.size w w' := by
  have hn' : ¬ (200 : Int) < n := by omega
  have hn2 : (n : Int) ≤ 200 := by omega
  have HP : Hid (Ops w a n l) := h
  clear h
  go_enter Try.func6, Try.ntmps6
  go_wp2_with fail
  refine (New_any 9 w).mono ?_
  rintro e w1 ⟨rfl, e1⟩
  have B1 : Below w.heap.size w w1 := e1 ▸ ((IsGr.refl w).alloc _).below
  have S1 : Both w1 w.heap.size w.heap.size (.slice none 0 0) .nil := e1 ▸ New_Both w
  clear e1
  go_wp2_with fail
  go_loopg [4, 24] n (fun r p4 p24 wr => ∃ (k : Nat) (T : AT), k + r = n ∧ p24 = .int .i64 k ∧ Hid (Both wr w.heap.size w.heap.size p4 T ∧ T.inl.length ≤ k ∧ Below w.heap.size w wr) ∧ ∃ sa sn sc, p4 = .slice sa sn sc)
  case atStart => exact ⟨0, .nil, by omega, rfl, ⟨S1, by simp [AT.inl], B1⟩, none, 0, 0, rfl⟩
  case round =>
    clear S1 B1
    obtain ⟨k, T, hk, rfl, HB, sa, sn, sc, rfl⟩ := hrel
    by_cases hkn : k < n
    · obtain ⟨g, o, x, y, rfl, hy, hcs⟩ := HP.out.at hkn
      obtain ⟨c1, c2⟩ := hcs _ HB.out.2.2
      have hkn' : (k : Int) < n := by omega
      have e1 : IntKind.i64.wrap ((k : Int) + 1) = (k : Int) + 1 := by rw [IntKind.wrap_i64]; omega
      clear hcs
      have HA := (IsGr.refl wr).alloc (.cells #[.int .i64 x, .int .i64 y] 29)
      go_wp2_with fail
      refine (step_any w.heap.size w.heap.size _ T x y _ (HB.out.1.gr HA) (Nat.le_trans HB.out.2.2.size HA.size) (by have := HB.out.2.1; omega) hy).mono ?_
      rintro e w2 ⟨T', v', rfl, hB2, hbl, hlen, _⟩
      obtain ⟨sa', sc', rfl, _⟩ := hB2.lst.form
      have HB2 : Hid (Both w2 w.heap.size w.heap.size (.slice sa' T'.vals.length sc') T' ∧ T'.inl.length ≤ k + 1 ∧ Below w.heap.size w w2) := ⟨hB2, by have := HB.out.2.1; omega, HB.out.2.2.trans ((HA.below.mono HB.out.2.2.size).trans hbl)⟩
      obtain ⟨m, hm⟩ : ∃ m, T'.vals.length = m := ⟨_, rfl⟩
      have hmk : m ≤ k + 1 := by rw [← hm, vals_len]; exact HB2.out.2.1
      have CD := Deep_any w2 HB2.out.1.st
      have hlo := fun j => @ht_low T' j
      have hhi := fun d => @ht_high T' d m HB2.out.1.st.ok (by rw [← vals_len]; exact hm)
      have hTb : T'.ht ≤ 400 := Nat.le_trans (ht_le_len T') (by rw [← vals_len, hm]; omega)
      rw [← vals_len] at hlo
      rw [hm] at HB2 hlo ⊢
      obtain ⟨q, hq⟩ : ∃ q, T'.ht = q := ⟨_, rfl⟩
      rw [hq] at CD hhi hTb
      simp only [hq] at hlo
      have HLO : Hid (∀ j, j = 0 ∨ 2 ^ (j - 1) ≤ m → j ≤ q) := hlo
      have HHI : Hid (∀ d, m < least (d + 1) → q ≤ d) := hhi
      have CR := fun w => RDeep_any m (by omega) w
      clear hB2 hbl hlen hm hlo hhi hq HB c1 c2 HA hy
      have hm0 : (0 : Int) ≤ m := by omega
      go_wp2_with fail
      go_loopg [7, 8] m (fun r p7 p8 wr2 => wr2 = w2 ∧ p8 = .int .i64 r ∧ ∃ j : Nat, p7 = .int .i64 j ∧ j + r ≤ m ∧ Hid (r = m / 2 ^ j ∧ (j = 0 ∨ 2 ^ (j - 1) ≤ m)))
      case atStart => exact ⟨rfl, rfl, 0, rfl, by omega, by simp, Or.inl rfl⟩
      case round =>
        obtain ⟨e2, rfl, j, rfl, hjr, hQ⟩ := hrel
        obtain rfl := e2.symm
        by_cases hr : 0 < gk
        · have hr' : (0 : Int) < gk := by omega
          have d1 : ((gk : Int)).tdiv 2 = ((gk / 2 : Nat) : Int) := by rw [Int.tdiv_eq_ediv_of_nonneg (by omega)]; omega
          have d2 : IntKind.i64.wrap ((gk / 2 : Nat) : Int) = ((gk / 2 : Nat) : Int) := by rw [IntKind.wrap_i64]; omega
          have d3 : IntKind.i64.wrap ((j : Int) + 1) = (j : Int) + 1 := by rw [IntKind.wrap_i64]; omega
          go_wp2_with fail
          have hs := half_spec hQ.out.1 hr
          go_roundg (gk / 2)
          case measure => omega
          case rel => exact ⟨rfl, by simp, j + 1, by simp, by omega, hs.1, Or.inr (by simpa using hs.2)⟩
        · have hr0 : gk = 0 := by omega
          subst hr0
          have hjq : j ≤ q := HLO.out j hQ.out.2
          have dq : ¬ (q : Int) < j := by omega
          go_wp2_with fail
          refine CD.mono ?_
          rintro e w3 ⟨rfl, e3⟩
          obtain rfl := e3.symm
          go_wp2_with fail
          refine CD.mono ?_
          rintro e w3 ⟨rfl, e3⟩
          obtain rfl := e3.symm
          go_wp2_with fail
          refine (CR _).mono ?_
          rintro e w3 ⟨d, hd1, _, rfl, e3⟩
          obtain rfl := e3.symm
          have hqd := HHI.out d hd1
          have dd : ¬ (d : Int) < q := by omega
          clear hd1
          go_wp2_with fail
          go_roundg (n - (k + 1))
          case measure => omega
          case rel => exact ⟨k + 1, T', by omega, by simp, HB2, sa', m, sc', rfl⟩
    · have hkn' : ¬ (k : Int) < n := by omega
      go_wp2_with fail
      refine (awake_any _).mono ?_
      rintro e w2 ⟨rfl, B2⟩
      go_wp2_with fail
      go_ret
      have B1 := HB.out.2.2
      exact ⟨rfl, B1.trans (B2.mono B1.size)⟩
theorem law_deep (a : Option Addr) (n c : Nat) (l : List (Int × Int)) (w : World) (h : Ops w a n l) : Calls Try.prog 6 #[.slice a n c] w fun e w' => e = .returned (.bool true) ∧ Below w.heap.size w w' := by
  by_cases hn : n ≤ 200
  · exact law_deep_few a n c l w h hn
  · exact law_deep_many a n c w (by omega)
end Go.Proofs.Ytaackkfegkmpkaa
