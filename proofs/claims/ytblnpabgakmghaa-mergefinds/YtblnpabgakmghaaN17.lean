/- gromalaw07 over the loaded program: MergeFinds' law. -/
import Derived.Test.YtblnpabgakmghaaN10
namespace Go.Proofs.Ytblnpabgakmghaa
open Go.RowKit Go.Shelf
attribute [local go_sem] Gr.size Gr.cell? Gr.frozen? Gr.setCell Gr.drew Gr.drewN Gr.of_drew Gr.of_drewN Gr.gr Gr.lt_of1 Gr.le_of1 Gr.lt_of2 Gr.le_of2 Gr.lt_of3 Gr.le_of3 Gr.lt_of4 Gr.le_of4 Gr.lt_of5 Gr.le_of5 Gr.lt_of6 Gr.le_of6 Gr.lt_of7 Gr.le_of7 Gr.lt_of8 Gr.le_of8 Gr.lt_of9 Gr.le_of9 Gr.lt_of10 Gr.le_of10 Gr.lt_of11 Gr.le_of11 Gr.lt_of12 Gr.le_of12 Gr.lt_of13 Gr.le_of13 Gr.lt_of14 Gr.le_of14 Gr.lt_of15 Gr.le_of15 Gr.lt_of16 Gr.le_of16 Gr.lt_of17 Gr.le_of17 Gr.lt_of18 Gr.le_of18 Gr.lt_of19 Gr.le_of19 Gr.lt_of20 Gr.le_of20 Gr.lt_of21 Gr.le_of21 Gr.lt_of22 Gr.le_of22 Gr.lt_of23 Gr.le_of23 Gr.lt_of24 Gr.le_of24
set_option maxRecDepth 20000 in set_option maxHeartbeats 2000000 in
theorem law_finds_many (a : Option Addr) (n c : Nat) (x : Int) (w : World) (h : ¬ n ≤ 200) : Calls Try.prog 7 #[.slice a n c, .int .i64 x] w fun e w' => e = .returned (.bool true) ∧ Below w.heap.size w w' := by
  have h1 : (200 : Int) < n := by omega
  clear h
  have CA := awake_any w
  go_enter Try.func7, Try.ntmps7
  go_wp2_with fail
  refine CA.mono ?_
  rintro e w2 ⟨rfl, hb⟩
  go_wp2_with fail
  go_ret
  exact ⟨rfl, hb⟩

set_option maxRecDepth 20000 in set_option maxHeartbeats 2000000 in
theorem law_finds_few (a : Option Addr) (n c : Nat) (l : List Int) (x : Int) (w : World) (h : Rd w (.slice a n c) l) (hx : I64 x) (hn : n ≤ 200) :
    Calls Try.prog 7 #[.slice a n c, .int .i64 x] w fun e w' => e = .returned (.bool true) ∧ Below w.heap.size w w' := by
  have q1 : ¬ (200 : Int) < n := by omega
  have HN : Hid (n = l.length ∧ n ≤ 200 ∧ (∀ x ∈ l, I64 x) ∧ I64 x) := ⟨h.len.1, hn, h.ints, hx⟩
  have CS := RSort_any _ l w h (by have := HN.out; omega)
  obtain ⟨s, hs⟩ : ∃ s, isort tq l = s := ⟨_, rfl⟩
  have HS : Hid ((∀ x ∈ s, I64 x) ∧ s.length ≤ 200 ∧ Srt tq s) := by
    rw [← hs]
    exact ⟨isort_ints HN.out.2.2.1, by rw [isort_len]; have := HN.out; omega, isort_srt _ _⟩
  rw [hs] at CS
  clear h hs hn hx
  go_enter Try.func7, Try.ntmps7
  go_wp2_with fail
  refine CS.mono ?_
  clear CS
  rintro e w1 ⟨v1, rfl, hl1, hb1⟩
  have HV : Hid (Rd w1 v1 s) := Rd.of_lst hl1 HS.out.1
  obtain ⟨i, hi⟩ : ∃ i, low tq (tq x) s = i := ⟨_, rfl⟩
  obtain ⟨b, hb⟩ : ∃ b, decide (i < s.length ∧ tq (s.getD i 0) = tq x) = b := ⟨_, rfl⟩
  have HF : Hid (FndR tq s x i b) := ⟨hi.symm, hb.symm⟩
  have CF := Find_any tens_ordr v1 s x i b w1 HV.out HS.out.2.2 HN.out.2.2.2 (by have := HS.out; omega) HF.out
  have B1 : Hid (Below w.heap.size w w1) := hb1
  clear hl1 hb1 hi hb
  go_wp2_with fail
  refine CF.mono ?_
  clear CF
  rintro e w2 ⟨rfl, hg2⟩
  have B2 : Hid (Below w.heap.size w w2) := B1.out.trans (hg2.below.mono B1.out.size)
  have HV2 : Hid (Rd w2 v1 s) := HV.out.gr hg2
  obtain ⟨sa, sc, rfl⟩ := HV2.out.form
  obtain ⟨m, hm⟩ : ∃ m, s.length = m := ⟨_, rfl⟩
  rw [hm] at HV2 ⊢
  have HM : Hid (s.length = m) := hm
  have hm9 : m ≤ 200 := by have := HS.out; omega
  clear hg2 hm
  go_wp2_with fail
  go_loopg [8] m (fun r p8 wr => ∃ t : Nat, t + r = m ∧ p8 = .int .i64 t ∧ wr = w2 ∧ Hid (∀ j, j < t → tq (s.getD j 0) < tq x))
  case atStart => exact ⟨0, by omega, rfl, rfl, fun j h => by omega⟩
  case round =>
    obtain ⟨t, ht, rfl, hww, H⟩ := hrel
    obtain rfl := hww.symm
    by_cases htm : t < m
    · obtain ⟨g, o, rfl, -, -, hy64, -, cy⟩ := HV2.out.at htm
      have CT := fun w => tens_any (s.getD t 0) x hy64 HN.out.2.2.2 w
      have hsg := tensI_sg (s.getD t 0) x
      obtain ⟨y, hy⟩ : ∃ y, s.getD t 0 = y := ⟨_, rfl⟩
      have HY : Hid (s.getD t 0 = y) := hy
      rw [hy] at cy hsg
      simp only [hy] at CT
      obtain ⟨d, hd⟩ : ∃ d, tensI y x = d := ⟨_, rfl⟩
      rw [hd] at hsg
      simp only [hd] at CT
      have HD : Hid (Sg d (tq y) (tq x)) := hsg
      have htm' : (t : Int) < m := by omega
      have e1 : IntKind.i64.wrap ((t : Int) + 1) = (t : Int) + 1 := by rw [IntKind.wrap_i64]; omega
      clear hy hy64 hd hsg
      by_cases hdn : d < 0
      · go_wp2_with fail
        refine (CT _).mono ?_
        rintro e w3 ⟨rfl, e3⟩
        obtain rfl := e3.symm
        go_wp2_with fail
        go_roundg (gk - 1)
        case measure => omega
        case rel =>
          refine ⟨t + 1, by omega, by simp, rfl, fun j hj => ?_⟩
          by_cases h : j = t
          · rw [h, HY.out]; have := HD.out; unfold Sg at this; omega
          · exact H.out j (by omega)
      · have HL : Hid (t = i) := by
          refine (low_uniq (k := tq) (v := tq x) (l := s) (by rw [HM.out]; omega) H.out (fun _ => ?_)).trans HF.out.1.symm
          rw [HY.out]; have := HD.out; unfold Sg at this; omega
        obtain rfl : i = t := HL.out.symm
        have HB : Hid (b = decide (d = 0)) := by
          show _ = _
          rw [HF.out.2, HY.out, HM.out]
          have := HD.out
          unfold Sg at this
          by_cases h0 : d = 0
          · rw [decide_eq_true h0, decide_eq_true ⟨htm, by omega⟩]
          · rw [decide_eq_false h0, decide_eq_false (fun e => h0 (by omega))]
        by_cases hd0 : d = 0
        · obtain rfl : b = true := by rw [HB.out]; simp [hd0]
          subst hd0
          go_wp2_with fail
          refine (CT _).mono ?_
          rintro e w3 ⟨rfl, e3⟩
          obtain rfl := e3.symm
          go_wp2_with fail
          refine (CT _).mono ?_
          rintro e w3 ⟨rfl, e3⟩
          obtain rfl := e3.symm
          have CA := awake_any w2
          go_wp2_with fail
          refine CA.mono ?_
          clear CA
          rintro e w9 ⟨rfl, hb9⟩
          have HB9 : Hid (Below w.heap.size w w9) := B2.out.trans (hb9.mono B2.out.size)
          clear hb9
          go_wp2_with fail
          go_ret
          exact ⟨rfl, HB9.out⟩

        · obtain rfl : b = false := by rw [HB.out]; simp [hd0]
          have hd9 : (d == 0) = false := by simpa using hd0
          go_wp2_with fail
          refine (CT _).mono ?_
          rintro e w3 ⟨rfl, e3⟩
          obtain rfl := e3.symm
          go_wp2_with fail
          refine (CT _).mono ?_
          rintro e w3 ⟨rfl, e3⟩
          obtain rfl := e3.symm
          have CA := awake_any w2
          go_wp2_with fail
          refine CA.mono ?_
          clear CA
          rintro e w9 ⟨rfl, hb9⟩
          have HB9 : Hid (Below w.heap.size w w9) := B2.out.trans (hb9.mono B2.out.size)
          clear hb9
          go_wp2_with fail
          go_ret
          exact ⟨rfl, HB9.out⟩

    · have htm' : ¬ (t : Int) < m := by omega
      have HL : Hid (t = i) := (low_uniq (k := tq) (v := tq x) (l := s) (by rw [HM.out]; omega) H.out (fun h => by rw [HM.out] at h; omega)).trans HF.out.1.symm
      obtain rfl : i = t := HL.out.symm
      obtain rfl : b = false := by
        rw [HF.out.2, HM.out]
        exact decide_eq_false (fun e => by omega)
      have CA := awake_any w2
      go_wp2_with fail
      refine CA.mono ?_
      clear CA
      rintro e w9 ⟨rfl, hb9⟩
      have HB9 : Hid (Below w.heap.size w w9) := B2.out.trans (hb9.mono B2.out.size)
      clear hb9
      go_wp2_with fail
      go_ret
      exact ⟨rfl, HB9.out⟩
theorem law_finds (a : Option Addr) (n c : Nat) (l : List Int) (x : Int) (h1 : -9223372036854775808 ≤ x) (h2 : x < 9223372036854775808) (w : World) (h : Rd w (.slice a n c) l ∧ Zn (.slice a n c)) : Calls Try.prog 7 #[.slice a n c, .int .i64 x] w fun e w' => e = .returned (.bool true) ∧ Below w.heap.size w w' := by
  by_cases hn : n ≤ 200
  · exact law_finds_few a n c l x w h.1 ⟨h1, h2⟩ hn
  · exact law_finds_many a n c x w hn
end Go.Proofs.Ytblnpabgakmghaa
