/- gromaref09 over the loaded program: Tokens. -/
import Derived.Test.YtpgcfnpnpmpkeaaC2
import Derived.Test.YtpgcfnpnpmpkeaaS13
import Derived.Deep.CutRange
import Derived.Deep.LoopGhost
namespace Go.Proofs.Ytpgcfnpnpmpkeaa
open Go.RowKit Go.Shelf
attribute [local go_sem] Gr.size Gr.cell? Gr.frozen? Gr.setCell Gr.drew Gr.drewN Gr.of_drew Gr.of_drewN Gr.gr Gr.lt_of1 Gr.le_of1 Gr.lt_of2 Gr.le_of2 Gr.lt_of3 Gr.le_of3 Gr.lt_of4 Gr.le_of4 Gr.lt_of5 Gr.le_of5 Gr.lt_of6 Gr.le_of6 Gr.lt_of7 Gr.le_of7 Gr.lt_of8 Gr.le_of8 Gr.lt_of9 Gr.le_of9 Gr.lt_of10 Gr.le_of10 Gr.lt_of11 Gr.le_of11 Gr.lt_of12 Gr.le_of12 Gr.lt_of13 Gr.le_of13 Gr.lt_of14 Gr.le_of14 Gr.lt_of15 Gr.le_of15 Gr.lt_of16 Gr.le_of16 Gr.lt_of17 Gr.le_of17 Gr.lt_of18 Gr.le_of18 Gr.lt_of19 Gr.le_of19 Gr.lt_of20 Gr.le_of20 Gr.lt_of21 Gr.le_of21 Gr.lt_of22 Gr.le_of22 Gr.lt_of23 Gr.le_of23 Gr.lt_of24 Gr.le_of24
theorem info_rtok : (Try.prog.info? 32).map (fun i => (i.zero, i.size, i.bytes)) = some (some (.agg #[.int .i64 0, .int .i64 0, .int .i64 0]), 3, 24) := by kernel_rfl
theorem getD_outS {l : List Int} {k : Nat} (h : l.length ≤ k) : l.getD k 0 = 0 := by
  rw [List.getD_eq_getElem?_getD, List.getElem?_eq_none h]; rfl
theorem tw_of {p : Int → Bool} : ∀ {l : List Int} {m : Nat}, m ≤ l.length → (∀ j, j < m → p (l.getD j 0) = true) → (m = l.length ∨ p (l.getD m 0) = false) → tw p l = m
  | [], m, h, _, _ => by simp at h; subst h; rfl
  | c :: l, 0, _, _, h => by
    rw [tw_cons, if_neg]
    rcases h with h | h
    · simp at h
    · simpa using h
  | c :: l, m + 1, h, h1, h2 => by
    have hc : p c = true := by simpa using h1 0 (by omega)
    rw [tw_cons, if_pos hc, tw_of (m := m) (by simpa using h) (fun j hj => by simpa using h1 (j + 1) (by omega)) (by simpa using h2)]
theorem getD_dropS {l : List Int} {m i : Nat} : (l.drop m).getD i 0 = l.getD (m + i) 0 := by
  simp only [List.getD_eq_getElem?_getD, List.getElem?_drop]
/-- A run from place q on ends at k. -/
theorem tw_run {p : Int → Bool} {b : List Int} {q k : Nat} (h1 : q ≤ k) (h2 : k ≤ b.length) (h3 : ∀ j, q ≤ j → j < k → p (b.getD j 0) = true) (h4 : k = b.length ∨ p (b.getD k 0) = false) : tw p (b.drop q) = k - q := by
  refine tw_of (by rw [List.length_drop]; omega) (fun j hj => by rw [getD_dropS]; exact h3 _ (by omega) (by omega)) ?_
  rw [List.length_drop, getD_dropS, show q + (k - q) = k by omega]
  rcases h4 with h4 | h4
  · exact Or.inl (by omega)
  · exact Or.inr h4
/-- The tokens as ints. -/
def tok3 (l : List (Nat × Nat × Nat)) : List (Int × Int × Int) := l.map fun t => ((t.1 : Int), (t.2.1 : Int), (t.2.2 : Int))
theorem tok3_len (l : List (Nat × Nat × Nat)) : (tok3 l).length = l.length := by simp [tok3]
theorem tok3_snoc (l : List (Nat × Nat × Nat)) (k i j : Nat) : tok3 (l ++ [(k, i, j)]) = tok3 l ++ [((k : Int), (i : Int), (j : Int))] := by simp [tok3]
theorem tks_len (b : List Int) : (tks b 0).1.length ≤ b.length := by
  have key : ∀ (f : Nat) (l : List Int) (i : Nat), l.length ≤ f → (tks l i).1.length ≤ l.length := by
    intro f
    induction f with
    | zero =>
      intro l i h
      cases l with
      | nil => simp [tks_nil]
      | cons c r => simp at h
    | succ f ih =>
      intro l i h
      cases l with
      | nil => simp [tks_nil]
      | cons c r =>
        simp only [List.length_cons] at h
        cases hb : bkB c with
        | true =>
          rw [tks_blank i hb]
          have := ih r (i + 1) (by omega)
          simp only [List.length_cons]
          omega
        | false =>
          by_cases h0 : (tk1 (c :: r)).1 = 0
          · rw [tks_bad i hb h0]; simp
          · rw [tks_next i hb h0]
            have hp := tk1_pos c r
            have hl := tk1_le c r
            have := ih ((c :: r).drop (tk1 (c :: r)).2) (i + (tk1 (c :: r)).2) (by rw [List.length_drop, List.length_cons]; omega)
            rw [List.length_drop, List.length_cons] at this
            simp only [List.length_cons]
            omega
  exact key _ b 0 (Nat.le_refl _)
theorem At9.len {b : List Int} {i : Nat} {pre : List (Nat × Nat × Nat)} (h : At9 b i pre) : pre.length ≤ b.length := by
  have h1 := tks_len b
  rw [h.list, List.length_append] at h1
  omega
/-- What Tokens of the document answers. -/
def RTok (b : List Int) (w : World) (e : Ending) (w' : World) : Prop :=
  (match (tks b 0).2 with
  | none => ∃ v', e = .returned (.tuple #[v', .int .i64 (-1)]) ∧ Ls3 32 w' w.heap.size v' (tok3 (tks b 0).1)
  | some q => e = .returned (.tuple #[.slice none 0 0, .int .i64 (q : Nat)])) ∧ Below w.heap.size w w'
theorem RTok.yes {b : List Int} {w w' : World} {pre : List (Nat × Nat × Nat)} {v' : Value} (h : tks b 0 = (pre, none)) (hl : Ls3 32 w' w.heap.size v' (tok3 pre)) (hb : Below w.heap.size w w') : RTok b w (.returned (.tuple #[v', .int .i64 (-1)])) w' := by
  unfold RTok; rw [h]; exact ⟨⟨v', rfl, hl⟩, hb⟩
theorem RTok.no {b : List Int} {w w' : World} {pre : List (Nat × Nat × Nat)} {q : Nat} (h : tks b 0 = (pre, some q)) (hb : Below w.heap.size w w') : RTok b w (.returned (.tuple #[.slice none 0 0, .int .i64 (q : Nat)])) w' := by
  unfold RTok; rw [h]; exact ⟨rfl, hb⟩
theorem sgB_letter {c : Int} (h : ltB c = true) : dgB c = false ∧ (c == 43) = false ∧ (c == 45) = false ∧ (c == 46) = false := by
  unfold ltB at h
  unfold dgB
  simp at h ⊢
  omega
theorem sgB_false {c : Int} (h : sgB c = false) : dgB c = false ∧ (c == 43) = false ∧ (c == 45) = false ∧ (c == 46) = false := by
  unfold sgB at h
  simp only [Bool.or_eq_false_iff] at h
  exact ⟨h.1.1.1, h.1.1.2, h.1.2, h.2⟩

set_option maxRecDepth 20000 in set_option maxHeartbeats 2000000 in
theorem RTokens_any (s : ByteArray) (w : World) (hs : s.size ≤ 3000) : Calls Try.prog 9 #[.string s] w fun e w' => RTok (bts s) w e w' := by
  have HS : Hid (s.size ≤ 3000) := hs
  have CL := fun c w => letter_any c w
  have CD := fun c w => digit_any c w
  clear hs
  go_enter Try.func9, Try.ntmps9
  go_wp2_with fail
  go_loopg [4, 5] s.size (fun r p4 p5 wr => ∃ (i : Nat) (pre : List (Nat × Nat × Nat)) (pa : Option Addr) (pc : Nat), i + r = s.size ∧ p5 = .int .i64 i ∧ p4 = .slice pa pre.length pc ∧ Hid (Ls3 32 wr w.heap.size (.slice pa pre.length pc) (tok3 pre) ∧ Below w.heap.size w wr ∧ At9 (bts s) i pre ∧ pre.length ≤ 3000))
  case atStart => exact ⟨0, [], none, 0, by omega, rfl, rfl, Ls3.nil _ _ _, Below.refl _ _, At9.start _, Nat.zero_le _⟩
  case round =>
    obtain ⟨i, pre, pa, pc, hk, rfl, rfl, HR⟩ := hrel
    by_cases hin : i < s.size
    · have hat := bts_at hin
      obtain ⟨c, hc⟩ : ∃ c : Int, ((s[i]'hin).toNat : Int) = c := ⟨_, rfl⟩
      rw [hc] at hat
      have HC : Hid ((bts s).getD i 0 = c ∧ i < (bts s).length) := ⟨hat, by rw [bts_len]; exact hin⟩
      have hin' : (i : Int) < s.size := by omega
      have e1 : IntKind.i64.wrap ((i : Int) + 1) = (i : Int) + 1 := by rw [IntKind.wrap_i64]; have := HS.out; omega
      clear hat
      go_upto_region 7 with fail
      go_cut [31] from 9 to 125 (fun t31 wx => t31 = .bool (bkB c) ∧ wx = wr)
      case first =>
        cases h0 : (c == 32) with
        | true =>
          have HB : Hid (bkB c = true) := by show _ = _; unfold bkB; simp [h0]
          go_wp2_with fail
          go_meet
          exact ⟨congrArg Value.bool HB.out.symm, rfl⟩
        | false =>
          cases h1 : (c == 9) with
          | true =>
            have HB : Hid (bkB c = true) := by show _ = _; unfold bkB; simp [h1]
            go_wp2_with fail
            go_meet
            exact ⟨congrArg Value.bool HB.out.symm, rfl⟩
          | false =>
            cases h2 : (c == 13) with
            | true =>
              have HB : Hid (bkB c = true) := by show _ = _; unfold bkB; simp [h2]
              go_wp2_with fail
              go_meet
              exact ⟨congrArg Value.bool HB.out.symm, rfl⟩
            | false =>
              cases h3 : (c == 10) with
              | true =>
                have HB : Hid (bkB c = true) := by show _ = _; unfold bkB; simp [h3]
                go_wp2_with fail
                go_meet
                exact ⟨congrArg Value.bool HB.out.symm, rfl⟩
              | false =>
                have HB : Hid (bkB c = false) := by show _ = _; unfold bkB; rw [h0, h1, h2, h3]; rfl
                go_wp2_with fail
                go_meet
                exact ⟨congrArg Value.bool HB.out.symm, rfl⟩
      case rest =>
        obtain ⟨rfl, hw⟩ := hcut
        obtain rfl := hw.symm
        cases hb : bkB c with
        | true =>
          have HAT : Hid (At9 (bts s) (i + 1) pre) := HR.out.2.2.1.blank HC.out.2 (by rw [HC.out.1]; exact hb)
          clear hb
          go_wp2_with fail
          go_roundg (s.size - (i + 1))
          case measure => omega
          case rel => exact ⟨i + 1, pre, pa, pc, by omega, by simp, rfl, HR.out.1, HR.out.2.1, HAT.out, HR.out.2.2.2⟩
        | false =>
          have HBK : Hid (bkB ((bts s).getD i 0) = false) := by show _ = _; rw [HC.out.1]; exact hb
          clear hb
          by_cases h40 : c = 40
          · subst h40
            have HAT : Hid (At9 (bts s) (i + 1) (pre ++ [(3, i, i + 1)])) := HR.out.2.2.1.next HC.out.2 HBK.out (by rw [drop_cons HC.out.2, HC.out.1]; rfl) (by decide)
            have CL0 := CL 40 wr
            rw [show ltB 40 = false from rfl] at CL0
            have CD0 := CD 40 wr
            rw [show dgB 40 = false from rfl] at CD0
            go_wp2_with fail
            refine CL0.mono ?_
            clear CL0
            rintro e w2 ⟨rfl, e2⟩
            obtain rfl := e2.symm
            go_wp2_with fail
            refine CD0.mono ?_
            clear CD0
            rintro e w2 ⟨rfl, e2⟩
            obtain rfl := e2.symm
            go_wp2_with (at_builtin; refine wpList_append3 Try.underlying27 info_rtok rfl _ _ rfl w.heap.size (.slice pa pre.length pc) (tok3 pre) (3) (i) (((i : Int) + 1)) wr.heap.size 1 rfl rfl (World.ownsRow.alloc HR.out.1 _) (by simp [go_sem]) (by simp [go_sem]) (by simp [go_sem]) (by rw [tok3_len]; have := HR.out.2.2.2; omega) (by have := HR.out.2.1.size; simp; omega) ?_; intro v9 w9 h9 g9)
            have HB9 : Hid (Below w.heap.size w w9) := HR.out.2.1.trans ((((Below.refl _ wr).alloc HR.out.2.1.size _)).trans (below_grow g9 (by have := HR.out.2.1.size; simp; omega) (fun k hk => (HR.out.1.own k hk).1)))
            have HN9 : Hid (At9 (bts s) (i + 1) (pre ++ [(3, i, i + 1)])) := HAT.out
            have h9' : Ls3 32 w9 w.heap.size v9 (tok3 (pre ++ [(3, i, i + 1)])) := by rw [tok3_snoc]; exact (by simpa using h9)
            obtain ⟨va9, vc9, e9, -⟩ := h9'.form
            rw [tok3_len] at e9
            subst e9
            go_roundg (s.size - (i + 1))
            case measure => omega
            case rel => exact ⟨i + 1, _, va9, vc9, by omega, by simp, rfl, h9', HB9.out, HN9.out, by have := HN9.out.len; rw [bts_len] at this; have := HS.out; omega⟩
          by_cases h41 : c = 41
          · subst h41
            have HAT : Hid (At9 (bts s) (i + 1) (pre ++ [(4, i, i + 1)])) := HR.out.2.2.1.next HC.out.2 HBK.out (by rw [drop_cons HC.out.2, HC.out.1]; rfl) (by decide)
            have CL0 := CL 41 wr
            rw [show ltB 41 = false from rfl] at CL0
            have CD0 := CD 41 wr
            rw [show dgB 41 = false from rfl] at CD0
            go_wp2_with fail
            refine CL0.mono ?_
            clear CL0
            rintro e w2 ⟨rfl, e2⟩
            obtain rfl := e2.symm
            go_wp2_with fail
            refine CD0.mono ?_
            clear CD0
            rintro e w2 ⟨rfl, e2⟩
            obtain rfl := e2.symm
            go_wp2_with (at_builtin; refine wpList_append3 Try.underlying27 info_rtok rfl _ _ rfl w.heap.size (.slice pa pre.length pc) (tok3 pre) (4) (i) (((i : Int) + 1)) wr.heap.size 1 rfl rfl (World.ownsRow.alloc HR.out.1 _) (by simp [go_sem]) (by simp [go_sem]) (by simp [go_sem]) (by rw [tok3_len]; have := HR.out.2.2.2; omega) (by have := HR.out.2.1.size; simp; omega) ?_; intro v9 w9 h9 g9)
            have HB9 : Hid (Below w.heap.size w w9) := HR.out.2.1.trans ((((Below.refl _ wr).alloc HR.out.2.1.size _)).trans (below_grow g9 (by have := HR.out.2.1.size; simp; omega) (fun k hk => (HR.out.1.own k hk).1)))
            have HN9 : Hid (At9 (bts s) (i + 1) (pre ++ [(4, i, i + 1)])) := HAT.out
            have h9' : Ls3 32 w9 w.heap.size v9 (tok3 (pre ++ [(4, i, i + 1)])) := by rw [tok3_snoc]; exact (by simpa using h9)
            obtain ⟨va9, vc9, e9, -⟩ := h9'.form
            rw [tok3_len] at e9
            subst e9
            go_roundg (s.size - (i + 1))
            case measure => omega
            case rel => exact ⟨i + 1, _, va9, vc9, by omega, by simp, rfl, h9', HB9.out, HN9.out, by have := HN9.out.len; rw [bts_len] at this; have := HS.out; omega⟩
          by_cases h44 : c = 44
          · subst h44
            have HAT : Hid (At9 (bts s) (i + 1) (pre ++ [(5, i, i + 1)])) := HR.out.2.2.1.next HC.out.2 HBK.out (by rw [drop_cons HC.out.2, HC.out.1]; rfl) (by decide)
            have CL0 := CL 44 wr
            rw [show ltB 44 = false from rfl] at CL0
            have CD0 := CD 44 wr
            rw [show dgB 44 = false from rfl] at CD0
            go_wp2_with fail
            refine CL0.mono ?_
            clear CL0
            rintro e w2 ⟨rfl, e2⟩
            obtain rfl := e2.symm
            go_wp2_with fail
            refine CD0.mono ?_
            clear CD0
            rintro e w2 ⟨rfl, e2⟩
            obtain rfl := e2.symm
            go_wp2_with (at_builtin; refine wpList_append3 Try.underlying27 info_rtok rfl _ _ rfl w.heap.size (.slice pa pre.length pc) (tok3 pre) (5) (i) (((i : Int) + 1)) wr.heap.size 1 rfl rfl (World.ownsRow.alloc HR.out.1 _) (by simp [go_sem]) (by simp [go_sem]) (by simp [go_sem]) (by rw [tok3_len]; have := HR.out.2.2.2; omega) (by have := HR.out.2.1.size; simp; omega) ?_; intro v9 w9 h9 g9)
            have HB9 : Hid (Below w.heap.size w w9) := HR.out.2.1.trans ((((Below.refl _ wr).alloc HR.out.2.1.size _)).trans (below_grow g9 (by have := HR.out.2.1.size; simp; omega) (fun k hk => (HR.out.1.own k hk).1)))
            have HN9 : Hid (At9 (bts s) (i + 1) (pre ++ [(5, i, i + 1)])) := HAT.out
            have h9' : Ls3 32 w9 w.heap.size v9 (tok3 (pre ++ [(5, i, i + 1)])) := by rw [tok3_snoc]; exact (by simpa using h9)
            obtain ⟨va9, vc9, e9, -⟩ := h9'.form
            rw [tok3_len] at e9
            subst e9
            go_roundg (s.size - (i + 1))
            case measure => omega
            case rel => exact ⟨i + 1, _, va9, vc9, by omega, by simp, rfl, h9', HB9.out, HN9.out, by have := HN9.out.len; rw [bts_len] at this; have := HS.out; omega⟩
          have q40 : (c == 40) = false := by simpa using h40
          have q41 : (c == 41) = false := by simpa using h41
          have q44 : (c == 44) = false := by simpa using h44
          have CL0 := CL c wr
          have CD0 := CD c wr
          cases hl : ltB c with
          | true =>
            rw [hl] at CL0
            go_wp2_with fail
            refine CL0.mono ?_
            clear CL0
            rintro e w2 ⟨rfl, e2⟩
            obtain rfl := e2.symm
            go_wp2_with fail
            go_loopg [7] (s.size - (i + 1)) (fun r p7 wx => wx = wr ∧ ∃ k : Nat, k + r = s.size ∧ p7 = .int .i64 k ∧ Hid (i + 1 ≤ k ∧ k ≤ s.size ∧ ∀ j, i + 1 ≤ j → j < k → ltB ((bts s).getD j 0) = true))
            case atStart => exact ⟨rfl, i + 1, by omega, by simp, Nat.le_refl _, hin, fun j h1 h2 => by omega⟩
            case round =>
              obtain ⟨hww, k, hkk, rfl, HK⟩ := hrel
              obtain rfl := hww.symm
              have hks : k ≤ s.size := HK.out.2.1
              go_upto_region 16 with fail
              go_cut [51] from 42 to 53 (fun t51 wx => t51 = .bool (ltB ((bts s).getD k 0)) ∧ wx = wr)
              case first =>
                by_cases hkn : k < s.size
                · have hat2 := bts_at hkn
                  obtain ⟨c2, hc2⟩ : ∃ c : Int, ((s[k]'hkn).toNat : Int) = c := ⟨_, rfl⟩
                  rw [hc2] at hat2
                  have HT2 : Hid ((bts s).getD k 0 = c2) := hat2
                  have hkn' : (k : Int) < s.size := by omega
                  have CL2 := CL c2 wr
                  have CD2 := CD c2 wr
                  clear hat2
                  go_wp2_with fail
                  refine CL2.mono ?_
                  clear CL2
                  rintro e w2 ⟨rfl, e2⟩
                  obtain rfl := e2.symm
                  go_wp2_with fail
                  go_meet
                  exact ⟨by rw [HT2.out], rfl⟩
                · have hkn' : ¬ (k : Int) < s.size := by omega
                  have HT2 : Hid ((bts s).getD k 0 = 0) := getD_outS (by rw [bts_len]; omega)
                  go_wp2_with fail
                  go_meet
                  exact ⟨by rw [HT2.out]; rfl, rfl⟩
              case rest =>
                obtain ⟨rfl, hw⟩ := hcut
                obtain rfl := hw.symm
                have e3 : IntKind.i64.wrap ((k : Int) + 1) = (k : Int) + 1 := by rw [IntKind.wrap_i64]; have := HS.out; omega
                cases hp : ltB ((bts s).getD k 0) with
                | true =>
                  have hkn : k < s.size := by
                    rcases Nat.lt_or_ge k s.size with h | h
                    · exact h
                    · rw [getD_outS (by rw [bts_len]; exact h)] at hp; cases hp
                  have HP : Hid (ltB ((bts s).getD k 0) = true) := hp
                  clear hp
                  go_wp2_with fail
                  go_roundg (s.size - (k + 1))
                  case measure => omega
                  case rel => exact ⟨rfl, k + 1, by omega, by simp, by have := HK.out.1; omega, hkn, fun j h1 h2 => by
                    by_cases e : j = k
                    · rw [e]; exact HP.out
                    · exact HK.out.2.2 j h1 (by omega)⟩
                | false =>
                  have HRUN : Hid (tw ltB ((bts s).drop (i + 1)) = k - (i + 1)) := tw_run HK.out.1 (by rw [bts_len]; exact hks) HK.out.2.2 (Or.inr hp)
                  have hik : i + 1 ≤ k := HK.out.1
                  clear hp
                  have HAT : Hid (At9 (bts s) k (pre ++ [(1, i, k)])) := by
                    have h := HR.out.2.2.1.next HC.out.2 HBK.out (k := 1) (n := k - i) (by rw [drop_cons HC.out.2, HC.out.1, tk1_cons, if_pos hl, HRUN.out]; congr 1; omega) (by decide)
                    rw [show i + (k - i) = k by omega] at h
                    exact h
                  obtain ⟨s1, s2, s3, s4⟩ := sgB_letter hl
                  rw [s1] at CD0
                  clear hl
                  go_wp2_with fail
                  refine CD0.mono ?_
                  clear CD0
                  rintro e w2 ⟨rfl, e2⟩
                  obtain rfl := e2.symm
                  go_wp2_with (at_builtin; refine wpList_append3 Try.underlying27 info_rtok rfl _ _ rfl w.heap.size (.slice pa pre.length pc) (tok3 pre) (1) (i) (k) wr.heap.size 1 rfl rfl (World.ownsRow.alloc HR.out.1 _) (by simp [go_sem]) (by simp [go_sem]) (by simp [go_sem]) (by rw [tok3_len]; have := HR.out.2.2.2; omega) (by have := HR.out.2.1.size; simp; omega) ?_; intro v9 w9 h9 g9)
                  have HB9 : Hid (Below w.heap.size w w9) := HR.out.2.1.trans ((((Below.refl _ wr).alloc HR.out.2.1.size _)).trans (below_grow g9 (by have := HR.out.2.1.size; simp; omega) (fun k hk => (HR.out.1.own k hk).1)))
                  have HN9 : Hid (At9 (bts s) (k) (pre ++ [(1, i, k)])) := HAT.out
                  have h9' : Ls3 32 w9 w.heap.size v9 (tok3 (pre ++ [(1, i, k)])) := by rw [tok3_snoc]; exact h9
                  obtain ⟨va9, vc9, e9, -⟩ := h9'.form
                  rw [tok3_len] at e9
                  subst e9
                  go_roundg (s.size - k)
                  case measure => omega
                  case rel => exact ⟨k, _, va9, vc9, by omega, rfl, rfl, h9', HB9.out, HN9.out, by have := HN9.out.len; rw [bts_len] at this; have := HS.out; omega⟩
          | false =>
            rw [hl] at CL0
            go_wp2_with fail
            refine CL0.mono ?_
            clear CL0
            rintro e w2 ⟨rfl, e2⟩
            obtain rfl := e2.symm
            go_upto_region 19 with fail
            go_cut [67] from 9 to 125 (fun t67 wx => t67 = .bool (sgB c) ∧ wx = wr)
            case first =>
              cases h0 : dgB c with
              | true =>
                have HB : Hid (sgB c = true) := by show _ = _; unfold sgB; simp [h0]
                rw [h0] at CD0
                go_wp2_with fail
                refine CD0.mono ?_
                clear CD0
                rintro e w2 ⟨rfl, e2⟩
                obtain rfl := e2.symm
                go_wp2_with fail
                go_meet
                exact ⟨congrArg Value.bool HB.out.symm, rfl⟩
              | false =>
                cases h1 : (c == 43) with
                | true =>
                  have HB : Hid (sgB c = true) := by show _ = _; unfold sgB; simp [h1]
                  rw [h0] at CD0
                  go_wp2_with fail
                  refine CD0.mono ?_
                  clear CD0
                  rintro e w2 ⟨rfl, e2⟩
                  obtain rfl := e2.symm
                  go_wp2_with fail
                  go_meet
                  exact ⟨congrArg Value.bool HB.out.symm, rfl⟩
                | false =>
                  cases h2 : (c == 45) with
                  | true =>
                    have HB : Hid (sgB c = true) := by show _ = _; unfold sgB; simp [h2]
                    rw [h0] at CD0
                    go_wp2_with fail
                    refine CD0.mono ?_
                    clear CD0
                    rintro e w2 ⟨rfl, e2⟩
                    obtain rfl := e2.symm
                    go_wp2_with fail
                    go_meet
                    exact ⟨congrArg Value.bool HB.out.symm, rfl⟩
                  | false =>
                    cases h3 : (c == 46) with
                    | true =>
                      have HB : Hid (sgB c = true) := by show _ = _; unfold sgB; simp [h3]
                      rw [h0] at CD0
                      go_wp2_with fail
                      refine CD0.mono ?_
                      clear CD0
                      rintro e w2 ⟨rfl, e2⟩
                      obtain rfl := e2.symm
                      go_wp2_with fail
                      go_meet
                      exact ⟨congrArg Value.bool HB.out.symm, rfl⟩
                    | false =>
                      have HB : Hid (sgB c = false) := by show _ = _; unfold sgB; simp only [h0, h1, h2, h3]; rfl
                      rw [h0] at CD0
                      go_wp2_with fail
                      refine CD0.mono ?_
                      clear CD0
                      rintro e w2 ⟨rfl, e2⟩
                      obtain rfl := e2.symm
                      go_wp2_with fail
                      go_meet
                      exact ⟨congrArg Value.bool HB.out.symm, rfl⟩
            case rest =>
              obtain ⟨rfl, hw⟩ := hcut
              obtain rfl := hw.symm
              cases hsg : sgB c with
              | true =>
                have HSG : Hid (sgB c = true ∧ ltB c = false) := ⟨hsg, hl⟩
                clear hsg hl CD0
                go_wp2_with fail
                go_loopg [7] (s.size - (i + 1)) (fun r p7 wx => wx = wr ∧ ∃ k : Nat, k + r = s.size ∧ p7 = .int .i64 k ∧ Hid (i + 1 ≤ k ∧ k ≤ s.size ∧ ∀ j, i + 1 ≤ j → j < k → cnB ((bts s).getD j 0) = true))
                case atStart => exact ⟨rfl, i + 1, by omega, by simp, Nat.le_refl _, hin, fun j h1 h2 => by omega⟩
                case round =>
                  obtain ⟨hww, k, hkk, rfl, HK⟩ := hrel
                  obtain rfl := hww.symm
                  have hks : k ≤ s.size := HK.out.2.1
                  go_upto_region 20 with fail
                  go_cut [107] from 68 to 109 (fun t107 wx => t107 = .bool (cnB ((bts s).getD k 0)) ∧ wx = wr)
                  case first =>
                    by_cases hkn : k < s.size
                    · have hat2 := bts_at hkn
                      obtain ⟨c2, hc2⟩ : ∃ c : Int, ((s[k]'hkn).toNat : Int) = c := ⟨_, rfl⟩
                      rw [hc2] at hat2
                      have HT2 : Hid ((bts s).getD k 0 = c2) := hat2
                      have hkn' : (k : Int) < s.size := by omega
                      have CL2 := CL c2 wr
                      have CD2 := CD c2 wr
                      clear hat2
                      cases h0 : dgB c2 with
                      | true =>
                        have HB : Hid (cnB c2 = true) := by show _ = _; unfold cnB sgB; simp [h0]
                        rw [h0] at CD2
                        go_wp2_with fail
                        refine CD2.mono ?_
                        clear CD2
                        rintro e w2 ⟨rfl, e2⟩
                        obtain rfl := e2.symm
                        go_wp2_with fail
                        go_meet
                        exact ⟨by rw [HT2.out]; exact congrArg Value.bool HB.out.symm, rfl⟩
                      | false =>
                        cases h1 : (c2 == 43) with
                        | true =>
                          have HB : Hid (cnB c2 = true) := by show _ = _; unfold cnB sgB; simp [h1]
                          rw [h0] at CD2
                          go_wp2_with fail
                          refine CD2.mono ?_
                          clear CD2
                          rintro e w2 ⟨rfl, e2⟩
                          obtain rfl := e2.symm
                          go_wp2_with fail
                          go_meet
                          exact ⟨by rw [HT2.out]; exact congrArg Value.bool HB.out.symm, rfl⟩
                        | false =>
                          cases h2 : (c2 == 45) with
                          | true =>
                            have HB : Hid (cnB c2 = true) := by show _ = _; unfold cnB sgB; simp [h2]
                            rw [h0] at CD2
                            go_wp2_with fail
                            refine CD2.mono ?_
                            clear CD2
                            rintro e w2 ⟨rfl, e2⟩
                            obtain rfl := e2.symm
                            go_wp2_with fail
                            go_meet
                            exact ⟨by rw [HT2.out]; exact congrArg Value.bool HB.out.symm, rfl⟩
                          | false =>
                            cases h3 : (c2 == 46) with
                            | true =>
                              have HB : Hid (cnB c2 = true) := by show _ = _; unfold cnB sgB; simp [h3]
                              rw [h0] at CD2
                              go_wp2_with fail
                              refine CD2.mono ?_
                              clear CD2
                              rintro e w2 ⟨rfl, e2⟩
                              obtain rfl := e2.symm
                              go_wp2_with fail
                              go_meet
                              exact ⟨by rw [HT2.out]; exact congrArg Value.bool HB.out.symm, rfl⟩
                            | false =>
                              cases h4 : (c2 == 101) with
                              | true =>
                                have HB : Hid (cnB c2 = true) := by show _ = _; unfold cnB sgB; simp [h4]
                                rw [h0] at CD2
                                go_wp2_with fail
                                refine CD2.mono ?_
                                clear CD2
                                rintro e w2 ⟨rfl, e2⟩
                                obtain rfl := e2.symm
                                go_wp2_with fail
                                go_meet
                                exact ⟨by rw [HT2.out]; exact congrArg Value.bool HB.out.symm, rfl⟩
                              | false =>
                                cases h5 : (c2 == 69) with
                                | true =>
                                  have HB : Hid (cnB c2 = true) := by show _ = _; unfold cnB sgB; simp [h5]
                                  rw [h0] at CD2
                                  go_wp2_with fail
                                  refine CD2.mono ?_
                                  clear CD2
                                  rintro e w2 ⟨rfl, e2⟩
                                  obtain rfl := e2.symm
                                  go_wp2_with fail
                                  go_meet
                                  exact ⟨by rw [HT2.out]; exact congrArg Value.bool HB.out.symm, rfl⟩
                                | false =>
                                  have HB : Hid (cnB c2 = false) := by show _ = _; unfold cnB sgB; simp only [h0, h1, h2, h3, h4, h5]; rfl
                                  rw [h0] at CD2
                                  go_wp2_with fail
                                  refine CD2.mono ?_
                                  clear CD2
                                  rintro e w2 ⟨rfl, e2⟩
                                  obtain rfl := e2.symm
                                  go_wp2_with fail
                                  go_meet
                                  exact ⟨by rw [HT2.out]; exact congrArg Value.bool HB.out.symm, rfl⟩
                    · have hkn' : ¬ (k : Int) < s.size := by omega
                      have HT2 : Hid ((bts s).getD k 0 = 0) := getD_outS (by rw [bts_len]; omega)
                      go_wp2_with fail
                      go_meet
                      exact ⟨by rw [HT2.out]; rfl, rfl⟩
                  case rest =>
                    obtain ⟨rfl, hw⟩ := hcut
                    obtain rfl := hw.symm
                    have e3 : IntKind.i64.wrap ((k : Int) + 1) = (k : Int) + 1 := by rw [IntKind.wrap_i64]; have := HS.out; omega
                    cases hp : cnB ((bts s).getD k 0) with
                    | true =>
                      have hkn : k < s.size := by
                        rcases Nat.lt_or_ge k s.size with h | h
                        · exact h
                        · rw [getD_outS (by rw [bts_len]; exact h)] at hp; cases hp
                      have HP : Hid (cnB ((bts s).getD k 0) = true) := hp
                      clear hp
                      go_wp2_with fail
                      go_roundg (s.size - (k + 1))
                      case measure => omega
                      case rel => exact ⟨rfl, k + 1, by omega, by simp, by have := HK.out.1; omega, hkn, fun j h1 h2 => by
                        by_cases e : j = k
                        · rw [e]; exact HP.out
                        · exact HK.out.2.2 j h1 (by omega)⟩
                    | false =>
                      have HRUN : Hid (tw cnB ((bts s).drop (i + 1)) = k - (i + 1)) := tw_run HK.out.1 (by rw [bts_len]; exact hks) HK.out.2.2 (Or.inr hp)
                      have hik : i + 1 ≤ k := HK.out.1
                      clear hp
                      have CR := RRight_any (s.extract i k) wr (by rw [size_extract hks]; have := HS.out; omega)
                      rw [bts_extract] at CR
                      have HCT : Hid ((c :: (bts s).drop (i + 1)).take (k - (i + 1) + 1) = ((bts s).drop i).take (k - i)) := by
                        show _ = _
                        rw [drop_cons HC.out.2, HC.out.1, show k - (i + 1) + 1 = k - i by omega]
                      cases hrg : rgtB (((bts s).drop i).take (k - i)) with
                      | true =>
                        rw [hrg] at CR
                        have HAT : Hid (At9 (bts s) k (pre ++ [(2, i, k)])) := by
                          have h := HR.out.2.2.1.next HC.out.2 HBK.out (k := 2) (n := k - i) (by rw [drop_cons HC.out.2, HC.out.1, tk1_cons, if_neg (by rw [HSG.out.2]; simp), if_pos HSG.out.1, HRUN.out, HCT.out, if_pos hrg]; congr 1; omega) (by decide)
                          rw [show i + (k - i) = k by omega] at h
                          exact h
                        have hki : (i : Int) ≤ k := by omega
                        have hks' : (k : Int) ≤ s.size := by omega
                        clear hrg
                        go_wp2_with fail
                        refine CR.mono ?_
                        clear CR
                        rintro e w2 ⟨rfl, e2⟩
                        obtain rfl := e2.symm
                        go_wp2_with (at_builtin; refine wpList_append3 Try.underlying27 info_rtok rfl _ _ rfl w.heap.size (.slice pa pre.length pc) (tok3 pre) (2) (i) (k) wr.heap.size 1 rfl rfl (World.ownsRow.alloc HR.out.1 _) (by simp [go_sem]) (by simp [go_sem]) (by simp [go_sem]) (by rw [tok3_len]; have := HR.out.2.2.2; omega) (by have := HR.out.2.1.size; simp; omega) ?_; intro v9 w9 h9 g9)
                        have HB9 : Hid (Below w.heap.size w w9) := HR.out.2.1.trans ((((Below.refl _ wr).alloc HR.out.2.1.size _)).trans (below_grow g9 (by have := HR.out.2.1.size; simp; omega) (fun k hk => (HR.out.1.own k hk).1)))
                        have HN9 : Hid (At9 (bts s) (k) (pre ++ [(2, i, k)])) := HAT.out
                        have h9' : Ls3 32 w9 w.heap.size v9 (tok3 (pre ++ [(2, i, k)])) := by rw [tok3_snoc]; exact h9
                        obtain ⟨va9, vc9, e9, -⟩ := h9'.form
                        rw [tok3_len] at e9
                        subst e9
                        go_roundg (s.size - k)
                        case measure => omega
                        case rel => exact ⟨k, _, va9, vc9, by omega, rfl, rfl, h9', HB9.out, HN9.out, by have := HN9.out.len; rw [bts_len] at this; have := HS.out; omega⟩
                      | false =>
                        rw [hrg] at CR
                        have HNO : Hid (tks (bts s) 0 = (pre, some i)) := HR.out.2.2.1.wrong HC.out.2 HBK.out (by rw [drop_cons HC.out.2, HC.out.1, tk1_cons, if_neg (by rw [HSG.out.2]; simp), if_pos HSG.out.1, HRUN.out, HCT.out, if_neg (by rw [hrg]; simp)])
                        have hki : (i : Int) ≤ k := by omega
                        have hks' : (k : Int) ≤ s.size := by omega
                        clear hrg
                        go_wp2_with fail
                        refine CR.mono ?_
                        clear CR
                        rintro e w2 ⟨rfl, e2⟩
                        obtain rfl := e2.symm
                        go_wp2_with fail
                        exact bodyPost_ret (v := .tuple #[.slice none 0 0, .int .i64 (i : Nat)]) (by simp [results, Try.results9, go_sem]) rfl (RTok.no HNO.out HR.out.2.1)
              | false =>
                have HNO : Hid (tks (bts s) 0 = (pre, some i)) := HR.out.2.2.1.wrong HC.out.2 HBK.out (by rw [drop_cons HC.out.2, HC.out.1, tk1_cons, if_neg (by rw [hl]; simp), if_neg (by rw [hsg]; simp), if_neg h40, if_neg h41, if_neg h44])
                clear hsg hl
                go_wp2_with fail
                exact bodyPost_ret (v := .tuple #[.slice none 0 0, .int .i64 (i : Nat)]) (by simp [results, Try.results9, go_sem]) rfl (RTok.no HNO.out HR.out.2.1)
    · have hin' : ¬ (i : Int) < s.size := by omega
      have HF : Hid (tks (bts s) 0 = (pre, none)) := HR.out.2.2.1.fin (by rw [bts_len]; exact hin)
      go_wp2_with fail
      exact bodyPost_ret (v := .tuple #[.slice pa pre.length pc, .int .i64 (-1)]) (by simp [results, Try.results9, go_sem]) rfl (RTok.yes HF.out HR.out.1 HR.out.2.1)
end Go.Proofs.Ytpgcfnpnpmpkeaa
