/- gromalaw10.plain. -/
import Derived.Test.YtfpifbfnebfdaaaDoorI2
import Derived.Test.YtfpifbfnebfdaaaDoorC2
namespace Go.Proofs.YtfpifbfnebfdaaaDoor
open Go.RowKit Go.Shelf
attribute [local go_sem] Gr.size Gr.cell? Gr.frozen? Gr.setCell Gr.drew Gr.drewN Gr.of_drew Gr.of_drewN Gr.gr Gr.lt_of1 Gr.le_of1 Gr.lt_of2 Gr.le_of2 Gr.lt_of3 Gr.le_of3 Gr.lt_of4 Gr.le_of4 Gr.lt_of5 Gr.le_of5 Gr.lt_of6 Gr.le_of6 Gr.lt_of7 Gr.le_of7 Gr.lt_of8 Gr.le_of8 Gr.lt_of9 Gr.le_of9 Gr.lt_of10 Gr.le_of10 Gr.lt_of11 Gr.le_of11 Gr.lt_of12 Gr.le_of12 Gr.lt_of13 Gr.le_of13 Gr.lt_of14 Gr.le_of14 Gr.lt_of15 Gr.le_of15 Gr.lt_of16 Gr.le_of16 Gr.lt_of17 Gr.le_of17 Gr.lt_of18 Gr.le_of18 Gr.lt_of19 Gr.le_of19 Gr.lt_of20 Gr.le_of20 Gr.lt_of21 Gr.le_of21 Gr.lt_of22 Gr.le_of22 Gr.lt_of23 Gr.le_of23 Gr.lt_of24 Gr.le_of24
/-- What a power begins with. -/
def eB (c : Int) : Bool := c == 101 || c == 69
/-- Behind the e of a power or not, and how many digits stood there. -/
def plS (st : Bool × Nat) (c : Int) : Bool × Nat := if eB c = true then (true, st.2) else if (st.1 && dgB c) = true then (st.1, st.2 + 1) else st
def plN (l : List Int) : Bool × Nat := l.foldl plS (false, 0)
/-- A text that is short enough to be reckoned, and its power. -/
def plB (b : List Int) : Bool := decide (b.length ≤ 60) && decide ((plN b).2 ≤ 2)
theorem plN_snoc (l : List Int) (c : Int) : plN (l ++ [c]) = plS (plN l) c := by unfold plN; rw [List.foldl_append]; rfl
theorem plN_le : ∀ l : List Int, (plN l).2 ≤ l.length := by
  have key : ∀ (l : List Int) (st : Bool × Nat), (l.foldl plS st).2 ≤ st.2 + l.length := by
    intro l
    induction l with
    | nil => intro st; simp
    | cons c l ih =>
      intro st
      have h1 := ih (plS st c)
      have h2 : (plS st c).2 ≤ st.2 + 1 := by
        unfold plS; split
        · simp
        · split <;> simp
      simp only [List.foldl_cons, List.length_cons]
      omega
  intro l
  have := key l (false, 0)
  unfold plN
  simpa using this
set_option maxRecDepth 20000 in set_option maxHeartbeats 2000000 in
theorem plain_any (s : ByteArray) (w : World) : Calls Tryd.prog 10 #[.string s] w fun e w' => e = .returned (.bool (plB (bts s))) ∧ w' = w := by
  by_cases hs : s.size ≤ 60
  · have hs' : ¬ (60 : Int) < s.size := by omega
    have HS : Hid (s.size ≤ 60) := hs
    clear hs
    go_enter Tryd.func10, Tryd.ntmps10
    go_wp2_with fail
    go_loopg [3, 4, 11] s.size (fun r p3 p4 p11 wr => wr = w ∧ ∃ (i m : Nat) (pw : Bool), i + r = s.size ∧ p11 = .int .i64 i ∧ p3 = .int .i64 m ∧ p4 = .bool pw ∧ Hid (plN ((bts s).take i) = (pw, m) ∧ m ≤ i))
    case atStart => exact ⟨rfl, 0, 0, false, by omega, rfl, rfl, rfl, rfl, Nat.le_refl _⟩
    case round =>
      obtain ⟨hww, i, m, pw, hk, rfl, rfl, rfl, HI⟩ := hrel
      obtain rfl := hww.symm
      by_cases hi : i < s.size
      · have hat := bts_at hi
        obtain ⟨c, hc⟩ : ∃ c : Int, ((s[i]'hi).toNat : Int) = c := ⟨_, rfl⟩
        have HT : Hid (plN ((bts s).take (i + 1)) = plS (pw, m) c) := by
          show _ = _
          rw [takeS (by rw [bts_len]; exact hi), plN_snoc, HI.out.1, hat, hc]
        have hi' : (i : Int) < s.size := by omega
        have e1 : IntKind.i64.wrap ((i : Int) + 1) = (i : Int) + 1 := by rw [IntKind.wrap_i64]; have := HS.out; omega
        have e2 : IntKind.i64.wrap ((m : Int) + 1) = (m : Int) + 1 := by rw [IntKind.wrap_i64]; have := HS.out; have := HI.out.2; omega
        clear hat
        cases q1 : (c == 101) with
        | true =>
          have HN : Hid (plN ((bts s).take (i + 1)) = (true, m)) := by show _ = _; rw [HT.out]; unfold plS eB; rw [q1]; rfl
          clear HT
          go_wp2_with fail
          go_roundg (s.size - (i + 1))
          case measure => omega
          case rel => exact ⟨rfl, i + 1, m, true, by omega, by simp, rfl, rfl, HN.out, by have := HI.out.2; omega⟩
        | false =>
          cases q2 : (c == 69) with
          | true =>
            have HN : Hid (plN ((bts s).take (i + 1)) = (true, m)) := by show _ = _; rw [HT.out]; unfold plS eB; rw [q1, q2]; rfl
            clear HT
            go_wp2_with fail
            go_roundg (s.size - (i + 1))
            case measure => omega
            case rel => exact ⟨rfl, i + 1, m, true, by omega, by simp, rfl, rfl, HN.out, by have := HI.out.2; omega⟩
          | false =>
            have he : eB c = false := by unfold eB; rw [q1, q2]; rfl
            cases pw with
            | false =>
              have HN : Hid (plN ((bts s).take (i + 1)) = (false, m)) := by show _ = _; rw [HT.out]; unfold plS; rw [he]; rfl
              clear HT
              go_wp2_with fail
              go_roundg (s.size - (i + 1))
              case measure => omega
              case rel => exact ⟨rfl, i + 1, m, false, by omega, by simp, rfl, rfl, HN.out, by have := HI.out.2; omega⟩
            | true =>
              by_cases h1 : 48 ≤ c
              · have h1' : decide (48 ≤ c) = true := decide_eq_true h1
                by_cases h2 : c ≤ 57
                · have h2' : decide (c ≤ 57) = true := decide_eq_true h2
                  have hd : dgB c = true := by unfold dgB; rw [h1', h2']; rfl
                  clear h1 h2
                  have HN : Hid (plN ((bts s).take (i + 1)) = (true, m + 1)) := by show _ = _; rw [HT.out]; unfold plS; rw [he, hd]; rfl
                  clear HT
                  go_wp2_with fail
                  go_roundg (s.size - (i + 1))
                  case measure => omega
                  case rel => exact ⟨rfl, i + 1, m + 1, true, by omega, by simp, by simp, rfl, HN.out, by have := HI.out.2; omega⟩
                · have h2' : decide (c ≤ 57) = false := decide_eq_false h2
                  have hd : dgB c = false := by unfold dgB; rw [h1', h2']; rfl
                  clear h1 h2
                  have HN : Hid (plN ((bts s).take (i + 1)) = (true, m)) := by show _ = _; rw [HT.out]; unfold plS; rw [he, hd]; rfl
                  clear HT
                  go_wp2_with fail
                  go_roundg (s.size - (i + 1))
                  case measure => omega
                  case rel => exact ⟨rfl, i + 1, m, true, by omega, by simp, rfl, rfl, HN.out, by have := HI.out.2; omega⟩
              · have h1' : decide (48 ≤ c) = false := decide_eq_false h1
                have hd : dgB c = false := by unfold dgB; rw [h1']; rfl
                clear h1
                have HN : Hid (plN ((bts s).take (i + 1)) = (true, m)) := by show _ = _; rw [HT.out]; unfold plS; rw [he, hd]; rfl
                clear HT
                go_wp2_with fail
                go_roundg (s.size - (i + 1))
                case measure => omega
                case rel => exact ⟨rfl, i + 1, m, true, by omega, by simp, rfl, rfl, HN.out, by have := HI.out.2; omega⟩
      · have hi' : ¬ (i : Int) < s.size := by omega
        have HE : Hid (plB (bts s) = decide ((m : Int) ≤ 2)) := by
          show _ = _
          have h1 := HI.out.1
          rw [List.take_of_length_le (by rw [bts_len]; omega)] at h1
          unfold plB
          rw [h1, bts_len, decide_eq_true HS.out, Bool.true_and]
          rw [decide_eq_decide]; simp only; omega
        go_wp2_with fail
        go_ret
        exact ⟨congrArg (fun z => Ending.returned (.bool z)) HE.out.symm, rfl⟩
  · have hs' : (60 : Int) < s.size := by omega
    have HE : Hid (plB (bts s) = false) := by show _ = _; unfold plB; rw [bts_len, decide_eq_false hs, Bool.false_and]
    clear hs
    go_enter Tryd.func10, Tryd.ntmps10
    go_wp2_with fail
    go_ret
    exact ⟨congrArg (fun z => Ending.returned (.bool z)) HE.out.symm, rfl⟩
end Go.Proofs.YtfpifbfnebfdaaaDoor
