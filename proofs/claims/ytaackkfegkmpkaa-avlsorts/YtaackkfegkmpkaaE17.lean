/- gromaref05 and gromalaw05 over the loaded program: the order by tens; lists that a call has made; Find. -/
import Derived.Test.YtaackkfegkmpkaaE16
import Derived.Laws.AppendOwn
import Derived.Laws.OwnMore
import Derived.Lib.SmallJoins
namespace Go.Proofs.Ytaackkfegkmpkaa
open Go.RowKit Go.Shelf
attribute [local go_sem] Gr.size Gr.cell? Gr.frozen? Gr.setCell Gr.drew Gr.drewN Gr.of_drew Gr.of_drewN Gr.gr Gr.lt_of1 Gr.le_of1 Gr.lt_of2 Gr.le_of2 Gr.lt_of3 Gr.le_of3 Gr.lt_of4 Gr.le_of4 Gr.lt_of5 Gr.le_of5 Gr.lt_of6 Gr.le_of6 Gr.lt_of7 Gr.le_of7 Gr.lt_of8 Gr.le_of8 Gr.lt_of9 Gr.le_of9 Gr.lt_of10 Gr.le_of10 Gr.lt_of11 Gr.le_of11 Gr.lt_of12 Gr.le_of12 Gr.lt_of13 Gr.le_of13 Gr.lt_of14 Gr.le_of14 Gr.lt_of15 Gr.le_of15 Gr.lt_of16 Gr.le_of16 Gr.lt_of17 Gr.le_of17 Gr.lt_of18 Gr.le_of18 Gr.lt_of19 Gr.le_of19 Gr.lt_of20 Gr.le_of20 Gr.lt_of21 Gr.le_of21 Gr.lt_of22 Gr.le_of22 Gr.lt_of23 Gr.le_of23 Gr.lt_of24 Gr.le_of24
/-- How many whole tens. -/
def tq (n : Int) : Int := n / 10
set_option maxRecDepth 20000 in set_option maxHeartbeats 1000000 in
theorem RTens_any (n : Int) (hn : I64 n) (w : World) : Calls Try.prog 28 #[.int .i64 n] w fun e w' => e = .returned (.int .i64 (tq n)) ∧ w' = w := by
  have h1 := hn.1
  have h2 := hn.2
  clear hn
  by_cases h : n < 0
  · have e1 : IntKind.i64.wrap (n + 1) = n + 1 := by rw [IntKind.wrap_i64]; omega
    have e2 : IntKind.i64.wrap (-(n + 1)) = -(n + 1) := by rw [IntKind.wrap_i64]; omega
    have e3 : (-(n + 1)).tdiv 10 = (-(n + 1)) / 10 := Int.tdiv_eq_ediv_of_nonneg (by omega)
    have e4 : IntKind.i64.wrap ((-(n + 1)) / 10) = (-(n + 1)) / 10 := by rw [IntKind.wrap_i64]; omega
    have e5 : IntKind.i64.wrap ((-(n + 1)) / 10 + 1) = (-(n + 1)) / 10 + 1 := by rw [IntKind.wrap_i64]; omega
    have e6 : IntKind.i64.wrap (-((-(n + 1)) / 10 + 1)) = -((-(n + 1)) / 10 + 1) := by rw [IntKind.wrap_i64]; omega
    have HR : Hid (-((-(n + 1)) / 10 + 1) = tq n) := by show _ = _; unfold tq; omega
    go_enter Try.func28, Try.ntmps28
    go_wp2_with fail
    go_ret
    refine ⟨?_, rfl⟩
    rw [← HR.out]
    rfl
  · have e1 : n.tdiv 10 = n / 10 := Int.tdiv_eq_ediv_of_nonneg (by omega)
    have e2 : IntKind.i64.wrap (n / 10) = n / 10 := by rw [IntKind.wrap_i64]; omega
    go_enter Try.func28, Try.ntmps28
    go_wp2_with fail
    go_ret
    refine ⟨?_, rfl⟩
    rfl

/-- How a stands to b by its tens. -/
def tensI (a b : Int) : Int := if tq a < tq b then -1 else if tq b < tq a then 1 else 0
theorem tensI_sg (a b : Int) : Sg (tensI a b) (tq a) (tq b) := by
  unfold Sg tensI
  split
  · omega
  · split <;> omega
theorem tensI_neg (a b : Int) : Sg (-tensI a b) (-tq a) (-tq b) := by
  unfold Sg tensI
  split
  · omega
  · split <;> omega
theorem tensI_range (a b : Int) : -1 ≤ tensI a b ∧ tensI a b ≤ 1 := by
  unfold tensI
  split
  · omega
  · split <;> omega
set_option maxRecDepth 20000 in set_option maxHeartbeats 1000000 in
theorem tens_any (a b : Int) (ha : I64 a) (hb : I64 b) (w : World) : Calls Try.prog 9 #[.int .i64 a, .int .i64 b] w fun e w' => e = .returned (.int .i64 (tensI a b)) ∧ w' = w := by
  have CA := fun w => RTens_any a ha w
  have CB := fun w => RTens_any b hb w
  have HR : Hid (∀ x y, tq a = x → tq b = y → tensI a b = if x < y then -1 else if y < x then 1 else 0) := by rintro x y rfl rfl; rfl
  obtain ⟨x, hx⟩ : ∃ x, tq a = x := ⟨_, rfl⟩
  obtain ⟨y, hy⟩ : ∃ y, tq b = y := ⟨_, rfl⟩
  have HE : Hid (tensI a b = if x < y then -1 else if y < x then 1 else 0) := HR.out x y hx hy
  simp only [hx] at CA
  simp only [hy] at CB
  clear HR hx hy ha hb
  rcases Int.lt_trichotomy x y with h | h | h
  · have H2 : Hid (tensI a b = -1) := by have := HE.out; rw [if_pos h] at this; exact this
    clear HE
    go_enter Try.func9, Try.ntmps9
    go_wp2_with fail
    refine (CA _).mono ?_
    rintro e w1 ⟨rfl, rfl⟩
    go_wp2_with fail
    refine (CB _).mono ?_
    rintro e w1 ⟨rfl, rfl⟩
    go_wp2_with fail
    go_ret
    rw [H2.out]
    exact ⟨rfl, rfl⟩
  · have H2 : Hid (tensI a b = 0) := by have := HE.out; rw [if_neg (by omega), if_neg (by omega)] at this; exact this
    clear HE
    subst h
    go_enter Try.func9, Try.ntmps9
    go_wp2_with fail
    refine (CA _).mono ?_
    rintro e w1 ⟨rfl, rfl⟩
    go_wp2_with fail
    refine (CB _).mono ?_
    rintro e w1 ⟨rfl, rfl⟩
    go_wp2_with fail
    go_ret
    rw [H2.out]
    exact ⟨rfl, rfl⟩
  · have H2 : Hid (tensI a b = 1) := by have := HE.out; rw [if_neg (by omega), if_pos h] at this; exact this
    clear HE
    go_enter Try.func9, Try.ntmps9
    go_wp2_with fail
    refine (CA _).mono ?_
    rintro e w1 ⟨rfl, rfl⟩
    go_wp2_with fail
    refine (CB _).mono ?_
    rintro e w1 ⟨rfl, rfl⟩
    go_wp2_with fail
    go_ret
    rw [H2.out]
    exact ⟨rfl, rfl⟩
theorem tens_ordr : Ordr 9 tq := ⟨enters_of Try.func9 (by kernel_rfl) rfl, fun a b w ha hb => (tens_any a b ha hb w).mono fun _ _ ⟨h1, h2⟩ => ⟨_, tensI_sg a b, h1, h2 ▸ IsGr.refl _⟩⟩

/-- A list of ints that lies in a block of its own, at base or behind it. -/
def Lst (w : World) (base : Nat) (v : Value) (L : List Int) : Prop := w.ownsRow base 3 1 v L.length (L.map fun x => .int .i64 x)
theorem Lst.nil (w : World) (base : Nat) : Lst w base (.slice none 0 0) [] := World.ownsRow_nil w base _ _
theorem Lst.wr {S : List Nat} {w w' : World} {base : Nat} {v : Value} {L : List Int} (h : Lst w base v L) (hg : Wr S w w') (hS : ∀ g, v.ownBlock = some g → g ∉ S) : Lst w' base v L := by
  obtain ⟨h1, h2⟩ := h
  refine ⟨h1, ?_⟩
  rcases h2 with h2 | ⟨g, cap, cur, rfl, h3, h4, h5⟩
  · exact Or.inl h2
  · refine Or.inr ⟨g, cap, cur, rfl, h3, ?_, h5⟩
    rw [hg.block g (Array.getElem?_eq_some_iff.1 h4).1 (hS g rfl)]
    exact h4
theorem Lst.gr {w w' : World} {base : Nat} {v : Value} {L : List Int} (h : Lst w base v L) (hg : IsGr w w') : Lst w' base v L := h.wr (S := []) (Wr.of_gr hg) (by simp)
theorem Lst.mono {w : World} {base base' : Nat} {v : Value} {L : List Int} (h : Lst w base v L) (hb : base' ≤ base) : Lst w base' v L := by
  obtain ⟨h1, h2⟩ := h
  refine ⟨h1, ?_⟩
  rcases h2 with h2 | ⟨g, cap, cur, rfl, h3, h4⟩
  · exact Or.inl h2
  · exact Or.inr ⟨g, cap, cur, rfl, by omega, h4⟩
theorem Lst.form {w : World} {base : Nat} {v : Value} {L : List Int} (h : Lst w base v L) : ∃ a c, v = .slice a L.length c ∧ (L = [] ∨ ∃ g, a = some ⟨g, 0, none⟩ ∧ base ≤ g ∧ g < w.heap.size ∧ ∀ i, i < L.length → w.cell? ⟨g, i, none⟩ = some (.int .i64 (L.getD i 0))) := by
  have h' := h
  obtain ⟨h1, h2⟩ := h
  rcases h2 with ⟨rfl, h3⟩ | ⟨g, cap, cur, rfl, h3, h4, h5⟩
  · exact ⟨none, 0, by rw [h3], Or.inl (List.length_eq_zero_iff.1 h3)⟩
  · refine ⟨_, _, rfl, Or.inr ⟨g, rfl, h3, (Array.getElem?_eq_some_iff.1 h4).1, fun i hi => ?_⟩⟩
    have := World.ownsRow.cellAt h' i (by omega)
    rw [this]
    simp [hi, List.getD]
/-- Where one is that is the same, from place i on. -/
theorem find_done {L : List Int} {n : Int} : (∀ x ∈ L, tq x ≠ tq n) ∨ ∃ i, i < L.length ∧ tq (L.getD i 0) = tq n ∧ ∀ j, j < i → tq (L.getD j 0) ≠ tq n := by
  induction L with
  | nil => exact Or.inl (by simp)
  | cons x L ih =>
    by_cases h : tq x = tq n
    · exact Or.inr ⟨0, by simp, by simpa using h, fun j hj => by omega⟩
    · rcases ih with ih | ⟨i, h1, h2, h3⟩
      · refine Or.inl fun y hy => ?_
        rcases List.mem_cons.1 hy with rfl | hy
        · exact h
        · exact ih y hy
      · refine Or.inr ⟨i + 1, by simp; omega, by simpa using h2, fun j hj => ?_⟩
        cases j with
        | zero => simpa using h
        | succ j => simpa using h3 j (by omega)
/-- i tells where the first one is that is the same; -1: nowhere. -/
def FindR (L : List Int) (n i : Int) : Prop := (i = -1 ∧ ∀ x ∈ L, tq x ≠ tq n) ∨ ∃ k : Nat, i = k ∧ k < L.length ∧ tq (L.getD k 0) = tq n
set_option maxRecDepth 20000 in set_option maxHeartbeats 1000000 in
theorem Find_any (base : Nat) (v : Value) (L : List Int) (n : Int) (w : World) (h : Lst w base v L) (hL : ∀ x ∈ L, I64 x) (hn : I64 n) (hlen : L.length ≤ 1000) :
    Calls Try.prog 15 #[v, .int .i64 n] w fun e w' => ∃ i, FindR L n i ∧ e = .returned (.int .i64 i) ∧ w' = w := by
  obtain ⟨a, c, rfl, hf⟩ := h.form
  have CN := fun w => RTens_any n hn w
  have CX := fun k (hk : k < L.length) w => RTens_any (L.getD k 0) (hL _ (by simp only [List.getD, List.getElem?_eq_getElem hk, Option.getD_some]; exact List.getElem_mem hk)) w
  obtain ⟨m, hm⟩ : ∃ m, L.length = m := ⟨_, rfl⟩
  obtain ⟨y, hy⟩ : ∃ y, tq n = y := ⟨_, rfl⟩
  simp only [hy] at CN
  rw [hm] at hlen CX
  have HH : Hid (L.length = m ∧ tq n = y ∧ (L = [] ∨ ∃ g, a = some ⟨g, 0, none⟩ ∧ base ≤ g ∧ g < w.heap.size ∧ ∀ i, i < L.length → w.cell? ⟨g, i, none⟩ = some (.int .i64 (L.getD i 0)))) := ⟨hm, hy, hf⟩
  rw [hm]
  clear h hf hL hn hy hm
  have hm' : (m : Int) ≤ 1000 := by omega
  go_enter Try.func15, Try.ntmps15
  go_wp2_with fail
  go_loopg [5] m (fun r p wr => wr = w ∧ ∃ k : Nat, k + r = m ∧ p = .int .i64 k ∧ Hid (∀ j, j < k → tq (L.getD j 0) ≠ y))
  case atStart => exact ⟨rfl, 0, by omega, rfl, fun j hj => by omega⟩
  case round =>
    obtain ⟨rfl, k, hk, rfl, hall⟩ := hrel
    by_cases hkm : k < m
    · have hg : ∃ g, a = some ⟨g, 0, none⟩ ∧ wr.cell? ⟨g, k, none⟩ = some (.int .i64 (L.getD k 0)) := by
        obtain ⟨h1, _, h3⟩ := HH.out
        rcases h3 with h3 | ⟨g, h4, _, _, h5⟩
        · rw [h3] at h1; simp at h1; omega
        · exact ⟨g, h4, h5 k (by omega)⟩
      obtain ⟨g, rfl, hc⟩ := hg
      have C := CX k hkm
      obtain ⟨x, hx⟩ : ∃ x, L.getD k 0 = x := ⟨_, rfl⟩
      obtain ⟨z, hz⟩ : ∃ z, tq x = z := ⟨_, rfl⟩
      rw [hx] at hc
      simp only [hx, hz] at C
      have HX : Hid (L.getD k 0 = x ∧ tq x = z) := ⟨hx, hz⟩
      have e1 : IntKind.i64.wrap ((k : Int) + 1) = (k : Int) + 1 := by rw [IntKind.wrap_i64]; omega
      clear hx hz CX
      by_cases hzy : z = y
      · subst hzy
        go_wp2_with fail
        refine (C _).mono ?_
        rintro e w1 ⟨rfl, rfl⟩
        go_wp2_with fail
        refine (CN _).mono ?_
        rintro e w1 ⟨rfl, rfl⟩
        go_wp2_with fail
        go_ret
        refine ⟨k, Or.inr ⟨k, rfl, ?_, ?_⟩, rfl, rfl⟩
        · have := HH.out.1; omega
        · rw [HX.out.1, HX.out.2, HH.out.2.1]
      · go_wp2_with fail
        refine (C _).mono ?_
        rintro e w1 ⟨rfl, rfl⟩
        go_wp2_with fail
        refine (CN _).mono ?_
        rintro e w1 ⟨rfl, rfl⟩
        go_wp2_with fail
        go_roundg (gk - 1)
        case measure => omega
        case rel =>
          refine ⟨rfl, k + 1, by omega, by simp, fun j hj => ?_⟩
          by_cases hjk : j = k
          · subst hjk; rw [HX.out.1, HX.out.2]; exact hzy
          · exact hall.out j (by omega)
    · have hkm' : k = m := by omega
      subst hkm'
      go_wp2_with fail
      go_ret
      refine ⟨-1, Or.inl ⟨rfl, fun x hx => ?_⟩, rfl, rfl⟩
      obtain ⟨j, hj, rfl⟩ := List.getElem_of_mem hx
      have h1 := HH.out
      have := hall.out j (by omega)
      rw [h1.2.1]
      simpa [List.getD, hj] using this
end Go.Proofs.Ytaackkfegkmpkaa
