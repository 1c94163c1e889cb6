/- What slices.Compact makes of points in order: each of them once. -/
import Derived.Test.YtohhlhoijanjfaaU23g
namespace Go.Proofs.Ytohhlhoijanjfaa
open Go Go.RowKit Go.Shelf Go.Sort Go.Lib
attribute [local go_sem] Gr.size Gr.cell? Gr.frozen? Gr.setCell Gr.drew Gr.drewN Gr.of_drew Gr.of_drewN Gr.gr Gr.lt_of1 Gr.le_of1 Gr.lt_of2 Gr.le_of2 Gr.lt_of3 Gr.le_of3 Gr.lt_of4 Gr.le_of4 Gr.lt_of5 Gr.le_of5 Gr.lt_of6 Gr.le_of6 Gr.lt_of7 Gr.le_of7 Gr.lt_of8 Gr.le_of8 Gr.lt_of9 Gr.le_of9 Gr.lt_of10 Gr.le_of10 Gr.lt_of11 Gr.le_of11 Gr.lt_of12 Gr.le_of12 Gr.lt_of13 Gr.le_of13 Gr.lt_of14 Gr.le_of14 Gr.lt_of15 Gr.le_of15 Gr.lt_of16 Gr.le_of16 Gr.lt_of17 Gr.le_of17 Gr.lt_of18 Gr.le_of18 Gr.lt_of19 Gr.le_of19 Gr.lt_of20 Gr.le_of20 Gr.lt_of21 Gr.le_of21 Gr.lt_of22 Gr.le_of22 Gr.lt_of23 Gr.le_of23 Gr.lt_of24 Gr.le_of24

theorem RowH.gr {w w' : World} {g n c : Nat} {d : List (Int × Int)} (h : RowH w g n c d) (hg : IsGr w w') : RowH w' g n c d := by
  obtain ⟨h1, h2, h3, h4, h5⟩ := h
  have := hg.size
  refine ⟨h1, h2, h3, by omega, fun j hj => ?_⟩
  have k := h5 j hj
  exact ⟨hg.cell_at h4 k.1, hg.frozen_at h4 k.2⟩
theorem frozen_set {w : World} {a b : Addr} {v : Value} : (w.setCell a v).frozen? b = w.frozen? b := by
  simp [go_sem]
/-- One point of the row is written. -/
theorem RowH.set {w : World} {g n c k : Nat} {d : List (Int × Int)} (h : RowH w g n c d) (hk : k < n) (x y : Int) : RowH ((w.setCell ⟨g, k * 2, none⟩ (.int .i64 x)).setCell ⟨g, k * 2 + 1, none⟩ (.int .i64 y)) g n c (d.set k (x, y)) := by
  obtain ⟨h1, h2, h3, h4, h5⟩ := id h
  refine ⟨by simp [h1], h2, h3, by simpa using h4, fun j hj => ?_⟩
  rw [size_flatK] at hj
  simp only [List.size_toArray, List.length_set] at hj
  have k0 := h5 j (by rw [size_flatK]; simpa using hj)
  rw [get_flatK _ _ _ _ (by simpa using hj), get_list d _ (by omega)] at k0
  rw [get_flatK _ _ _ _ (by simpa using hj), get_list _ _ (by simp; omega)]
  refine ⟨?_, by rw [frozen_set, frozen_set]; exact k0.2⟩
  rw [Nat.zero_add] at k0 ⊢
  by_cases hjk : j / 2 = k
  · have e : (d.set k (x, y)).getD (j / 2) (0, 0) = (x, y) := by rw [hjk]; simp [h1, hk]
    rw [e]
    rcases Nat.mod_two_eq_zero_or_one j with hm | hm
    · have ej : j = k * 2 := by omega
      rw [hm, ej]
      rw [World.cell?_setCell_other (h := by intro h9; injection h9 with _ h9; omega)]
      rw [ej] at k0
      exact World.cell?_setCell_same _ _ _ k0.1
    · have ej : j = k * 2 + 1 := by omega
      rw [hm, ej]
      rw [ej] at k0
      have : (w.setCell ⟨g, k * 2, none⟩ (.int .i64 x)).cell? ⟨g, k * 2 + 1, none⟩ = some ((encP (d.getD ((k * 2 + 1) / 2) (0, 0)))[(k * 2 + 1) % 2]!) := by
        rw [World.cell?_setCell_other (h := by intro h9; injection h9 with _ h9; omega)]
        exact k0.1
      exact World.cell?_setCell_same _ _ _ this
  · have e : (d.set k (x, y)).getD (j / 2) (0, 0) = d.getD (j / 2) (0, 0) := by
      rw [List.getD_eq_getElem?_getD, List.getD_eq_getElem?_getD, List.getElem?_set_ne (by omega)]
    rw [e, World.cell?_setCell_other (h := by intro h9; injection h9 with _ h9; omega), World.cell?_setCell_other (h := by intro h9; injection h9 with _ h9; omega)]
    exact k0.1
/-- The two loops' state: what is read up to p stands, each once, ahead of k; from p - 1 on all is as it was. -/
def CompI (d : List (Int × Int)) (p k : Nat) (e : List (Int × Int)) : Prop :=
  (1 ≤ k ∧ k < p ∧ p ≤ d.length) ∧ e.length = d.length ∧ (∀ j, p - 1 ≤ j → e.getD j (0, 0) = d.getD j (0, 0)) ∧ (e.take k).Pairwise (ltP 1) ∧ (∀ x, x ∈ e.take k ↔ x ∈ d.take p) ∧ e.getD (k - 1) (0, 0) = d.getD (p - 1) (0, 0)
theorem take_snoc {l : List (Int × Int)} {k : Nat} (h : k < l.length) : l.take (k + 1) = l.take k ++ [l.getD k (0, 0)] := by
  have e : l.getD k (0, 0) = l[k] := by simp [h]
  rw [e, List.take_succ_eq_append_getElem h]
theorem mem_last {l : List (Int × Int)} {k : Nat} (h : k < l.length) (h1 : 1 ≤ k) : l.getD (k - 1) (0, 0) ∈ l.take k := by
  have : l.take k = l.take (k - 1) ++ [l.getD (k - 1) (0, 0)] := by
    have := take_snoc (l := l) (k := k - 1) (by omega)
    rwa [show k - 1 + 1 = k by omega] at this
  rw [this]
  simp
theorem CompI.start {d : List (Int × Int)} {k : Nat} (h1 : 1 ≤ k) (hk : k < d.length) (hs : (d.take k).Pairwise (ltP 1)) (he : d.getD k (0, 0) = d.getD (k - 1) (0, 0)) : CompI d (k + 1) k d := by
  refine ⟨⟨h1, by omega, by omega⟩, rfl, fun _ _ => rfl, hs, fun x => ?_, by rw [show k + 1 - 1 = k by omega, he]⟩
  rw [take_snoc hk]
  constructor
  · exact fun h => List.mem_append.2 (Or.inl h)
  · intro h
    rcases List.mem_append.1 h with h | h
    · exact h
    · have : x = d.getD k (0, 0) := by simpa using h
      rw [this, he]
      exact mem_last hk h1
theorem CompI.skip {d e : List (Int × Int)} {p k : Nat} (h : CompI d p k e) (hp : p < d.length) (he : d.getD p (0, 0) = d.getD (p - 1) (0, 0)) : CompI d (p + 1) k e := by
  obtain ⟨⟨h1, h2, h3⟩, h4, h5, h6, h7, h8⟩ := h
  refine ⟨⟨h1, by omega, by omega⟩, h4, fun j hj => h5 j (by omega), h6, fun x => ?_, by rw [show p + 1 - 1 = p by omega, he]; exact h8⟩
  rw [take_snoc hp, h7]
  constructor
  · exact fun h => List.mem_append.2 (Or.inl h)
  · intro h
    rcases List.mem_append.1 h with h | h
    · exact h
    · have : x = d.getD p (0, 0) := by simpa using h
      rw [this, he]
      exact mem_last hp (by omega)
theorem CompI.keep {d e : List (Int × Int)} {p k : Nat} (h : CompI d p k e) (hp : p < d.length) (hl : ltP 1 (d.getD (p - 1) (0, 0)) (d.getD p (0, 0))) : CompI d (p + 1) (k + 1) (e.set k (d.getD p (0, 0))) := by
  obtain ⟨⟨h1, h2, h3⟩, h4, h5, h6, h7, h8⟩ := h
  have ke : k < e.length := by omega
  have et : (e.set k (d.getD p (0, 0))).take (k + 1) = e.take k ++ [d.getD p (0, 0)] := by
    rw [take_snoc (by simpa using ke)]
    congr 1
    · rw [List.take_set_of_le (by omega)]
    · simp [ke]
  refine ⟨⟨by omega, by omega, by omega⟩, by simp [h4], fun j hj => ?_, ?_, fun x => ?_, ?_⟩
  · rw [List.getD_eq_getElem?_getD, List.getElem?_set_ne (by omega), ← List.getD_eq_getElem?_getD]
    exact h5 j (by omega)
  · rw [et, List.pairwise_append]
    refine ⟨h6, by simp, fun a ha b hb => ?_⟩
    have hb' : b = d.getD p (0, 0) := by simpa using hb
    rw [hb']
    have ek : e.take k = e.take (k - 1) ++ [e.getD (k - 1) (0, 0)] := by
      have := take_snoc (l := e) (k := k - 1) (by omega)
      rwa [show k - 1 + 1 = k by omega] at this
    rw [ek] at ha h6
    rcases List.mem_append.1 ha with ha | ha
    · have := (List.pairwise_append.1 h6).2.2 a ha (e.getD (k - 1) (0, 0)) (by simp)
      rw [h8] at this
      exact this.trans (Or.inl rfl) hl
    · have : a = e.getD (k - 1) (0, 0) := by simpa using ha
      rw [this, h8]
      exact hl
  · rw [et, take_snoc hp, List.mem_append, List.mem_append, h7]
  · rw [show k + 1 - 1 = k by omega, show p + 1 - 1 = p by omega]
    simp [ke]
/-- clear, at points. -/
theorem run_clear_pts (w : World) (ty : TypeId) (b o n c : Nat) (hn : 0 < n) (hc : ∀ j, j < n * 2 → (w.cell? ⟨b, o + j, none⟩).isSome = true) (hf : ∀ j, j < n * 2 → w.frozen? ⟨b, o + j, none⟩ = false) :
    (Builtin.clear_ #[22] ty #[.slice (some ⟨b, o, none⟩) n c]).run Try.prog w = .ok (.tuple #[]) (w.setCells b o (List.replicate (n * 2) (.int .i64 0))) := by
  have hzc : (Builtin.zeroCells (Value.agg #[.int .i64 0, .int .i64 0]).cells n).toList = List.replicate (n * 2) (.int .i64 0) := by
    simp [Builtin.zeroCells, Value.cells]
    apply List.ext_getElem
    · simp
    · intro i h1 h2
      rcases Nat.mod_two_eq_zero_or_one i with h | h <;> simp [h]
  have hst := run_storeCells_cells (P := Try.prog) b o (List.replicate (n * 2) (Value.int .i64 0)) 0 w (by simpa using hc) (by simpa using hf) (by intro v hv'; rw [List.eq_of_mem_replicate hv']; rfl)
  simp only [Nat.add_zero] at hst
  obtain ⟨m, rfl⟩ : ∃ m, n = m + 1 := ⟨n - 1, by omega⟩
  simp [Builtin.clear_, run_underlying Try.underlying22, Try.zeroValue24, hzc, hst]
/-- The first k of a row whose rest is written over. -/
theorem RowH.cut {w : World} {g n c k : Nat} {d : List (Int × Int)} (h : RowH w g n c d) (hk : k ≤ n) (vs : List Value) : RowH (w.setCells g (k * 2) vs) g k c (d.take k) ∧ ∀ B, B ≤ g → RowKit.Below B w (w.setCells g (k * 2) vs) := by
  obtain ⟨h1, h2, h3, h4, h5⟩ := id h
  have hS : ∀ (vs : List Value) (o : Nat) (w : World), (w.setCells g o vs).heap.size = w.heap.size ∧ (∀ B, B ≤ g → RowKit.Below B w (w.setCells g o vs)) ∧ ∀ a, (w.setCells g o vs).frozen? a = w.frozen? a := by
    intro vs
    induction vs with
    | nil => intro o w; exact ⟨rfl, fun B _ => RowKit.Below.refl B w, fun _ => rfl⟩
    | cons v vs ih =>
      intro o w
      have k := ih (o + 1) (w.setCell ⟨g, o, none⟩ v)
      refine ⟨?_, fun B hB => ?_, fun a => ?_⟩
      · show ((w.setCell ⟨g, o, none⟩ v).setCells g (o + 1) vs).heap.size = _
        rw [k.1]
        simp
      · exact (RowKit.Below.setCell (RowKit.Below.refl B w) hB v).trans (k.2.1 B hB)
      · show ((w.setCell ⟨g, o, none⟩ v).setCells g (o + 1) vs).frozen? a = _
        rw [k.2.2, frozen_set]
  obtain ⟨s1, s2, s3⟩ := hS vs (k * 2) w
  refine ⟨⟨by simp; omega, by omega, h3, by rw [s1]; exact h4, fun j hj => ?_⟩, s2⟩
  rw [size_flatK] at hj
  simp only [List.size_toArray, List.length_take] at hj
  have hj2 : j < k * 2 := by omega
  have k0 := h5 j (by rw [size_flatK]; simp; omega)
  rw [get_flatK _ _ _ _ (by simp; omega), get_list d _ (by omega)] at k0
  rw [get_flatK _ _ _ _ (by simp; omega), get_list _ _ (by simp; omega), s3]
  refine ⟨?_, k0.2⟩
  rw [World.cell?_setCells_out g vs (k * 2) w _ (fun _ _ => Or.inl (by simpa using hj2)), k0.1]
  congr 3
  rw [List.getD_eq_getElem?_getD, List.getD_eq_getElem?_getD, List.getElem?_take, if_pos (by omega)]
/-- What is made of points in order: in order, each of them once. -/
def CompT (d e : List (Int × Int)) : Prop := e.Pairwise (ltP 1) ∧ ∀ x, x ∈ e ↔ x ∈ d
theorem sorted_next {d : List (Int × Int)} (hs : d.Pairwise (fun x y => ltP 1 x y ∨ x = y)) {k : Nat} (h1 : 1 ≤ k) (hk : k < d.length) : ltP 1 (d.getD (k - 1) (0, 0)) (d.getD k (0, 0)) ∨ d.getD (k - 1) (0, 0) = d.getD k (0, 0) := by
  have := List.pairwise_iff_getElem.1 hs (k - 1) k (by omega) hk (by omega)
  have e1 : d.getD (k - 1) (0, 0) = d[k - 1] := by simp [show k - 1 < d.length by omega]
  have e2 : d.getD k (0, 0) = d[k] := by simp [hk]
  rw [e1, e2]
  exact this
theorem take_strict {d : List (Int × Int)} {k : Nat} (h1 : 1 ≤ k) (hk : k < d.length) (hs : (d.take k).Pairwise (ltP 1)) (hl : ltP 1 (d.getD (k - 1) (0, 0)) (d.getD k (0, 0))) : (d.take (k + 1)).Pairwise (ltP 1) := by
  rw [take_snoc hk, List.pairwise_append]
  refine ⟨hs, by simp, fun a ha b hb => ?_⟩
  have hb' : b = d.getD k (0, 0) := by simpa using hb
  rw [hb']
  have ek : d.take k = d.take (k - 1) ++ [d.getD (k - 1) (0, 0)] := by
    have := take_snoc (l := d) (k := k - 1) (by omega)
    rwa [show k - 1 + 1 = k by omega] at this
  rw [ek] at ha hs
  rcases List.mem_append.1 ha with ha | ha
  · exact ((List.pairwise_append.1 hs).2.2 a ha (d.getD (k - 1) (0, 0)) (by simp)).trans (Or.inl rfl) hl
  · have : a = d.getD (k - 1) (0, 0) := by simpa using ha
    rw [this]
    exact hl
end Go.Proofs.Ytohhlhoijanjfaa
