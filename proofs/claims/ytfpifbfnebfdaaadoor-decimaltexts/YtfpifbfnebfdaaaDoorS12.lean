/- Strings as bytes; lists of bytes that a call has made, and what string(..) makes of them. -/
import Derived.Test.YtfpifbfnebfdaaaDoorS2
import Derived.Laws.BytesArg
namespace Go.Proofs.YtfpifbfnebfdaaaDoor
open Go.RowKit Go.Shelf
/-- The bytes of a string. -/
def bts (s : ByteArray) : List Int := s.data.toList.map fun b => (b.toNat : Int)
theorem bts_len (s : ByteArray) : (bts s).length = s.size := by unfold bts; rw [List.length_map]; rfl
theorem bts_at {s : ByteArray} {i : Nat} (h : i < s.size) : (bts s).getD i 0 = ((s[i]'h).toNat : Int) := by
  have h1 : i < s.data.size := h
  unfold bts
  rw [List.getD_eq_getElem?_getD, List.getElem?_map, Array.getElem?_toList, Array.getElem?_eq_getElem h1]
  rfl
theorem bts_range (s : ByteArray) : ∀ z ∈ bts s, 0 ≤ z ∧ z < 256 := fun z hz => by
  unfold bts at hz
  obtain ⟨b, _, rfl⟩ := List.mem_map.1 hz
  have := b.toNat_lt
  omega
theorem bts_get (s : ByteArray) (i : Nat) : 0 ≤ (bts s).getD i 0 ∧ (bts s).getD i 0 < 256 := by
  rw [List.getD_eq_getElem?_getD]
  cases h : (bts s)[i]? with
  | none => simp
  | some z => exact bts_range s z (List.mem_of_getElem? h)
theorem str_bts (s : ByteArray) : strOfNums (bts s) = s := by
  cases s with
  | mk d =>
    unfold strOfNums bts
    rw [List.map_map]
    have h : ∀ l : List UInt8, l.map ((fun n : Int => UInt8.ofNat n.toNat) ∘ fun x : UInt8 => (x.toNat : Int)) = l := by
      intro l
      induction l with
      | nil => rfl
      | cons a l ih => rw [List.map_cons, ih]; simp
    rw [h]
theorem bts_inj {s t : ByteArray} (h : bts s = bts t) : s = t := by rw [← str_bts s, h, str_bts]
theorem bts_of {xs : List Int} (h : ∀ x ∈ xs, 0 ≤ x ∧ x < 256) : bts (strOfNums xs) = xs := by
  unfold bts
  rw [strOfNums_data, List.map_map]
  refine (List.map_congr_left (g := id) fun x hx => ?_).trans (List.map_id _)
  have := h x hx
  simp
  omega
/-- The bytes of a piece. -/
theorem bts_extract (s : ByteArray) (l h : Nat) : bts (s.extract l h) = ((bts s).drop l).take (h - l) := by
  unfold bts
  rw [← List.map_drop, ← List.map_take]
  congr 1
  simp [ByteArray.data_extract]
theorem size_extract {s : ByteArray} {l h : Nat} (hh : h ≤ s.size) : (s.extract l h).size = h - l := by
  rw [← bts_len, bts_extract, List.length_take, List.length_drop, bts_len]; omega
/-- A list of bytes that lies in a block of its own, at base or behind it. -/
def LstB (w : World) (base : Nat) (v : Value) (L : List Int) : Prop := w.ownsRow base 5 1 v L.length (L.map fun x => .int .u8 x)
theorem LstB.nil (w : World) (base : Nat) : LstB w base (.slice none 0 0) [] := World.ownsRow_nil w base _ _
theorem info_byte : (Tryd.prog.info? 5).map (fun i => (i.zero, i.size, i.bytes)) = some (some (.int .u8 0), 1, 1) := by kernel_rfl
theorem LstB.snoc {w' : World} {base : Nat} {v : Value} {L : List Int} {x : Int} (h : w'.ownsRow base 5 1 v (L.length + 1) ((L.map fun x => Value.int .u8 x) ++ [.int .u8 x])) : LstB w' base v (L ++ [x]) := by
  unfold LstB; simpa using h
theorem LstB.form {w : World} {base : Nat} {v : Value} {L : List Int} (h : LstB w base v L) : ∃ a c, v = .slice a L.length c ∧ (L = [] ∧ a = none ∨ ∃ g, a = some ⟨g, 0, none⟩ ∧ base ≤ g ∧ g < w.heap.size ∧ ∀ i, i < L.length → w.cell? ⟨g, i, none⟩ = some (.int .u8 (L.getD i 0))) := by
  have h' := h
  obtain ⟨h1, h2⟩ := h
  rcases h2 with ⟨rfl, h3⟩ | ⟨g, cap, cur, rfl, h3, h4, h5⟩
  · exact ⟨none, 0, by rw [h3], Or.inl ⟨List.length_eq_zero_iff.1 h3, rfl⟩⟩
  · refine ⟨_, _, rfl, Or.inr ⟨g, rfl, h3, (Array.getElem?_eq_some_iff.1 h4).1, fun i hi => ?_⟩⟩
    have := World.ownsRow.cellAt h' i (by omega)
    rw [this]
    simp [hi, List.getD]
/-- What string(..) makes of it. -/
theorem LstB.conv {w : World} {base : Nat} {v : Value} {L : List Int} (h : LstB w base v L) : (convert 73 9 v).run Tryd.prog w = .ok (.string (strOfNums L)) w := by
  obtain ⟨a, c, rfl, hf⟩ := h.form
  rcases hf with ⟨rfl, rfl⟩ | ⟨g, rfl, _, _, h2⟩
  · exact run_convert_bytes_nil w 73 5 Tryd.underlying73 Tryd.underlying5 _ _ 9 Tryd.underlying9
  · exact run_convert_bytes_arg w 73 5 Tryd.underlying73 Tryd.underlying5 g 0 _ c L rfl (fun i hi => by rw [Nat.zero_add]; exact h2 i hi) 9 Tryd.underlying9
end Go.Proofs.YtfpifbfnebfdaaaDoor
