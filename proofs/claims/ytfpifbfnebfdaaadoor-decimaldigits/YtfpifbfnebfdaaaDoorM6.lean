/- Plain facts: the decimal digits of a number. -/
import Derived.Test.YtfpifbfnebfdaaaDoorM5
import Derived.Laws.BytesArg
namespace Go.Proofs.YtfpifbfnebfdaaaDoor
open Go.RowKit

/-- The cells of a list of bytes. -/
def U8 (xs : List Int) : Array Value := (xs.map (Value.int .u8)).toArray
theorem U8.get (xs : List Int) (i : Nat) (h : i < xs.length) : (U8 xs)[i]? = some (.int .u8 (xs.getD i 0)) := by
  simp [U8, h, List.getD]
theorem U8.set (xs : List Int) (i : Nat) (v : Int) : (U8 xs).setIfInBounds i (.int .u8 v) = U8 (xs.set i v) := by
  simp [U8, List.map_set]

/-- The digits of n ahead of acc, the last one first; f: how many there may be. -/
def decs : Nat → Nat → List Int → List Int
  | 0, _, acc => acc
  | f + 1, n, acc => if n / 10 = 0 then (48 + ((n % 10 : Nat) : Int)) :: acc else decs f (n / 10) ((48 + ((n % 10 : Nat) : Int)) :: acc)

/-- The text of a number, as bytes. -/
def txt (x : Int) : List Int := if x < 0 then 45 :: decs 78 (abs x).toNat [] else decs 78 (abs x).toNat []

/-- How the loop of Text stands: acc are the digits so far, n what is left. -/
def Tx (N n : Nat) (acc : List Int) : Prop :=
  acc.length ≤ 77 ∧ n < 10 ^ (77 - acc.length) ∧ ((acc = [] ∧ n = N) ∨ (acc ≠ [] ∧ (n ≠ 0 → decs (78 - acc.length) n acc = decs 78 N []) ∧ (n = 0 → acc = decs 78 N [])))

theorem Tx.start {N : Nat} (h : N < 10 ^ 77) : Tx N N [] := ⟨by simp, by simpa using h, Or.inl ⟨rfl, rfl⟩⟩

theorem Tx.step {N n : Nat} {acc : List Int} (h : Tx N n acc) (hc : acc = [] ∨ n ≠ 0) : acc.length < 77 ∧ Tx N (n / 10) ((48 + ((n % 10 : Nat) : Int)) :: acc) := by
  obtain ⟨h1, h2, h3⟩ := h
  have hlt : acc.length < 77 := by
    rcases hc with rfl | hc
    · simp
    · rcases Nat.lt_or_ge acc.length 77 with h | h
      · exact h
      · rw [show 77 - acc.length = 0 by omega] at h2; simp at h2; omega
  refine ⟨hlt, by simp; omega, ?_, Or.inr ⟨by simp, ?_, ?_⟩⟩
  · rw [show 77 - acc.length = (77 - (acc.length + 1)) + 1 by omega, Nat.pow_succ] at h2
    simp only [List.length_cons]
    exact Nat.div_lt_of_lt_mul (by omega)
  · intro hn
    have key : decs (78 - acc.length) n acc = decs (78 - (acc.length + 1)) (n / 10) ((48 + ((n % 10 : Nat) : Int)) :: acc) := by
      rw [show 78 - acc.length = (78 - (acc.length + 1)) + 1 by omega, decs, if_neg hn]
    simp only [List.length_cons]
    rw [← key]
    rcases h3 with ⟨rfl, rfl⟩ | ⟨_, h4, _⟩
    · rfl
    · exact h4 (by omega)
  · intro hn
    have key : decs (78 - acc.length) n acc = (48 + ((n % 10 : Nat) : Int)) :: acc := by
      rw [show 78 - acc.length = (78 - (acc.length + 1)) + 1 by omega, decs, if_pos hn]
    rw [← key]
    rcases h3 with ⟨rfl, rfl⟩ | ⟨ha, h4, h5⟩
    · rfl
    · rcases hc with rfl | hc
      · exact absurd rfl ha
      · exact h4 hc

theorem Tx.fin {N : Nat} {acc : List Int} (h : Tx N 0 acc) (ha : acc ≠ []) : acc = decs 78 N [] := by
  rcases h.2.2 with ⟨h, _⟩ | ⟨_, _, h⟩
  · exact absurd h ha
  · exact h rfl

theorem rep_set (k : Nat) (d : Int) (acc : List Int) (_h : acc.length + k = 77) : (List.replicate (k + 1) 0 ++ acc).set k d = List.replicate k 0 ++ d :: acc := by
  rw [List.replicate_succ', List.append_assoc, List.set_append]
  simp
end Go.Proofs.YtfpifbfnebfdaaaDoor
