/- Decimal numbers in plain words: the parts of a number's text, what it tells. -/
import Derived.Test.YtfpifbfnebfdaaaDoorC13
namespace Go.Proofs.YtfpifbfnebfdaaaDoor
/-- The number that digits make. -/
def dvF (n : Int) (l : List Int) : Int := l.foldl (fun n c => n * 10 + (c - 48)) n
def dvl (l : List Int) : Int := dvF 0 l
/-- Digits alone. -/
def Dgs (l : List Int) : Prop := ∀ c ∈ l, dgB c = true
theorem dg_range {c : Int} (h : dgB c = true) : 48 ≤ c ∧ c ≤ 57 := by unfold dgB at h; simpa using h
theorem dg_of {c : Int} (h : 48 ≤ c ∧ c ≤ 57) : dgB c = true := by unfold dgB; simpa using h
theorem dvF_nil (n : Int) : dvF n [] = n := rfl
theorem dvF_cons (n c : Int) (l : List Int) : dvF n (c :: l) = dvF (n * 10 + (c - 48)) l := rfl
theorem dvF_app (n : Int) (l r : List Int) : dvF n (l ++ r) = dvF (dvF n l) r := by unfold dvF; rw [List.foldl_append]
theorem dvF_eq : ∀ (l : List Int) (n : Int), dvF n l = n * 10 ^ l.length + dvl l
  | [], n => by simp [dvF, dvl]
  | c :: l, n => by
    rw [dvF_cons, dvF_eq l, show dvl (c :: l) = dvF (0 * 10 + (c - 48)) l from rfl, dvF_eq l, List.length_cons, Int.pow_succ]
    generalize (10 : Int) ^ l.length = q
    rw [Int.add_mul, Int.add_mul, Int.mul_assoc, Int.mul_comm 10 q]
    omega
theorem dvl_app (l r : List Int) : dvl (l ++ r) = dvl l * 10 ^ r.length + dvl r := by
  unfold dvl; rw [dvF_app, dvF_eq]; rfl
theorem dvl_snoc (l : List Int) (c : Int) : dvl (l ++ [c]) = dvl l * 10 + (c - 48) := by
  unfold dvl; rw [dvF_app]; rfl
theorem dvl_cons (c : Int) (l : List Int) : dvl (c :: l) = (c - 48) * 10 ^ l.length + dvl l := by
  rw [show dvl (c :: l) = dvF (0 * 10 + (c - 48)) l from rfl, dvF_eq]; simp
theorem ten_pos (k : Nat) : (0 : Int) < 10 ^ k := Int.pow_pos (by omega)
theorem dvl_bound : ∀ {l : List Int}, Dgs l → 0 ≤ dvl l ∧ dvl l < 10 ^ l.length
  | [], _ => by simp [dvl, dvF]
  | c :: l, h => by
    obtain ⟨h1, h2⟩ := dvl_bound (l := l) (fun x hx => h x (List.mem_cons_of_mem _ hx))
    obtain ⟨h3, h4⟩ := dg_range (h c (by simp))
    have hq := ten_pos l.length
    rw [dvl_cons, List.length_cons, Int.pow_succ]
    generalize (10 : Int) ^ l.length = q at *
    have h5 : (c - 48) * q ≤ 9 * q := Int.mul_le_mul_of_nonneg_right (by omega) (by omega)
    have h6 : 0 ≤ (c - 48) * q := Int.mul_nonneg (by omega) (by omega)
    omega
theorem Dgs.app {l r : List Int} (h : Dgs l) (k : Dgs r) : Dgs (l ++ r) := fun c hc => (List.mem_append.1 hc).elim (h c) (k c)
theorem Dgs.take {l : List Int} (n : Nat) (h : Dgs l) : Dgs (l.take n) := fun c hc => h c (List.mem_of_mem_take hc)
theorem Dgs.nil : Dgs [] := fun _ h => by cases h
theorem Dgs.cons {c : Int} {l : List Int} (hc : dgB c = true) (h : Dgs l) : Dgs (c :: l) := fun x hx => by
  rcases List.mem_cons.1 hx with rfl | hx
  · exact hc
  · exact h x hx
theorem tw_dgs : ∀ {l : List Int}, Dgs l → tw dgB l = l.length
  | [], _ => rfl
  | c :: l, h => by
    rw [tw_cons, if_pos (h c (by simp)), tw_dgs (l := l) (fun x hx => h x (List.mem_cons_of_mem _ hx)), List.length_cons]
theorem take_dgs : ∀ l : List Int, Dgs (l.take (tw dgB l))
  | [] => Dgs.nil
  | c :: l => by
    rw [tw_cons]
    by_cases hc : dgB c = true
    · rw [if_pos hc, List.take_succ_cons]; exact (take_dgs l).cons hc
    · rw [if_neg hc]; exact Dgs.nil
/-- A number's text, part by part: below 0 or not, sign, digits, point, digits, power. -/
structure Spl (b : List Int) (neg : Bool) (sg l1 dt l2 ep : List Int) (p : Int) : Prop where
  eq : b = sg ++ (l1 ++ (dt ++ (l2 ++ ep)))
  sign : (sg = [] ∧ neg = false) ∨ (sg = [43] ∧ neg = false) ∨ (sg = [45] ∧ neg = true)
  d1 : Dgs l1
  dot : (dt = [] ∧ l2 = []) ∨ dt = [46]
  d2 : Dgs l2
  some : l1 ++ l2 ≠ []
  pow : (ep = [] ∧ p = 0) ∨ ∃ e es l3, (e = 101 ∨ e = 69) ∧ ep = e :: (es ++ l3) ∧ l3 ≠ [] ∧ Dgs l3 ∧ (((es = [] ∨ es = [43]) ∧ p = dvl l3) ∨ (es = [45] ∧ p = - dvl l3))
/-- With a sign. -/
def sgI (neg : Bool) (z : Int) : Int := if neg = true then -z else z
/-- The text's number is M times ten to the power of E. -/
def NumIs (b : List Int) (M E : Int) : Prop := ∃ neg sg l1 dt l2 ep p, Spl b neg sg l1 dt l2 ep p ∧ M = sgI neg (dvl (l1 ++ l2)) ∧ E = p - (l2.length : Nat)
theorem sg_split (l : List Int) : ∃ sg, l = sg ++ l.drop (sg9 l) ∧ (sg = [] ∧ sg9 l = 0 ∨ sg = [43] ∨ sg = [45]) := by
  cases l with
  | nil => exact ⟨[], rfl, Or.inl ⟨rfl, rfl⟩⟩
  | cons c l =>
    unfold sg9
    simp only [List.getD_cons_zero]
    by_cases h : c = 43 ∨ c = 45
    · rw [if_pos h]
      rcases h with rfl | rfl
      · exact ⟨[43], rfl, Or.inr (Or.inl rfl)⟩
      · exact ⟨[45], rfl, Or.inr (Or.inr rfl)⟩
    · rw [if_neg h]; exact ⟨[], rfl, Or.inl ⟨rfl, rfl⟩⟩
theorem end_split {l : List Int} (h : endB l = true) : ∃ p, (l = [] ∧ p = 0) ∨ ∃ e es l3, (e = 101 ∨ e = 69) ∧ l = e :: (es ++ l3) ∧ l3 ≠ [] ∧ Dgs l3 ∧ (((es = [] ∨ es = [43]) ∧ p = dvl l3) ∨ (es = [45] ∧ p = - dvl l3)) := by
  cases l with
  | nil => exact ⟨0, Or.inl ⟨rfl, rfl⟩⟩
  | cons e r =>
    rw [endB_cons] at h
    by_cases he : e = 101 ∨ e = 69
    · rw [if_pos he] at h
      unfold powB at h
      simp only [Bool.and_eq_true, decide_eq_true_eq] at h
      obtain ⟨es, h1, h2⟩ := sg_split r
      have hl3 : r.drop (sg9 r) ≠ [] := fun e => by rw [e, tw_nil] at h; exact h.1 rfl
      have hd : Dgs (r.drop (sg9 r)) := by
        have := take_dgs (r.drop (sg9 r))
        rwa [h.2, List.take_length] at this
      generalize r.drop (sg9 r) = l3 at *
      subst h1
      rcases h2 with ⟨rfl, _⟩ | rfl | rfl
      · exact ⟨_, Or.inr ⟨e, [], l3, he, rfl, hl3, hd, Or.inl ⟨Or.inl rfl, rfl⟩⟩⟩
      · exact ⟨_, Or.inr ⟨e, [43], l3, he, rfl, hl3, hd, Or.inl ⟨Or.inr rfl, rfl⟩⟩⟩
      · exact ⟨_, Or.inr ⟨e, [45], l3, he, rfl, hl3, hd, Or.inr ⟨rfl, rfl⟩⟩⟩
    · rw [if_neg he] at h; cases h
/-- A right text is a number. -/
theorem num_of {b : List Int} (h : rgtB b = true) : ∃ M E, NumIs b M E := by
  obtain ⟨sg, hb, hs⟩ := sg_split b
  obtain ⟨neg, hneg⟩ : ∃ neg, (sg = [] ∧ neg = false) ∨ (sg = [43] ∧ neg = false) ∨ (sg = [45] ∧ neg = true) := by
    rcases hs with ⟨h, _⟩ | h | h
    · exact ⟨false, Or.inl ⟨h, rfl⟩⟩
    · exact ⟨false, Or.inr (Or.inl ⟨h, rfl⟩)⟩
    · exact ⟨true, Or.inr (Or.inr ⟨h, rfl⟩)⟩
  have hd1 := take_dgs (b.drop (sg9 b))
  have hsp := (List.take_append_drop (tw dgB (b.drop (sg9 b))) (b.drop (sg9 b))).symm
  by_cases hdot : ∃ r, (b.drop (sg9 b)).drop (tw dgB (b.drop (sg9 b))) = 46 :: r
  · obtain ⟨r, hr⟩ := hdot
    have h1 := rgt_dot hr
    rw [h] at h1
    have h1 := h1.symm
    simp only [Bool.and_eq_true, decide_eq_true_eq] at h1
    obtain ⟨p, hp⟩ := end_split h1.2
    have hd2 := take_dgs r
    have hsp2 := (List.take_append_drop (tw dgB r) r).symm
    refine ⟨_, _, neg, sg, (b.drop (sg9 b)).take (tw dgB (b.drop (sg9 b))), [46], r.take (tw dgB r), r.drop (tw dgB r), p, ⟨?_, hneg, hd1, Or.inr rfl, hd2, fun e => ?_, hp⟩, rfl, rfl⟩
    · rw [← hsp2]
      rw [hr] at hsp
      rw [show [(46 : Int)] ++ r = 46 :: r from rfl, ← hsp]; exact hb
    · have h2 := congrArg List.length e
      rw [List.length_append, List.length_take, List.length_take, List.length_nil] at h2
      have h3 := tw_le dgB (b.drop (sg9 b))
      have h4 := tw_le dgB r
      omega
  · have h1 := rgt_whole (b := b) (fun r hr => hdot ⟨r, hr⟩)
    rw [h] at h1
    have h1 := h1.symm
    simp only [Bool.and_eq_true, decide_eq_true_eq] at h1
    obtain ⟨p, hp⟩ := end_split h1.2
    refine ⟨_, _, neg, sg, (b.drop (sg9 b)).take (tw dgB (b.drop (sg9 b))), [], [], (b.drop (sg9 b)).drop (tw dgB (b.drop (sg9 b))), p, ⟨?_, hneg, hd1, Or.inl ⟨rfl, rfl⟩, Dgs.nil, fun e => ?_, hp⟩, rfl, rfl⟩
    · rw [List.nil_append, List.nil_append, ← hsp]; exact hb
    · have h2 := congrArg List.length e
      rw [List.append_nil, List.length_take, List.length_nil] at h2
      have h3 := tw_le dgB (b.drop (sg9 b))
      omega
theorem stL_dgs {a d : Int} (h1 : ∀ c, dgB c = true → stI a c = d) (h2 : ∀ c, dgB c = true → stI d c = d) {l r : List Int} (h : Dgs l) : stL a (l ++ r) = stL (if l = [] then a else d) r := by
  cases l with
  | nil => rfl
  | cons c l =>
    rw [if_neg (by simp), List.cons_append, stL_cons, h1 c (h c (by simp)), stL_app]
    congr 1
    have h3 : ∀ l : List Int, Dgs l → stL d l = d := by
      intro l
      induction l with
      | nil => intro _; rfl
      | cons x l ih => intro hl; rw [stL_cons, h2 x (hl x (by simp))]; exact ih (fun y hy => hl y (List.mem_cons_of_mem _ hy))
    exact h3 l (fun y hy => h y (List.mem_cons_of_mem _ hy))
/-- What is a number part by part is a right text. -/
theorem Spl.right {b : List Int} {neg : Bool} {sg l1 dt l2 ep : List Int} {p : Int} (h : Spl b neg sg l1 dt l2 ep p) : rgtB b = true := by
  obtain ⟨eq, sign, d1, dot, d2, some, pow⟩ := h
  subst eq
  have f1 : ∀ {a : Int}, a = 0 ∨ a = 1 → ∀ {l r : List Int}, Dgs l → stL a (l ++ r) = stL (if l = [] then a else 2) r := fun ha _ _ hl =>
    stL_dgs (fun c hc => by unfold stI; rw [if_pos hc, if_pos (by omega)]) (fun c hc => by unfold stI; rw [if_pos hc, if_pos (by omega)]) hl
  have f2 : ∀ {a : Int}, a = 3 ∨ a = 4 → ∀ {l r : List Int}, Dgs l → stL a (l ++ r) = stL (if l = [] then a else 4) r := fun ha _ _ hl =>
    stL_dgs (fun c hc => by unfold stI; rw [if_pos hc, if_neg (by omega), if_pos (by omega)]) (fun c hc => by unfold stI; rw [if_pos hc, if_neg (by omega), if_pos (by omega)]) hl
  have f3 : ∀ {a : Int}, a = 5 ∨ a = 6 → ∀ {l : List Int}, Dgs l → l ≠ [] → stL a l = 7 := fun {a} ha {l} hl hn => by
    have := stL_dgs (a := a) (d := 7) (r := []) (fun c hc => by unfold stI; rw [if_pos hc, if_neg (by omega), if_neg (by omega), if_pos (by omega)]) (fun c hc => by unfold stI; rw [if_pos hc]; rfl) hl
    rw [List.append_nil, if_neg hn] at this
    exact this
  have fe : ∀ {a : Int}, a = 2 ∨ a = 4 → okS (stL a ep) = true := fun {a} ha => by
    rcases pow with ⟨rfl, _⟩ | ⟨e, es, l3, he, rfl, hn, hd, hp⟩
    · rcases ha with rfl | rfl <;> rfl
    · have h5 : stI a e = 5 := by rcases ha with rfl | rfl <;> rcases he with rfl | rfl <;> rfl
      rw [stL_cons, h5]
      have h7 : stL 5 (es ++ l3) = 7 := by
        rcases hp with ⟨rfl | rfl, _⟩ | ⟨rfl, _⟩
        · exact f3 (Or.inl rfl) hd hn
        · exact f3 (a := 6) (Or.inr rfl) hd hn
        · exact f3 (a := 6) (Or.inr rfl) hd hn
      rw [h7]; rfl
  have hs : ∃ a : Int, (a = 0 ∨ a = 1) ∧ stL 0 (sg ++ (l1 ++ (dt ++ (l2 ++ ep)))) = stL a (l1 ++ (dt ++ (l2 ++ ep))) := by
    rcases sign with ⟨rfl, _⟩ | ⟨rfl, _⟩ | ⟨rfl, _⟩
    · exact ⟨0, Or.inl rfl, rfl⟩
    · exact ⟨1, Or.inr rfl, rfl⟩
    · exact ⟨1, Or.inr rfl, rfl⟩
  obtain ⟨a, ha, hs⟩ := hs
  unfold rgtB
  rw [hs, f1 ha d1]
  rcases dot with ⟨rfl, rfl⟩ | rfl
  · have hn : l1 ≠ [] := fun e => some (by rw [e]; rfl)
    rw [if_neg hn]
    exact fe (Or.inl rfl)
  · rw [show [(46 : Int)] ++ (l2 ++ ep) = 46 :: (l2 ++ ep) from rfl, stL_cons]
    by_cases hn : l1 = []
    · rw [if_pos hn]
      have h3 : stI a 46 = 3 := by rcases ha with rfl | rfl <;> rfl
      have hn2 : l2 ≠ [] := fun e => some (by rw [e, hn]; rfl)
      rw [h3, f2 (Or.inl rfl) d2, if_neg hn2]
      exact fe (Or.inr rfl)
    · rw [if_neg hn]
      have h4 : stI 2 46 = 4 := rfl
      rw [h4, f2 (Or.inr rfl) d2]
      have : (if l2 = [] then (4 : Int) else 4) = 4 := by split <;> rfl
      rw [this]
      exact fe (Or.inr rfl)
end Go.Proofs.YtfpifbfnebfdaaaDoor
