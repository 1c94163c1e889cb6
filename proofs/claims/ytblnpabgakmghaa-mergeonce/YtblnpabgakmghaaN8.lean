/- Contracts of package merge over the loaded program: pieces. -/
import Derived.Test.YtblnpabgakmghaaN4
import Derived.Test.YtblnpabgakmghaaS7
import Derived.LoopIn
import Derived.Shelf.RegionOpen
import Derived.Sort.CutIn
import Derived.Deep.SlicePairs
import Derived.Test.YtblnpabgakmghaaH2b
namespace Go.Proofs.Ytblnpabgakmghaa
open Go.RowKit Go.Shelf
attribute [local go_sem] Oper.semAt_some
/-- From place a on len things are the same, and no more. -/
def PcAt (k : Int → Int) (L : List Int) (a len : Nat) : Prop :=
  0 < len ∧ a + len ≤ L.length ∧ (∀ i, a ≤ i → i + 1 < a + len → k (L.getD i 0) = k (L.getD (i + 1) 0)) ∧ (a + len < L.length → k (L.getD (a + len - 1) 0) ≠ k (L.getD (a + len) 0))
/-- The pieces xs, one behind the other, from a to b. -/
def Chn (k : Int → Int) (L : List Int) : Nat → List (Nat × Nat) → Nat → Prop
  | a, [], b => a = b
  | a, x :: xs, b => x.1 = a ∧ PcAt k L a x.2 ∧ Chn k L (a + x.2) xs b
theorem Chn.snoc {k : Int → Int} {L : List Int} : ∀ {xs : List (Nat × Nat)} {a b n : Nat}, Chn k L a xs b → PcAt k L b n → Chn k L a (xs ++ [(b, n)]) (b + n)
  | [], a, b, n, h, hp => by
    have h : a = b := h
    subst h
    exact ⟨rfl, hp, rfl⟩
  | x :: xs, a, b, n, ⟨h1, h2, h3⟩, hp => ⟨h1, h2, Chn.snoc h3 hp⟩
theorem Chn.le {k : Int → Int} {L : List Int} : ∀ {xs : List (Nat × Nat)} {a b : Nat}, Chn k L a xs b → a ≤ L.length → a ≤ b ∧ b ≤ L.length
  | [], a, b, h, hl => by
    have h : a = b := h
    subst h
    exact ⟨Nat.le_refl _, hl⟩
  | x :: xs, a, b, ⟨_, h2, h3⟩, _ => by
    have := Chn.le h3 h2.2.1
    omega
/-- Where a piece lies. -/
def pcV (g o c : Nat) (x : Nat × Nat) : Value := .slice (some ⟨g, o + x.1, none⟩) x.2 (c - x.1)

/-- The test that pieces is handed: the same key. -/
def SameF0 (k : Int → Int) (fs : Nat) (H : World → Prop) : Prop :=
  Enters Try.prog fs ∧ ∀ (a b : Int) (W : World), I64 a → I64 b → H W → Calls Try.prog fs #[.int .i64 a, .int .i64 b] W fun e w' => e = .returned (.bool (decide (k a = k b))) ∧ IsGr W w'
theorem nilS0 (f : Nat) (w : World) : (binOp BinOp.neq 34 (.func (.func f) #[] #[]) .nilFunc).run Try.prog w = .ok (.bool true) w := by
  first | rfl | simp [binOp, run_underlying Try.underlying34, go_sem]
/-- What pieces stands on: the list, and the two boxes. -/
structure PcH0 (ad : Option Addr) (g o n c Bl Bs fs : Nat) (L : List Int) (H : World → Prop) (W : World) : Prop where
  list : W.cell? ⟨Bl, 0, none⟩ = some (.slice ad n c)
  same : W.cell? ⟨Bs, 0, none⟩ = some (.func (.func fs) #[] #[])
  cells : ∀ i, i < n → W.cell? ⟨g, o + i, none⟩ = some (.int .i64 (L.getD i 0))
  held : H W

/-- The test that pieces is handed: the same key. -/
def SameF1 (k : Int → Int) (fs : Nat) (Bo : Nat) (H : World → Prop) : Prop :=
  Enters Try.prog fs ∧ ∀ (a b : Int) (W : World), I64 a → I64 b → H W → Calls Try.prog fs #[.int .i64 a, .int .i64 b, .pointer (some ⟨Bo, 0, none⟩)] W fun e w' => e = .returned (.bool (decide (k a = k b))) ∧ IsGr W w'
theorem nilS1 (f : Nat) (Bo : Nat) (w : World) : (binOp BinOp.neq 34 (.func (.func f) #[] #[.pointer (some ⟨Bo, 0, none⟩)]) .nilFunc).run Try.prog w = .ok (.bool true) w := by
  first | rfl | simp [binOp, run_underlying Try.underlying34, go_sem]
/-- What pieces stands on: the list, and the two boxes. -/
structure PcH1 (ad : Option Addr) (g o n c Bl Bs fs : Nat) (Bo : Nat) (L : List Int) (H : World → Prop) (W : World) : Prop where
  list : W.cell? ⟨Bl, 0, none⟩ = some (.slice ad n c)
  same : W.cell? ⟨Bs, 0, none⟩ = some (.func (.func fs) #[] #[.pointer (some ⟨Bo, 0, none⟩)])
  cells : ∀ i, i < n → W.cell? ⟨g, o + i, none⟩ = some (.int .i64 (L.getD i 0))
  held : H W

set_option maxRecDepth 100000 in
set_option maxHeartbeats 2000000 in
theorem pieces_in0 {k : Int → Int} {fs : Nat} {H : World → Prop} (hS : SameF0 k fs H) (ad0 : Option Addr) (g o n c Bl Bs m : Nat) (L : List Int) (Z : List Nat) (W0 : World) (h0 : PcH0 ad0 g o n c Bl Bs fs L H W0)
    (hG : ∀ A B, PcH0 ad0 g o n c Bl Bs fs L H A → IsGr A B → PcH0 ad0 g o n c Bl Bs fs L H B) (hZ : ∀ A B, PcH0 ad0 g o n c Bl Bs fs L H A → KpZ Z A B → PcH0 ad0 g o n c Bl Bs fs L H B)
    (had : 0 < n → ad0 = some ⟨g, o, none⟩) (hl : L.length = n) (hc : n ≤ c) (hi : ∀ x ∈ L, I64 x) (hn : n ≤ 1000) :
    SeqT Fence.wide m Try.prog 33 #[.pointer (some ⟨Bl, 0, none⟩), .pointer (some ⟨Bs, 0, none⟩)] (fun x : Nat × Nat => #[pcV g o c x]) IsGr (KpZ Z) (fun pre x => Chn k L 0 pre x.1 ∧ PcAt k L x.1 x.2) (fun xs _ => Chn k L 0 xs n) (fun xs _ => ∃ b, Chn k L 0 xs b) W0 := by
  intro l J Jx hJ hJx hY hJ0
  have HH : Hid (L.length = n ∧ n ≤ c ∧ (∀ x ∈ L, I64 x) ∧ n ≤ 1000) := ⟨hl, hc, hi, hn⟩
  refine callsIn_of_wp Try.func33 rfl trivial ?_ rfl
  simp only [Try.ntmps33, List.size_toArray, List.length_cons, List.length_nil, Nat.reduceAdd, Nat.reduceSub, Array.replicate_succ, Array.replicate_zero, List.push_toArray, List.append_toArray, List.nil_append, List.cons_append]
  obtain ⟨q1, q2, q3, q4⟩ := h0
  gi_wp2
  gi_loopw [4] (fun p4 wr => ∃ (a : Nat) (pre : List (Nat × Nat)) (ad : Option Addr), p4 = .slice ad (n - a) (c - a) ∧ Hid ((a < n → ad = some ⟨g, o + a, none⟩) ∧ a ≤ n ∧ Chn k L 0 pre a ∧ J pre wr ∧ PcH0 ad0 g o n c Bl Bs fs L H wr)) (fun p4 _ => match p4 with | .slice _ r _ => r | _ => 0)
  case atStart => exact ⟨0, [], _, rfl, had, Nat.zero_le _, rfl, hJ0, ⟨q1, q2, q3, q4⟩⟩
  case round =>
    obtain ⟨a, pre, ad, rfl, HR⟩ := hrel
    clear q1 q2 q3 q4 hJ0
    obtain ⟨r, hr⟩ : ∃ r, n - a = r := ⟨_, rfl⟩
    obtain ⟨cc, hcc⟩ : ∃ r, c - a = r := ⟨_, rfl⟩
    have HC : Hid (n - a = r ∧ c - a = cc) := ⟨hr, hcc⟩
    have han := HR.out.2.1
    have hrc : r ≤ cc := by omega
    have hr9 : r ≤ 1000 := by omega
    rw [hr, hcc]
    by_cases hr0 : r = 0
    · subst hr0
      have HE : Hid (Chn k L 0 pre n) := by have := HR.out.2.2.1; rwa [show a = n by omega] at this
      have HJ := HR.out.2.2.2.1
      clear hr hcc han hrc hr9
      gi_wp2
      go_end0
      exact ⟨⟨_, rfl⟩, Or.inl ⟨pre, HE.out, HJ⟩⟩
    · obtain rfl := HR.out.1 (by omega)
      have hr1 : 0 < r := by omega
      obtain ⟨wO, hwO⟩ : ∃ W, W = wr := ⟨_, rfl⟩
      subst hwO
      have HA : Hid (a + r = n ∧ 0 < r ∧ r ≤ cc ∧ r ≤ 1000) := ⟨by omega, hr1, hrc, hr9⟩
      clear hr hcc han hr0
      gi_wp2
      gi_loopw [5] (fun p5 w2 => ∃ j : Nat, p5 = .int .i64 j ∧ 0 < j ∧ j ≤ r ∧ Hid (IsGr wO w2 ∧ ∀ i, a ≤ i → i + 1 < a + j → k (L.getD i 0) = k (L.getD (i + 1) 0))) (fun p5 _ => r - (intOf p5).toNat)
      case atStart => exact ⟨1, rfl, by omega, by omega, IsGr.refl _, fun i h1 h2 => by omega⟩
      case round =>
        obtain ⟨j, rfl, hj0, hjr, HJ⟩ := hrel
        have hP := hG _ _ HR.out.2.2.2.2 HJ.out.1
        by_cases hjr2 : j = r
        · have HPc : Hid (PcAt k L a j) := ⟨hj0, by rw [HH.out.1]; have := HA.out; omega, HJ.out.2, fun h => by rw [HH.out.1] at h; have := HA.out; omega⟩
          gi_upto_region 3 with fail
          refine wpIn_wide.2 ?_
          have hd1 : decide (j < r) = false := decide_eq_false (by omega)
          have hd2 : ¬ (j : Int) < (r : Int) := by omega
          have HJR : Hid (j = r) := hjr2
          clear hjr2
          obtain ⟨C, hin, hcl, hcells, hgr⟩ : ∃ C : World → Prop, (∀ w', IsGr wr w' → C w') ∧ (∀ u u', C u → IsGr u u' → C u') ∧ (∀ w', C w' → True) ∧ (∀ w', C w' → IsGr wr w') := ⟨fun w' => IsGr wr w', fun _ h => h, fun _ _ h k => h.trans k, fun w' hg => trivial, fun _ h => h⟩
          refine wp_region_quietV C (by kernel_rfl) (by kernel_rfl) (hin _ (by with_reducible repeat (first | exact IsGr.refl _ | refine IsGr.gr ?_ _ _ | refine IsGr.alloc ?_ _ | refine IsGr.drew ?_ | refine IsGr.drewN ?_ _))) (fun K HK => ?_)
          refine QK.take HK ?_ (by rfl) ?_ ?_
          rotate_left
          · (intro w hw; (try have hcs := hcells w hw); (try go_split_ands); go_simp <;> with_reducible rfl)
          (try simp only [Act.put, List.setIfInBounds_toArray, List.set_cons_zero, List.set_cons_succ])
          refine QK.take HK ?_ (by rfl) ?_ ?_
          rotate_left
          · (intro w hw; (try have hcs := hcells w hw); (try go_split_ands); go_simp <;> with_reducible rfl)
          (try simp only [Act.put, List.setIfInBounds_toArray, List.set_cons_zero, List.set_cons_succ])
          refine QK.take HK ?_ (by rfl) ?_ ?_
          rotate_left
          · (intro w hw; (try have hcs := hcells w hw); (try go_split_ands); go_simp <;> with_reducible rfl)
          (try simp only [Act.put, List.setIfInBounds_toArray, List.set_cons_zero, List.set_cons_succ])
          refine QK.take HK ?_ (by rfl) ?_ ?_
          rotate_left
          · (intro w hw; (try have hcs := hcells w hw); (try go_split_ands); go_simp <;> with_reducible rfl)
          (try simp only [Act.put, List.setIfInBounds_toArray, List.set_cons_zero, List.set_cons_succ])
          refine QK.take HK ?_ (by rfl) ?_ ?_
          rotate_left
          · (intro w hw; (try have hcs := hcells w hw); (try go_split_ands); go_simp <;> with_reducible rfl)
          (try simp only [Act.put, List.setIfInBounds_toArray, List.set_cons_zero, List.set_cons_succ])
          refine QK.skip HK (by rfl) ?_
          (try simp only [Act.put, List.setIfInBounds_toArray, List.set_cons_zero, List.set_cons_succ])
          refine QK.skip HK (by rfl) ?_
          (try simp only [Act.put, List.setIfInBounds_toArray, List.set_cons_zero, List.set_cons_succ])
          refine QK.take HK ?_ (by rfl) ?_ ?_
          rotate_left
          · (intro w hw; (try have hcs := hcells w hw); (try go_split_ands); go_simp <;> with_reducible rfl)
          (try simp only [Act.put, List.setIfInBounds_toArray, List.set_cons_zero, List.set_cons_succ])
          refine QK.take HK ?_ (by rfl) ?_ ?_
          rotate_left
          · (intro w hw; (try have hcs := hcells w hw); (try go_split_ands); go_simp <;> with_reducible rfl)
          (try simp only [Act.put, List.setIfInBounds_toArray, List.set_cons_zero, List.set_cons_succ])
          refine QK.skip HK (by rfl) ?_
          (try simp only [Act.put, List.setIfInBounds_toArray, List.set_cons_zero, List.set_cons_succ])
          refine QK.skip HK (by rfl) ?_
          (try simp only [Act.put, List.setIfInBounds_toArray, List.set_cons_zero, List.set_cons_succ])
          refine QK.skip HK (by rfl) ?_
          (try simp only [Act.put, List.setIfInBounds_toArray, List.set_cons_zero, List.set_cons_succ])
          refine QK.skip HK (by rfl) ?_
          (try simp only [Act.put, List.setIfInBounds_toArray, List.set_cons_zero, List.set_cons_succ])
          refine QK.skip HK (by rfl) ?_
          (try simp only [Act.put, List.setIfInBounds_toArray, List.set_cons_zero, List.set_cons_succ])
          refine QK.skip HK (by rfl) ?_
          (try simp only [Act.put, List.setIfInBounds_toArray, List.set_cons_zero, List.set_cons_succ])
          refine QK.skip HK (by rfl) ?_
          (try simp only [Act.put, List.setIfInBounds_toArray, List.set_cons_zero, List.set_cons_succ])
          refine QK.skip HK (by rfl) ?_
          (try simp only [Act.put, List.setIfInBounds_toArray, List.set_cons_zero, List.set_cons_succ])
          refine QK.skip HK (by rfl) ?_
          (try simp only [Act.put, List.setIfInBounds_toArray, List.set_cons_zero, List.set_cons_succ])
          refine QK.skip HK (by rfl) ?_
          (try simp only [Act.put, List.setIfInBounds_toArray, List.set_cons_zero, List.set_cons_succ])
          refine QK.skip HK (by rfl) ?_
          (try simp only [Act.put, List.setIfInBounds_toArray, List.set_cons_zero, List.set_cons_succ])
          refine QK.take HK ?_ (by rfl) ?_ ?_
          rotate_left
          · (intro w hw; (try have hcs := hcells w hw); (try go_split_ands); go_simp <;> with_reducible rfl)
          (try simp only [Act.put, List.setIfInBounds_toArray, List.set_cons_zero, List.set_cons_succ])
          refine QK.nil HK ?_
          clear HK K
          intro wq hq
          have hgq := hgr wq hq
          clear hcells hin hcl hgr hq hP hd1 hd2
          have HQ : Hid (IsGr wO wq) := HJ.out.1.trans hgq
          have hJq : J pre wq := hJ _ _ _ HR.out.2.2.2.1 HQ.out
          have hPq : Hid (PcH0 ad0 g o n c Bl Bs fs L H wq) := hG _ _ HR.out.2.2.2.2 HQ.out
          have hjc : (j : Int) ≤ (cc : Int) := by omega
          have hjr' : (j : Int) ≤ (r : Int) := by omega
          have hYq : YieldAt Fence.wide (m - 1) Try.prog l #[.slice (some ⟨g, o + a, none⟩) j cc] wq fun e W' => (e = .returned (.bool true) ∧ J (pre ++ [(a, j)]) W' ∧ KpZ Z wq W') ∨ (e = .returned (.bool false) ∧ Jx (pre ++ [(a, j)]) W' ∧ KpZ Z wq W') := by
            have := hY (m - 1) pre (a, j) wq hJq ⟨HR.out.2.2.1, HPc.out⟩
            unfold pcV at this
            simp only at this
            rw [HC.out.2] at this
            exact this
          obtain ⟨fn, tmps, assign, body, hy, hR⟩ := hYq
          clear hgq HJ hJq
          gi_wp2
          refine ⟨fun h => (by cases h), ?_⟩
          refine hR.mono ?_
          clear hR
          rintro e w3 (⟨rfl, hj3, hkp⟩ | ⟨rfl, hj3, hkp⟩)
          · have H3 : Hid (Chn k L 0 (pre ++ [(a, j)]) (a + j) ∧ J (pre ++ [(a, j)]) w3 ∧ PcH0 ad0 g o n c Bl Bs fs L H w3) := ⟨HR.out.2.2.1.snoc HPc.out, hj3, hZ _ _ hPq.out hkp⟩
            clear hj3 hkp HR hPq HQ hy
            by_cases hcj : cc = j
            · obtain rfl : r = j := by omega
              subst hcj
              gi_wp2
              go_roundw
              case rel => exact ⟨a + cc, _, _, by congr 1 <;> (have := HC.out; have := HA.out; omega), fun h => by have := HA.out; omega, by have := HA.out; omega, H3.out⟩
              case measure => have := HA.out; simp; omega
            · gi_wp2
              go_roundw
              case rel => exact ⟨a + j, _, _, by congr 1 <;> (have := HC.out; have := HA.out; omega), fun h => by rw [Nat.add_assoc], by have := HA.out; omega, H3.out⟩
              case measure => have := HA.out; simp; omega
          · have H3 : Hid (Chn k L 0 (pre ++ [(a, j)]) (a + j)) := HR.out.2.2.1.snoc HPc.out
            gi_wp2
            exact bodyPost_ret (v := .tuple #[]) (by simp [results, Try.results33, go_sem]) rfl ⟨⟨_, rfl⟩, Or.inr ⟨_, ⟨_, H3.out⟩, hj3⟩⟩
        · obtain ⟨q, hq⟩ : ∃ q, j - 1 = q := ⟨_, rfl⟩
          have hS2 := hP.same
          have ca := hP.cells (a + q) (by have := HA.out; omega)
          have cb := hP.cells (a + j) (by have := HA.out; omega)
          have ha64 := getD_ints HH.out.2.2.1 (i := a + q) (by rw [HH.out.1]; have := HA.out; omega)
          have hb64 := getD_ints HH.out.2.2.1 (i := a + j) (by rw [HH.out.1]; have := HA.out; omega)
          have CS := fun W h => hS.2 _ _ W ha64 hb64 h
          have hG1 := fun w' (hg : IsGr wr w') => (hG _ _ hP hg).held
          obtain ⟨x, hx⟩ : ∃ x, L.getD (a + q) 0 = x := ⟨_, rfl⟩
          obtain ⟨y, hy⟩ : ∃ x, L.getD (a + j) 0 = x := ⟨_, rfl⟩
          have HX : Hid (L.getD (a + q) 0 = x ∧ L.getD (a + j) 0 = y ∧ j - 1 = q ∧ 0 < j ∧ j < r) := ⟨hx, hy, hq, hj0, by omega⟩
          rw [hx] at ca
          rw [hy] at cb
          simp only [hx, hy] at CS
          have hjq : (j : Int) - 1 = (q : Int) := by omega
          have er : IntKind.i64.wrap ((j : Int) - 1) = (q : Int) := by rw [IntKind.wrap_i64]; omega
          have er2 : IntKind.i64.wrap (q : Int) = (q : Int) := by rw [IntKind.wrap_i64]; omega
          have er3 : IntKind.i64.wrap (j : Int) = (j : Int) := by rw [IntKind.wrap_i64]; omega
          have er4 : IntKind.i64.wrap ((j : Int) + 1) = ((j : Int) + 1) := by rw [IntKind.wrap_i64]; omega
          have hjr3 : (j : Int) < (r : Int) := by omega
          have hqr3 : (q : Int) < (r : Int) := by omega
          have hnS := fun w => nilS0 fs w
          have hE : ∀ args w, (callFunc fs args).run Try.prog w = .ok (.enter fs args) w := hS.1
          rw [← Nat.add_assoc] at ca cb
          clear hx hy hq ha64 hb64 hjr2
          obtain ⟨b, hb⟩ : ∃ b, decide (k x = k y) = b := ⟨_, rfl⟩
          have HB : Hid (decide (k x = k y) = b) := hb
          simp only [hb] at CS
          clear hb
          cases b with
          | true =>
            gi_upto_region 3 with fail
            refine wpIn_wide.2 ?_
            have hd1 : decide (j < r) = true := decide_eq_true (by have := HX.out; omega)
            obtain ⟨C, hin, hcl, hcells, hgr⟩ : ∃ C : World → Prop, (∀ w', IsGr wr w' → C w') ∧ (∀ u u', C u → IsGr u u' → C u') ∧ (∀ w', C w' → (w'.cell? ⟨Bs, 0, none⟩ = some (.func (.func fs) #[] #[])) ∧ (w'.cell? ⟨g, o + a + q, none⟩ = some (.int .i64 x)) ∧ (w'.cell? ⟨g, o + a + j, none⟩ = some (.int .i64 y))) ∧ (∀ w', C w' → IsGr wr w') := ⟨fun w' => IsGr wr w', fun _ h => h, fun _ _ h k => h.trans k, fun w' hg => ⟨cellk hS2 hg, cellk ca hg, cellk cb hg⟩, fun _ h => h⟩
            refine wp_region_quietV C (by kernel_rfl) (by kernel_rfl) (hin _ (by with_reducible repeat (first | exact IsGr.refl _ | refine IsGr.gr ?_ _ _ | refine IsGr.alloc ?_ _ | refine IsGr.drew ?_ | refine IsGr.drewN ?_ _))) (fun K HK => ?_)
            refine QK.take HK ?_ (by rfl) ?_ ?_
            rotate_left
            · (intro w hw; (try have hcs := hcells w hw); (try go_split_ands); go_simp <;> with_reducible rfl)
            (try simp only [Act.put, List.setIfInBounds_toArray, List.set_cons_zero, List.set_cons_succ])
            refine QK.take HK ?_ (by rfl) ?_ ?_
            rotate_left
            · (intro w hw; (try have hcs := hcells w hw); (try go_split_ands); go_simp <;> with_reducible rfl)
            (try simp only [Act.put, List.setIfInBounds_toArray, List.set_cons_zero, List.set_cons_succ])
            refine QK.take HK ?_ (by rfl) ?_ ?_
            rotate_left
            · (intro w hw; (try have hcs := hcells w hw); (try go_split_ands); go_simp <;> with_reducible rfl)
            (try simp only [Act.put, List.setIfInBounds_toArray, List.set_cons_zero, List.set_cons_succ])
            refine QK.take HK ?_ (by rfl) ?_ ?_
            rotate_left
            · (intro w hw; (try have hcs := hcells w hw); (try go_split_ands); go_simp <;> with_reducible rfl)
            (try simp only [Act.put, List.setIfInBounds_toArray, List.set_cons_zero, List.set_cons_succ])
            refine QK.take HK ?_ (by rfl) ?_ ?_
            rotate_left
            · (intro w hw; (try have hcs := hcells w hw); (try go_split_ands); go_simp <;> with_reducible rfl)
            (try simp only [Act.put, List.setIfInBounds_toArray, List.set_cons_zero, List.set_cons_succ])
            refine QK.take HK ?_ (by rfl) ?_ ?_
            rotate_left
            · (intro w hw; (try have hcs := hcells w hw); (try go_split_ands); go_simp <;> with_reducible rfl)
            (try simp only [Act.put, List.setIfInBounds_toArray, List.set_cons_zero, List.set_cons_succ])
            refine QK.take HK ?_ (by rfl) ?_ ?_
            rotate_left
            · (intro w hw; (try have hcs := hcells w hw); (try go_split_ands); go_simp <;> with_reducible rfl)
            (try simp only [Act.put, List.setIfInBounds_toArray, List.set_cons_zero, List.set_cons_succ])
            refine QK.take HK ?_ (by rfl) ?_ ?_
            rotate_left
            · (intro w hw; (try have hcs := hcells w hw); (try go_split_ands); go_simp <;> with_reducible rfl)
            (try simp only [Act.put, List.setIfInBounds_toArray, List.set_cons_zero, List.set_cons_succ])
            refine QK.take HK ?_ (by rfl) ?_ ?_
            rotate_left
            · (intro w hw; (try have hcs := hcells w hw); (try go_split_ands); go_simp <;> with_reducible rfl)
            (try simp only [Act.put, List.setIfInBounds_toArray, List.set_cons_zero, List.set_cons_succ])
            refine QK.take HK ?_ (by rfl) ?_ ?_
            rotate_left
            · (intro w hw; (try have hcs := hcells w hw); (try go_split_ands); go_simp <;> with_reducible rfl)
            (try simp only [Act.put, List.setIfInBounds_toArray, List.set_cons_zero, List.set_cons_succ])
            refine QK.take HK ?_ (by rfl) ?_ ?_
            rotate_left
            · (intro w hw; (try have hcs := hcells w hw); (try go_split_ands); go_simp <;> with_reducible rfl)
            (try simp only [Act.put, List.setIfInBounds_toArray, List.set_cons_zero, List.set_cons_succ])
            refine QK.take HK ?_ (by rfl) ?_ ?_
            rotate_left
            · (intro w hw; (try have hcs := hcells w hw); (try go_split_ands); go_simp <;> with_reducible rfl)
            (try simp only [Act.put, List.setIfInBounds_toArray, List.set_cons_zero, List.set_cons_succ])
            refine QK.take HK ?_ (by rfl) ?_ ?_
            rotate_left
            · (intro w hw; (try have hcs := hcells w hw); (try go_split_ands); go_simp <;> with_reducible rfl)
            (try simp only [Act.put, List.setIfInBounds_toArray, List.set_cons_zero, List.set_cons_succ])
            refine QK.take HK ?_ (by rfl) ?_ ?_
            rotate_left
            · (intro w hw; (try have hcs := hcells w hw); (try go_split_ands); go_simp <;> with_reducible rfl)
            (try simp only [Act.put, List.setIfInBounds_toArray, List.set_cons_zero, List.set_cons_succ])
            refine QK.take HK ?_ (by rfl) ?_ ?_
            rotate_left
            · (intro w hw; (try have hcs := hcells w hw); (try go_split_ands); go_simp <;> with_reducible rfl)
            (try simp only [Act.put, List.setIfInBounds_toArray, List.set_cons_zero, List.set_cons_succ])
            refine QK.take HK ?_ (by rfl) ?_ ?_
            rotate_left
            · (intro w hw; (try have hcs := hcells w hw); (try go_split_ands); go_simp <;> with_reducible rfl)
            (try simp only [Act.put, List.setIfInBounds_toArray, List.set_cons_zero, List.set_cons_succ])
            refine QK.take HK ?_ (by rfl) ?_ ?_
            rotate_left
            · (intro w hw; (try have hcs := hcells w hw); (try go_split_ands); go_simp <;> with_reducible rfl)
            (try simp only [Act.put, List.setIfInBounds_toArray, List.set_cons_zero, List.set_cons_succ])
            refine QK.take HK ?_ (by rfl) ?_ ?_
            rotate_left
            · (intro w hw; (try have hcs := hcells w hw); (try go_split_ands); go_simp <;> with_reducible rfl)
            (try simp only [Act.put, List.setIfInBounds_toArray, List.set_cons_zero, List.set_cons_succ])
            refine QK.take HK ?_ (by rfl) ?_ ?_
            rotate_left
            · (intro w hw; (try have hcs := hcells w hw); (try go_split_ands); go_simp <;> with_reducible rfl)
            (try simp only [Act.put, List.setIfInBounds_toArray, List.set_cons_zero, List.set_cons_succ])
            refine QK.callC HK fs #[.int .i64 x, .int .i64 y] (.bool true) hcl (by rfl) (fun w => by go_simp) (fun w hw => CS w (hG1 w (hgr w hw))) ?_
            (try simp only [Act.put, List.setIfInBounds_toArray, List.set_cons_zero, List.set_cons_succ])
            refine QK.take HK ?_ (by rfl) ?_ ?_
            rotate_left
            · (intro w hw; (try have hcs := hcells w hw); (try go_split_ands); go_simp <;> with_reducible rfl)
            (try simp only [Act.put, List.setIfInBounds_toArray, List.set_cons_zero, List.set_cons_succ])
            refine QK.nil HK ?_
            clear HK K
            intro wq hq
            have hgq := hgr wq hq
            clear hcells hin hcl hgr hq hP hd1 hS2 ca cb CS hG1 hnS hE er er2 er3 hjq
            gi_wp2
            go_roundw
            case rel =>
              refine ⟨j + 1, by simp, by omega, by omega, HJ.out.1.trans hgq, fun i h1 h2 => ?_⟩
              by_cases hi : i = a + q
              · have h3 := HX.out
                rw [hi, show a + q + 1 = a + j by omega, h3.1, h3.2.1]
                exact of_decide_eq_true HB.out
              · exact HJ.out.2 i h1 (by have := HX.out; omega)
            case measure => simp [intOf]; omega
          | false =>
            have HPc : Hid (PcAt k L a j) := ⟨hj0, by rw [HH.out.1]; have := HA.out; omega, HJ.out.2, fun h e => by
              have h1 := of_decide_eq_false HB.out
              have h2 := HX.out
              rw [show a + j - 1 = a + q by omega, h2.1, h2.2.1] at e
              exact h1 e⟩
            gi_upto_region 3 with fail
            refine wpIn_wide.2 ?_
            have hd1 : decide (j < r) = true := decide_eq_true (by have := HX.out; omega)
            obtain ⟨C, hin, hcl, hcells, hgr⟩ : ∃ C : World → Prop, (∀ w', IsGr wr w' → C w') ∧ (∀ u u', C u → IsGr u u' → C u') ∧ (∀ w', C w' → (w'.cell? ⟨Bs, 0, none⟩ = some (.func (.func fs) #[] #[])) ∧ (w'.cell? ⟨g, o + a + q, none⟩ = some (.int .i64 x)) ∧ (w'.cell? ⟨g, o + a + j, none⟩ = some (.int .i64 y))) ∧ (∀ w', C w' → IsGr wr w') := ⟨fun w' => IsGr wr w', fun _ h => h, fun _ _ h k => h.trans k, fun w' hg => ⟨cellk hS2 hg, cellk ca hg, cellk cb hg⟩, fun _ h => h⟩
            refine wp_region_quietV C (by kernel_rfl) (by kernel_rfl) (hin _ (by with_reducible repeat (first | exact IsGr.refl _ | refine IsGr.gr ?_ _ _ | refine IsGr.alloc ?_ _ | refine IsGr.drew ?_ | refine IsGr.drewN ?_ _))) (fun K HK => ?_)
            refine QK.take HK ?_ (by rfl) ?_ ?_
            rotate_left
            · (intro w hw; (try have hcs := hcells w hw); (try go_split_ands); go_simp <;> with_reducible rfl)
            (try simp only [Act.put, List.setIfInBounds_toArray, List.set_cons_zero, List.set_cons_succ])
            refine QK.take HK ?_ (by rfl) ?_ ?_
            rotate_left
            · (intro w hw; (try have hcs := hcells w hw); (try go_split_ands); go_simp <;> with_reducible rfl)
            (try simp only [Act.put, List.setIfInBounds_toArray, List.set_cons_zero, List.set_cons_succ])
            refine QK.take HK ?_ (by rfl) ?_ ?_
            rotate_left
            · (intro w hw; (try have hcs := hcells w hw); (try go_split_ands); go_simp <;> with_reducible rfl)
            (try simp only [Act.put, List.setIfInBounds_toArray, List.set_cons_zero, List.set_cons_succ])
            refine QK.take HK ?_ (by rfl) ?_ ?_
            rotate_left
            · (intro w hw; (try have hcs := hcells w hw); (try go_split_ands); go_simp <;> with_reducible rfl)
            (try simp only [Act.put, List.setIfInBounds_toArray, List.set_cons_zero, List.set_cons_succ])
            refine QK.take HK ?_ (by rfl) ?_ ?_
            rotate_left
            · (intro w hw; (try have hcs := hcells w hw); (try go_split_ands); go_simp <;> with_reducible rfl)
            (try simp only [Act.put, List.setIfInBounds_toArray, List.set_cons_zero, List.set_cons_succ])
            refine QK.take HK ?_ (by rfl) ?_ ?_
            rotate_left
            · (intro w hw; (try have hcs := hcells w hw); (try go_split_ands); go_simp <;> with_reducible rfl)
            (try simp only [Act.put, List.setIfInBounds_toArray, List.set_cons_zero, List.set_cons_succ])
            refine QK.take HK ?_ (by rfl) ?_ ?_
            rotate_left
            · (intro w hw; (try have hcs := hcells w hw); (try go_split_ands); go_simp <;> with_reducible rfl)
            (try simp only [Act.put, List.setIfInBounds_toArray, List.set_cons_zero, List.set_cons_succ])
            refine QK.take HK ?_ (by rfl) ?_ ?_
            rotate_left
            · (intro w hw; (try have hcs := hcells w hw); (try go_split_ands); go_simp <;> with_reducible rfl)
            (try simp only [Act.put, List.setIfInBounds_toArray, List.set_cons_zero, List.set_cons_succ])
            refine QK.take HK ?_ (by rfl) ?_ ?_
            rotate_left
            · (intro w hw; (try have hcs := hcells w hw); (try go_split_ands); go_simp <;> with_reducible rfl)
            (try simp only [Act.put, List.setIfInBounds_toArray, List.set_cons_zero, List.set_cons_succ])
            refine QK.take HK ?_ (by rfl) ?_ ?_
            rotate_left
            · (intro w hw; (try have hcs := hcells w hw); (try go_split_ands); go_simp <;> with_reducible rfl)
            (try simp only [Act.put, List.setIfInBounds_toArray, List.set_cons_zero, List.set_cons_succ])
            refine QK.take HK ?_ (by rfl) ?_ ?_
            rotate_left
            · (intro w hw; (try have hcs := hcells w hw); (try go_split_ands); go_simp <;> with_reducible rfl)
            (try simp only [Act.put, List.setIfInBounds_toArray, List.set_cons_zero, List.set_cons_succ])
            refine QK.take HK ?_ (by rfl) ?_ ?_
            rotate_left
            · (intro w hw; (try have hcs := hcells w hw); (try go_split_ands); go_simp <;> with_reducible rfl)
            (try simp only [Act.put, List.setIfInBounds_toArray, List.set_cons_zero, List.set_cons_succ])
            refine QK.take HK ?_ (by rfl) ?_ ?_
            rotate_left
            · (intro w hw; (try have hcs := hcells w hw); (try go_split_ands); go_simp <;> with_reducible rfl)
            (try simp only [Act.put, List.setIfInBounds_toArray, List.set_cons_zero, List.set_cons_succ])
            refine QK.take HK ?_ (by rfl) ?_ ?_
            rotate_left
            · (intro w hw; (try have hcs := hcells w hw); (try go_split_ands); go_simp <;> with_reducible rfl)
            (try simp only [Act.put, List.setIfInBounds_toArray, List.set_cons_zero, List.set_cons_succ])
            refine QK.take HK ?_ (by rfl) ?_ ?_
            rotate_left
            · (intro w hw; (try have hcs := hcells w hw); (try go_split_ands); go_simp <;> with_reducible rfl)
            (try simp only [Act.put, List.setIfInBounds_toArray, List.set_cons_zero, List.set_cons_succ])
            refine QK.take HK ?_ (by rfl) ?_ ?_
            rotate_left
            · (intro w hw; (try have hcs := hcells w hw); (try go_split_ands); go_simp <;> with_reducible rfl)
            (try simp only [Act.put, List.setIfInBounds_toArray, List.set_cons_zero, List.set_cons_succ])
            refine QK.take HK ?_ (by rfl) ?_ ?_
            rotate_left
            · (intro w hw; (try have hcs := hcells w hw); (try go_split_ands); go_simp <;> with_reducible rfl)
            (try simp only [Act.put, List.setIfInBounds_toArray, List.set_cons_zero, List.set_cons_succ])
            refine QK.take HK ?_ (by rfl) ?_ ?_
            rotate_left
            · (intro w hw; (try have hcs := hcells w hw); (try go_split_ands); go_simp <;> with_reducible rfl)
            (try simp only [Act.put, List.setIfInBounds_toArray, List.set_cons_zero, List.set_cons_succ])
            refine QK.take HK ?_ (by rfl) ?_ ?_
            rotate_left
            · (intro w hw; (try have hcs := hcells w hw); (try go_split_ands); go_simp <;> with_reducible rfl)
            (try simp only [Act.put, List.setIfInBounds_toArray, List.set_cons_zero, List.set_cons_succ])
            refine QK.callC HK fs #[.int .i64 x, .int .i64 y] (.bool false) hcl (by rfl) (fun w => by go_simp) (fun w hw => CS w (hG1 w (hgr w hw))) ?_
            (try simp only [Act.put, List.setIfInBounds_toArray, List.set_cons_zero, List.set_cons_succ])
            refine QK.take HK ?_ (by rfl) ?_ ?_
            rotate_left
            · (intro w hw; (try have hcs := hcells w hw); (try go_split_ands); go_simp <;> with_reducible rfl)
            (try simp only [Act.put, List.setIfInBounds_toArray, List.set_cons_zero, List.set_cons_succ])
            refine QK.nil HK ?_
            clear HK K
            intro wq hq
            have hgq := hgr wq hq
            clear hcells hin hcl hgr hq hP hd1 hS2 ca cb CS hG1 hnS hE er er2 er3 er4 hjq hqr3
            have HQ : Hid (IsGr wO wq) := HJ.out.1.trans hgq
            have hJq : J pre wq := hJ _ _ _ HR.out.2.2.2.1 HQ.out
            have hPq : Hid (PcH0 ad0 g o n c Bl Bs fs L H wq) := hG _ _ HR.out.2.2.2.2 HQ.out
            have hjc : (j : Int) ≤ (cc : Int) := by omega
            have hjr' : (j : Int) ≤ (r : Int) := by omega
            have hYq : YieldAt Fence.wide (m - 1) Try.prog l #[.slice (some ⟨g, o + a, none⟩) j cc] wq fun e W' => (e = .returned (.bool true) ∧ J (pre ++ [(a, j)]) W' ∧ KpZ Z wq W') ∨ (e = .returned (.bool false) ∧ Jx (pre ++ [(a, j)]) W' ∧ KpZ Z wq W') := by
              have := hY (m - 1) pre (a, j) wq hJq ⟨HR.out.2.2.1, HPc.out⟩
              unfold pcV at this
              simp only at this
              rw [HC.out.2] at this
              exact this
            obtain ⟨fn, tmps, assign, body, hy, hR⟩ := hYq
            clear hgq HJ hJq
            gi_wp2
            refine ⟨fun h => (by cases h), ?_⟩
            refine hR.mono ?_
            clear hR
            rintro e w3 (⟨rfl, hj3, hkp⟩ | ⟨rfl, hj3, hkp⟩)
            · have H3 : Hid (Chn k L 0 (pre ++ [(a, j)]) (a + j) ∧ J (pre ++ [(a, j)]) w3 ∧ PcH0 ad0 g o n c Bl Bs fs L H w3) := ⟨HR.out.2.2.1.snoc HPc.out, hj3, hZ _ _ hPq.out hkp⟩
              clear hj3 hkp HR hPq HQ hy
              by_cases hcj : cc = j
              · obtain rfl : r = j := by omega
                subst hcj
                gi_wp2
                go_roundw
                case rel => exact ⟨a + cc, _, _, by congr 1 <;> (have := HC.out; have := HA.out; omega), fun h => by have := HA.out; omega, by have := HA.out; omega, H3.out⟩
                case measure => have := HA.out; simp; omega
              · gi_wp2
                go_roundw
                case rel => exact ⟨a + j, _, _, by congr 1 <;> (have := HC.out; have := HA.out; omega), fun h => by rw [Nat.add_assoc], by have := HA.out; omega, H3.out⟩
                case measure => have := HA.out; simp; omega
            · have H3 : Hid (Chn k L 0 (pre ++ [(a, j)]) (a + j)) := HR.out.2.2.1.snoc HPc.out
              gi_wp2
              exact bodyPost_ret (v := .tuple #[]) (by simp [results, Try.results33, go_sem]) rfl ⟨⟨_, rfl⟩, Or.inr ⟨_, ⟨_, H3.out⟩, hj3⟩⟩


set_option maxRecDepth 100000 in
set_option maxHeartbeats 2000000 in
theorem pieces_in1 {k : Int → Int} {fs Bo : Nat} {H : World → Prop} (hS : SameF1 k fs Bo H) (ad0 : Option Addr) (g o n c Bl Bs m : Nat) (L : List Int) (Z : List Nat) (W0 : World) (h0 : PcH1 ad0 g o n c Bl Bs fs Bo L H W0)
    (hG : ∀ A B, PcH1 ad0 g o n c Bl Bs fs Bo L H A → IsGr A B → PcH1 ad0 g o n c Bl Bs fs Bo L H B) (hZ : ∀ A B, PcH1 ad0 g o n c Bl Bs fs Bo L H A → KpZ Z A B → PcH1 ad0 g o n c Bl Bs fs Bo L H B)
    (had : 0 < n → ad0 = some ⟨g, o, none⟩) (hl : L.length = n) (hc : n ≤ c) (hi : ∀ x ∈ L, I64 x) (hn : n ≤ 1000) :
    SeqT Fence.wide m Try.prog 33 #[.pointer (some ⟨Bl, 0, none⟩), .pointer (some ⟨Bs, 0, none⟩)] (fun x : Nat × Nat => #[pcV g o c x]) IsGr (KpZ Z) (fun pre x => Chn k L 0 pre x.1 ∧ PcAt k L x.1 x.2) (fun xs _ => Chn k L 0 xs n) (fun xs _ => ∃ b, Chn k L 0 xs b) W0 := by
  intro l J Jx hJ hJx hY hJ0
  have HH : Hid (L.length = n ∧ n ≤ c ∧ (∀ x ∈ L, I64 x) ∧ n ≤ 1000) := ⟨hl, hc, hi, hn⟩
  refine callsIn_of_wp Try.func33 rfl trivial ?_ rfl
  simp only [Try.ntmps33, List.size_toArray, List.length_cons, List.length_nil, Nat.reduceAdd, Nat.reduceSub, Array.replicate_succ, Array.replicate_zero, List.push_toArray, List.append_toArray, List.nil_append, List.cons_append]
  obtain ⟨q1, q2, q3, q4⟩ := h0
  gi_wp2
  gi_loopw [4] (fun p4 wr => ∃ (a : Nat) (pre : List (Nat × Nat)) (ad : Option Addr), p4 = .slice ad (n - a) (c - a) ∧ Hid ((a < n → ad = some ⟨g, o + a, none⟩) ∧ a ≤ n ∧ Chn k L 0 pre a ∧ J pre wr ∧ PcH1 ad0 g o n c Bl Bs fs Bo L H wr)) (fun p4 _ => match p4 with | .slice _ r _ => r | _ => 0)
  case atStart => exact ⟨0, [], _, rfl, had, Nat.zero_le _, rfl, hJ0, ⟨q1, q2, q3, q4⟩⟩
  case round =>
    obtain ⟨a, pre, ad, rfl, HR⟩ := hrel
    clear q1 q2 q3 q4 hJ0
    obtain ⟨r, hr⟩ : ∃ r, n - a = r := ⟨_, rfl⟩
    obtain ⟨cc, hcc⟩ : ∃ r, c - a = r := ⟨_, rfl⟩
    have HC : Hid (n - a = r ∧ c - a = cc) := ⟨hr, hcc⟩
    have han := HR.out.2.1
    have hrc : r ≤ cc := by omega
    have hr9 : r ≤ 1000 := by omega
    rw [hr, hcc]
    by_cases hr0 : r = 0
    · subst hr0
      have HE : Hid (Chn k L 0 pre n) := by have := HR.out.2.2.1; rwa [show a = n by omega] at this
      have HJ := HR.out.2.2.2.1
      clear hr hcc han hrc hr9
      gi_wp2
      go_end0
      exact ⟨⟨_, rfl⟩, Or.inl ⟨pre, HE.out, HJ⟩⟩
    · obtain rfl := HR.out.1 (by omega)
      have hr1 : 0 < r := by omega
      obtain ⟨wO, hwO⟩ : ∃ W, W = wr := ⟨_, rfl⟩
      subst hwO
      have HA : Hid (a + r = n ∧ 0 < r ∧ r ≤ cc ∧ r ≤ 1000) := ⟨by omega, hr1, hrc, hr9⟩
      clear hr hcc han hr0
      gi_wp2
      gi_loopw [5] (fun p5 w2 => ∃ j : Nat, p5 = .int .i64 j ∧ 0 < j ∧ j ≤ r ∧ Hid (IsGr wO w2 ∧ ∀ i, a ≤ i → i + 1 < a + j → k (L.getD i 0) = k (L.getD (i + 1) 0))) (fun p5 _ => r - (intOf p5).toNat)
      case atStart => exact ⟨1, rfl, by omega, by omega, IsGr.refl _, fun i h1 h2 => by omega⟩
      case round =>
        obtain ⟨j, rfl, hj0, hjr, HJ⟩ := hrel
        have hP := hG _ _ HR.out.2.2.2.2 HJ.out.1
        by_cases hjr2 : j = r
        · have HPc : Hid (PcAt k L a j) := ⟨hj0, by rw [HH.out.1]; have := HA.out; omega, HJ.out.2, fun h => by rw [HH.out.1] at h; have := HA.out; omega⟩
          gi_upto_region 3 with fail
          refine wpIn_wide.2 ?_
          have hd1 : decide (j < r) = false := decide_eq_false (by omega)
          have hd2 : ¬ (j : Int) < (r : Int) := by omega
          have HJR : Hid (j = r) := hjr2
          clear hjr2
          obtain ⟨C, hin, hcl, hcells, hgr⟩ : ∃ C : World → Prop, (∀ w', IsGr wr w' → C w') ∧ (∀ u u', C u → IsGr u u' → C u') ∧ (∀ w', C w' → True) ∧ (∀ w', C w' → IsGr wr w') := ⟨fun w' => IsGr wr w', fun _ h => h, fun _ _ h k => h.trans k, fun w' hg => trivial, fun _ h => h⟩
          refine wp_region_quietV C (by kernel_rfl) (by kernel_rfl) (hin _ (by with_reducible repeat (first | exact IsGr.refl _ | refine IsGr.gr ?_ _ _ | refine IsGr.alloc ?_ _ | refine IsGr.drew ?_ | refine IsGr.drewN ?_ _))) (fun K HK => ?_)
          refine QK.take HK ?_ (by rfl) ?_ ?_
          rotate_left
          · (intro w hw; (try have hcs := hcells w hw); (try go_split_ands); go_simp <;> with_reducible rfl)
          (try simp only [Act.put, List.setIfInBounds_toArray, List.set_cons_zero, List.set_cons_succ])
          refine QK.take HK ?_ (by rfl) ?_ ?_
          rotate_left
          · (intro w hw; (try have hcs := hcells w hw); (try go_split_ands); go_simp <;> with_reducible rfl)
          (try simp only [Act.put, List.setIfInBounds_toArray, List.set_cons_zero, List.set_cons_succ])
          refine QK.take HK ?_ (by rfl) ?_ ?_
          rotate_left
          · (intro w hw; (try have hcs := hcells w hw); (try go_split_ands); go_simp <;> with_reducible rfl)
          (try simp only [Act.put, List.setIfInBounds_toArray, List.set_cons_zero, List.set_cons_succ])
          refine QK.take HK ?_ (by rfl) ?_ ?_
          rotate_left
          · (intro w hw; (try have hcs := hcells w hw); (try go_split_ands); go_simp <;> with_reducible rfl)
          (try simp only [Act.put, List.setIfInBounds_toArray, List.set_cons_zero, List.set_cons_succ])
          refine QK.take HK ?_ (by rfl) ?_ ?_
          rotate_left
          · (intro w hw; (try have hcs := hcells w hw); (try go_split_ands); go_simp <;> with_reducible rfl)
          (try simp only [Act.put, List.setIfInBounds_toArray, List.set_cons_zero, List.set_cons_succ])
          refine QK.skip HK (by rfl) ?_
          (try simp only [Act.put, List.setIfInBounds_toArray, List.set_cons_zero, List.set_cons_succ])
          refine QK.skip HK (by rfl) ?_
          (try simp only [Act.put, List.setIfInBounds_toArray, List.set_cons_zero, List.set_cons_succ])
          refine QK.take HK ?_ (by rfl) ?_ ?_
          rotate_left
          · (intro w hw; (try have hcs := hcells w hw); (try go_split_ands); go_simp <;> with_reducible rfl)
          (try simp only [Act.put, List.setIfInBounds_toArray, List.set_cons_zero, List.set_cons_succ])
          refine QK.take HK ?_ (by rfl) ?_ ?_
          rotate_left
          · (intro w hw; (try have hcs := hcells w hw); (try go_split_ands); go_simp <;> with_reducible rfl)
          (try simp only [Act.put, List.setIfInBounds_toArray, List.set_cons_zero, List.set_cons_succ])
          refine QK.skip HK (by rfl) ?_
          (try simp only [Act.put, List.setIfInBounds_toArray, List.set_cons_zero, List.set_cons_succ])
          refine QK.skip HK (by rfl) ?_
          (try simp only [Act.put, List.setIfInBounds_toArray, List.set_cons_zero, List.set_cons_succ])
          refine QK.skip HK (by rfl) ?_
          (try simp only [Act.put, List.setIfInBounds_toArray, List.set_cons_zero, List.set_cons_succ])
          refine QK.skip HK (by rfl) ?_
          (try simp only [Act.put, List.setIfInBounds_toArray, List.set_cons_zero, List.set_cons_succ])
          refine QK.skip HK (by rfl) ?_
          (try simp only [Act.put, List.setIfInBounds_toArray, List.set_cons_zero, List.set_cons_succ])
          refine QK.skip HK (by rfl) ?_
          (try simp only [Act.put, List.setIfInBounds_toArray, List.set_cons_zero, List.set_cons_succ])
          refine QK.skip HK (by rfl) ?_
          (try simp only [Act.put, List.setIfInBounds_toArray, List.set_cons_zero, List.set_cons_succ])
          refine QK.skip HK (by rfl) ?_
          (try simp only [Act.put, List.setIfInBounds_toArray, List.set_cons_zero, List.set_cons_succ])
          refine QK.skip HK (by rfl) ?_
          (try simp only [Act.put, List.setIfInBounds_toArray, List.set_cons_zero, List.set_cons_succ])
          refine QK.skip HK (by rfl) ?_
          (try simp only [Act.put, List.setIfInBounds_toArray, List.set_cons_zero, List.set_cons_succ])
          refine QK.skip HK (by rfl) ?_
          (try simp only [Act.put, List.setIfInBounds_toArray, List.set_cons_zero, List.set_cons_succ])
          refine QK.take HK ?_ (by rfl) ?_ ?_
          rotate_left
          · (intro w hw; (try have hcs := hcells w hw); (try go_split_ands); go_simp <;> with_reducible rfl)
          (try simp only [Act.put, List.setIfInBounds_toArray, List.set_cons_zero, List.set_cons_succ])
          refine QK.nil HK ?_
          clear HK K
          intro wq hq
          have hgq := hgr wq hq
          clear hcells hin hcl hgr hq hP hd1 hd2
          have HQ : Hid (IsGr wO wq) := HJ.out.1.trans hgq
          have hJq : J pre wq := hJ _ _ _ HR.out.2.2.2.1 HQ.out
          have hPq : Hid (PcH1 ad0 g o n c Bl Bs fs Bo L H wq) := hG _ _ HR.out.2.2.2.2 HQ.out
          have hjc : (j : Int) ≤ (cc : Int) := by omega
          have hjr' : (j : Int) ≤ (r : Int) := by omega
          have hYq : YieldAt Fence.wide (m - 1) Try.prog l #[.slice (some ⟨g, o + a, none⟩) j cc] wq fun e W' => (e = .returned (.bool true) ∧ J (pre ++ [(a, j)]) W' ∧ KpZ Z wq W') ∨ (e = .returned (.bool false) ∧ Jx (pre ++ [(a, j)]) W' ∧ KpZ Z wq W') := by
            have := hY (m - 1) pre (a, j) wq hJq ⟨HR.out.2.2.1, HPc.out⟩
            unfold pcV at this
            simp only at this
            rw [HC.out.2] at this
            exact this
          obtain ⟨fn, tmps, assign, body, hy, hR⟩ := hYq
          clear hgq HJ hJq
          gi_wp2
          refine ⟨fun h => (by cases h), ?_⟩
          refine hR.mono ?_
          clear hR
          rintro e w3 (⟨rfl, hj3, hkp⟩ | ⟨rfl, hj3, hkp⟩)
          · have H3 : Hid (Chn k L 0 (pre ++ [(a, j)]) (a + j) ∧ J (pre ++ [(a, j)]) w3 ∧ PcH1 ad0 g o n c Bl Bs fs Bo L H w3) := ⟨HR.out.2.2.1.snoc HPc.out, hj3, hZ _ _ hPq.out hkp⟩
            clear hj3 hkp HR hPq HQ hy
            by_cases hcj : cc = j
            · obtain rfl : r = j := by omega
              subst hcj
              gi_wp2
              go_roundw
              case rel => exact ⟨a + cc, _, _, by congr 1 <;> (have := HC.out; have := HA.out; omega), fun h => by have := HA.out; omega, by have := HA.out; omega, H3.out⟩
              case measure => have := HA.out; simp; omega
            · gi_wp2
              go_roundw
              case rel => exact ⟨a + j, _, _, by congr 1 <;> (have := HC.out; have := HA.out; omega), fun h => by rw [Nat.add_assoc], by have := HA.out; omega, H3.out⟩
              case measure => have := HA.out; simp; omega
          · have H3 : Hid (Chn k L 0 (pre ++ [(a, j)]) (a + j)) := HR.out.2.2.1.snoc HPc.out
            gi_wp2
            exact bodyPost_ret (v := .tuple #[]) (by simp [results, Try.results33, go_sem]) rfl ⟨⟨_, rfl⟩, Or.inr ⟨_, ⟨_, H3.out⟩, hj3⟩⟩
        · obtain ⟨q, hq⟩ : ∃ q, j - 1 = q := ⟨_, rfl⟩
          have hS2 := hP.same
          have ca := hP.cells (a + q) (by have := HA.out; omega)
          have cb := hP.cells (a + j) (by have := HA.out; omega)
          have ha64 := getD_ints HH.out.2.2.1 (i := a + q) (by rw [HH.out.1]; have := HA.out; omega)
          have hb64 := getD_ints HH.out.2.2.1 (i := a + j) (by rw [HH.out.1]; have := HA.out; omega)
          have CS := fun W h => hS.2 _ _ W ha64 hb64 h
          have hG1 := fun w' (hg : IsGr wr w') => (hG _ _ hP hg).held
          obtain ⟨x, hx⟩ : ∃ x, L.getD (a + q) 0 = x := ⟨_, rfl⟩
          obtain ⟨y, hy⟩ : ∃ x, L.getD (a + j) 0 = x := ⟨_, rfl⟩
          have HX : Hid (L.getD (a + q) 0 = x ∧ L.getD (a + j) 0 = y ∧ j - 1 = q ∧ 0 < j ∧ j < r) := ⟨hx, hy, hq, hj0, by omega⟩
          rw [hx] at ca
          rw [hy] at cb
          simp only [hx, hy] at CS
          have hjq : (j : Int) - 1 = (q : Int) := by omega
          have er : IntKind.i64.wrap ((j : Int) - 1) = (q : Int) := by rw [IntKind.wrap_i64]; omega
          have er2 : IntKind.i64.wrap (q : Int) = (q : Int) := by rw [IntKind.wrap_i64]; omega
          have er3 : IntKind.i64.wrap (j : Int) = (j : Int) := by rw [IntKind.wrap_i64]; omega
          have er4 : IntKind.i64.wrap ((j : Int) + 1) = ((j : Int) + 1) := by rw [IntKind.wrap_i64]; omega
          have hjr3 : (j : Int) < (r : Int) := by omega
          have hqr3 : (q : Int) < (r : Int) := by omega
          have hnS := fun w => nilS1 fs Bo w
          have hE : ∀ args w, (callFunc fs args).run Try.prog w = .ok (.enter fs args) w := hS.1
          rw [← Nat.add_assoc] at ca cb
          clear hx hy hq ha64 hb64 hjr2
          obtain ⟨b, hb⟩ : ∃ b, decide (k x = k y) = b := ⟨_, rfl⟩
          have HB : Hid (decide (k x = k y) = b) := hb
          simp only [hb] at CS
          clear hb
          cases b with
          | true =>
            gi_upto_region 3 with fail
            refine wpIn_wide.2 ?_
            have hd1 : decide (j < r) = true := decide_eq_true (by have := HX.out; omega)
            obtain ⟨C, hin, hcl, hcells, hgr⟩ : ∃ C : World → Prop, (∀ w', IsGr wr w' → C w') ∧ (∀ u u', C u → IsGr u u' → C u') ∧ (∀ w', C w' → (w'.cell? ⟨Bs, 0, none⟩ = some (.func (.func fs) #[] #[.pointer (some ⟨Bo, 0, none⟩)])) ∧ (w'.cell? ⟨g, o + a + q, none⟩ = some (.int .i64 x)) ∧ (w'.cell? ⟨g, o + a + j, none⟩ = some (.int .i64 y))) ∧ (∀ w', C w' → IsGr wr w') := ⟨fun w' => IsGr wr w', fun _ h => h, fun _ _ h k => h.trans k, fun w' hg => ⟨cellk hS2 hg, cellk ca hg, cellk cb hg⟩, fun _ h => h⟩
            refine wp_region_quietV C (by kernel_rfl) (by kernel_rfl) (hin _ (by with_reducible repeat (first | exact IsGr.refl _ | refine IsGr.gr ?_ _ _ | refine IsGr.alloc ?_ _ | refine IsGr.drew ?_ | refine IsGr.drewN ?_ _))) (fun K HK => ?_)
            refine QK.take HK ?_ (by rfl) ?_ ?_
            rotate_left
            · (intro w hw; (try have hcs := hcells w hw); (try go_split_ands); go_simp <;> with_reducible rfl)
            (try simp only [Act.put, List.setIfInBounds_toArray, List.set_cons_zero, List.set_cons_succ])
            refine QK.take HK ?_ (by rfl) ?_ ?_
            rotate_left
            · (intro w hw; (try have hcs := hcells w hw); (try go_split_ands); go_simp <;> with_reducible rfl)
            (try simp only [Act.put, List.setIfInBounds_toArray, List.set_cons_zero, List.set_cons_succ])
            refine QK.take HK ?_ (by rfl) ?_ ?_
            rotate_left
            · (intro w hw; (try have hcs := hcells w hw); (try go_split_ands); go_simp <;> with_reducible rfl)
            (try simp only [Act.put, List.setIfInBounds_toArray, List.set_cons_zero, List.set_cons_succ])
            refine QK.take HK ?_ (by rfl) ?_ ?_
            rotate_left
            · (intro w hw; (try have hcs := hcells w hw); (try go_split_ands); go_simp <;> with_reducible rfl)
            (try simp only [Act.put, List.setIfInBounds_toArray, List.set_cons_zero, List.set_cons_succ])
            refine QK.take HK ?_ (by rfl) ?_ ?_
            rotate_left
            · (intro w hw; (try have hcs := hcells w hw); (try go_split_ands); go_simp <;> with_reducible rfl)
            (try simp only [Act.put, List.setIfInBounds_toArray, List.set_cons_zero, List.set_cons_succ])
            refine QK.take HK ?_ (by rfl) ?_ ?_
            rotate_left
            · (intro w hw; (try have hcs := hcells w hw); (try go_split_ands); go_simp <;> with_reducible rfl)
            (try simp only [Act.put, List.setIfInBounds_toArray, List.set_cons_zero, List.set_cons_succ])
            refine QK.take HK ?_ (by rfl) ?_ ?_
            rotate_left
            · (intro w hw; (try have hcs := hcells w hw); (try go_split_ands); go_simp <;> with_reducible rfl)
            (try simp only [Act.put, List.setIfInBounds_toArray, List.set_cons_zero, List.set_cons_succ])
            refine QK.take HK ?_ (by rfl) ?_ ?_
            rotate_left
            · (intro w hw; (try have hcs := hcells w hw); (try go_split_ands); go_simp <;> with_reducible rfl)
            (try simp only [Act.put, List.setIfInBounds_toArray, List.set_cons_zero, List.set_cons_succ])
            refine QK.take HK ?_ (by rfl) ?_ ?_
            rotate_left
            · (intro w hw; (try have hcs := hcells w hw); (try go_split_ands); go_simp <;> with_reducible rfl)
            (try simp only [Act.put, List.setIfInBounds_toArray, List.set_cons_zero, List.set_cons_succ])
            refine QK.take HK ?_ (by rfl) ?_ ?_
            rotate_left
            · (intro w hw; (try have hcs := hcells w hw); (try go_split_ands); go_simp <;> with_reducible rfl)
            (try simp only [Act.put, List.setIfInBounds_toArray, List.set_cons_zero, List.set_cons_succ])
            refine QK.take HK ?_ (by rfl) ?_ ?_
            rotate_left
            · (intro w hw; (try have hcs := hcells w hw); (try go_split_ands); go_simp <;> with_reducible rfl)
            (try simp only [Act.put, List.setIfInBounds_toArray, List.set_cons_zero, List.set_cons_succ])
            refine QK.take HK ?_ (by rfl) ?_ ?_
            rotate_left
            · (intro w hw; (try have hcs := hcells w hw); (try go_split_ands); go_simp <;> with_reducible rfl)
            (try simp only [Act.put, List.setIfInBounds_toArray, List.set_cons_zero, List.set_cons_succ])
            refine QK.take HK ?_ (by rfl) ?_ ?_
            rotate_left
            · (intro w hw; (try have hcs := hcells w hw); (try go_split_ands); go_simp <;> with_reducible rfl)
            (try simp only [Act.put, List.setIfInBounds_toArray, List.set_cons_zero, List.set_cons_succ])
            refine QK.take HK ?_ (by rfl) ?_ ?_
            rotate_left
            · (intro w hw; (try have hcs := hcells w hw); (try go_split_ands); go_simp <;> with_reducible rfl)
            (try simp only [Act.put, List.setIfInBounds_toArray, List.set_cons_zero, List.set_cons_succ])
            refine QK.take HK ?_ (by rfl) ?_ ?_
            rotate_left
            · (intro w hw; (try have hcs := hcells w hw); (try go_split_ands); go_simp <;> with_reducible rfl)
            (try simp only [Act.put, List.setIfInBounds_toArray, List.set_cons_zero, List.set_cons_succ])
            refine QK.take HK ?_ (by rfl) ?_ ?_
            rotate_left
            · (intro w hw; (try have hcs := hcells w hw); (try go_split_ands); go_simp <;> with_reducible rfl)
            (try simp only [Act.put, List.setIfInBounds_toArray, List.set_cons_zero, List.set_cons_succ])
            refine QK.take HK ?_ (by rfl) ?_ ?_
            rotate_left
            · (intro w hw; (try have hcs := hcells w hw); (try go_split_ands); go_simp <;> with_reducible rfl)
            (try simp only [Act.put, List.setIfInBounds_toArray, List.set_cons_zero, List.set_cons_succ])
            refine QK.take HK ?_ (by rfl) ?_ ?_
            rotate_left
            · (intro w hw; (try have hcs := hcells w hw); (try go_split_ands); go_simp <;> with_reducible rfl)
            (try simp only [Act.put, List.setIfInBounds_toArray, List.set_cons_zero, List.set_cons_succ])
            refine QK.take HK ?_ (by rfl) ?_ ?_
            rotate_left
            · (intro w hw; (try have hcs := hcells w hw); (try go_split_ands); go_simp <;> with_reducible rfl)
            (try simp only [Act.put, List.setIfInBounds_toArray, List.set_cons_zero, List.set_cons_succ])
            refine QK.callC HK fs #[.int .i64 x, .int .i64 y, .pointer (some ⟨Bo, 0, none⟩)] (.bool true) hcl (by rfl) (fun w => by go_simp) (fun w hw => CS w (hG1 w (hgr w hw))) ?_
            (try simp only [Act.put, List.setIfInBounds_toArray, List.set_cons_zero, List.set_cons_succ])
            refine QK.take HK ?_ (by rfl) ?_ ?_
            rotate_left
            · (intro w hw; (try have hcs := hcells w hw); (try go_split_ands); go_simp <;> with_reducible rfl)
            (try simp only [Act.put, List.setIfInBounds_toArray, List.set_cons_zero, List.set_cons_succ])
            refine QK.nil HK ?_
            clear HK K
            intro wq hq
            have hgq := hgr wq hq
            clear hcells hin hcl hgr hq hP hd1 hS2 ca cb CS hG1 hnS hE er er2 er3 hjq
            gi_wp2
            go_roundw
            case rel =>
              refine ⟨j + 1, by simp, by omega, by omega, HJ.out.1.trans hgq, fun i h1 h2 => ?_⟩
              by_cases hi : i = a + q
              · have h3 := HX.out
                rw [hi, show a + q + 1 = a + j by omega, h3.1, h3.2.1]
                exact of_decide_eq_true HB.out
              · exact HJ.out.2 i h1 (by have := HX.out; omega)
            case measure => simp [intOf]; omega
          | false =>
            have HPc : Hid (PcAt k L a j) := ⟨hj0, by rw [HH.out.1]; have := HA.out; omega, HJ.out.2, fun h e => by
              have h1 := of_decide_eq_false HB.out
              have h2 := HX.out
              rw [show a + j - 1 = a + q by omega, h2.1, h2.2.1] at e
              exact h1 e⟩
            gi_upto_region 3 with fail
            refine wpIn_wide.2 ?_
            have hd1 : decide (j < r) = true := decide_eq_true (by have := HX.out; omega)
            obtain ⟨C, hin, hcl, hcells, hgr⟩ : ∃ C : World → Prop, (∀ w', IsGr wr w' → C w') ∧ (∀ u u', C u → IsGr u u' → C u') ∧ (∀ w', C w' → (w'.cell? ⟨Bs, 0, none⟩ = some (.func (.func fs) #[] #[.pointer (some ⟨Bo, 0, none⟩)])) ∧ (w'.cell? ⟨g, o + a + q, none⟩ = some (.int .i64 x)) ∧ (w'.cell? ⟨g, o + a + j, none⟩ = some (.int .i64 y))) ∧ (∀ w', C w' → IsGr wr w') := ⟨fun w' => IsGr wr w', fun _ h => h, fun _ _ h k => h.trans k, fun w' hg => ⟨cellk hS2 hg, cellk ca hg, cellk cb hg⟩, fun _ h => h⟩
            refine wp_region_quietV C (by kernel_rfl) (by kernel_rfl) (hin _ (by with_reducible repeat (first | exact IsGr.refl _ | refine IsGr.gr ?_ _ _ | refine IsGr.alloc ?_ _ | refine IsGr.drew ?_ | refine IsGr.drewN ?_ _))) (fun K HK => ?_)
            refine QK.take HK ?_ (by rfl) ?_ ?_
            rotate_left
            · (intro w hw; (try have hcs := hcells w hw); (try go_split_ands); go_simp <;> with_reducible rfl)
            (try simp only [Act.put, List.setIfInBounds_toArray, List.set_cons_zero, List.set_cons_succ])
            refine QK.take HK ?_ (by rfl) ?_ ?_
            rotate_left
            · (intro w hw; (try have hcs := hcells w hw); (try go_split_ands); go_simp <;> with_reducible rfl)
            (try simp only [Act.put, List.setIfInBounds_toArray, List.set_cons_zero, List.set_cons_succ])
            refine QK.take HK ?_ (by rfl) ?_ ?_
            rotate_left
            · (intro w hw; (try have hcs := hcells w hw); (try go_split_ands); go_simp <;> with_reducible rfl)
            (try simp only [Act.put, List.setIfInBounds_toArray, List.set_cons_zero, List.set_cons_succ])
            refine QK.take HK ?_ (by rfl) ?_ ?_
            rotate_left
            · (intro w hw; (try have hcs := hcells w hw); (try go_split_ands); go_simp <;> with_reducible rfl)
            (try simp only [Act.put, List.setIfInBounds_toArray, List.set_cons_zero, List.set_cons_succ])
            refine QK.take HK ?_ (by rfl) ?_ ?_
            rotate_left
            · (intro w hw; (try have hcs := hcells w hw); (try go_split_ands); go_simp <;> with_reducible rfl)
            (try simp only [Act.put, List.setIfInBounds_toArray, List.set_cons_zero, List.set_cons_succ])
            refine QK.take HK ?_ (by rfl) ?_ ?_
            rotate_left
            · (intro w hw; (try have hcs := hcells w hw); (try go_split_ands); go_simp <;> with_reducible rfl)
            (try simp only [Act.put, List.setIfInBounds_toArray, List.set_cons_zero, List.set_cons_succ])
            refine QK.take HK ?_ (by rfl) ?_ ?_
            rotate_left
            · (intro w hw; (try have hcs := hcells w hw); (try go_split_ands); go_simp <;> with_reducible rfl)
            (try simp only [Act.put, List.setIfInBounds_toArray, List.set_cons_zero, List.set_cons_succ])
            refine QK.take HK ?_ (by rfl) ?_ ?_
            rotate_left
            · (intro w hw; (try have hcs := hcells w hw); (try go_split_ands); go_simp <;> with_reducible rfl)
            (try simp only [Act.put, List.setIfInBounds_toArray, List.set_cons_zero, List.set_cons_succ])
            refine QK.take HK ?_ (by rfl) ?_ ?_
            rotate_left
            · (intro w hw; (try have hcs := hcells w hw); (try go_split_ands); go_simp <;> with_reducible rfl)
            (try simp only [Act.put, List.setIfInBounds_toArray, List.set_cons_zero, List.set_cons_succ])
            refine QK.take HK ?_ (by rfl) ?_ ?_
            rotate_left
            · (intro w hw; (try have hcs := hcells w hw); (try go_split_ands); go_simp <;> with_reducible rfl)
            (try simp only [Act.put, List.setIfInBounds_toArray, List.set_cons_zero, List.set_cons_succ])
            refine QK.take HK ?_ (by rfl) ?_ ?_
            rotate_left
            · (intro w hw; (try have hcs := hcells w hw); (try go_split_ands); go_simp <;> with_reducible rfl)
            (try simp only [Act.put, List.setIfInBounds_toArray, List.set_cons_zero, List.set_cons_succ])
            refine QK.take HK ?_ (by rfl) ?_ ?_
            rotate_left
            · (intro w hw; (try have hcs := hcells w hw); (try go_split_ands); go_simp <;> with_reducible rfl)
            (try simp only [Act.put, List.setIfInBounds_toArray, List.set_cons_zero, List.set_cons_succ])
            refine QK.take HK ?_ (by rfl) ?_ ?_
            rotate_left
            · (intro w hw; (try have hcs := hcells w hw); (try go_split_ands); go_simp <;> with_reducible rfl)
            (try simp only [Act.put, List.setIfInBounds_toArray, List.set_cons_zero, List.set_cons_succ])
            refine QK.take HK ?_ (by rfl) ?_ ?_
            rotate_left
            · (intro w hw; (try have hcs := hcells w hw); (try go_split_ands); go_simp <;> with_reducible rfl)
            (try simp only [Act.put, List.setIfInBounds_toArray, List.set_cons_zero, List.set_cons_succ])
            refine QK.take HK ?_ (by rfl) ?_ ?_
            rotate_left
            · (intro w hw; (try have hcs := hcells w hw); (try go_split_ands); go_simp <;> with_reducible rfl)
            (try simp only [Act.put, List.setIfInBounds_toArray, List.set_cons_zero, List.set_cons_succ])
            refine QK.take HK ?_ (by rfl) ?_ ?_
            rotate_left
            · (intro w hw; (try have hcs := hcells w hw); (try go_split_ands); go_simp <;> with_reducible rfl)
            (try simp only [Act.put, List.setIfInBounds_toArray, List.set_cons_zero, List.set_cons_succ])
            refine QK.take HK ?_ (by rfl) ?_ ?_
            rotate_left
            · (intro w hw; (try have hcs := hcells w hw); (try go_split_ands); go_simp <;> with_reducible rfl)
            (try simp only [Act.put, List.setIfInBounds_toArray, List.set_cons_zero, List.set_cons_succ])
            refine QK.take HK ?_ (by rfl) ?_ ?_
            rotate_left
            · (intro w hw; (try have hcs := hcells w hw); (try go_split_ands); go_simp <;> with_reducible rfl)
            (try simp only [Act.put, List.setIfInBounds_toArray, List.set_cons_zero, List.set_cons_succ])
            refine QK.take HK ?_ (by rfl) ?_ ?_
            rotate_left
            · (intro w hw; (try have hcs := hcells w hw); (try go_split_ands); go_simp <;> with_reducible rfl)
            (try simp only [Act.put, List.setIfInBounds_toArray, List.set_cons_zero, List.set_cons_succ])
            refine QK.callC HK fs #[.int .i64 x, .int .i64 y, .pointer (some ⟨Bo, 0, none⟩)] (.bool false) hcl (by rfl) (fun w => by go_simp) (fun w hw => CS w (hG1 w (hgr w hw))) ?_
            (try simp only [Act.put, List.setIfInBounds_toArray, List.set_cons_zero, List.set_cons_succ])
            refine QK.take HK ?_ (by rfl) ?_ ?_
            rotate_left
            · (intro w hw; (try have hcs := hcells w hw); (try go_split_ands); go_simp <;> with_reducible rfl)
            (try simp only [Act.put, List.setIfInBounds_toArray, List.set_cons_zero, List.set_cons_succ])
            refine QK.nil HK ?_
            clear HK K
            intro wq hq
            have hgq := hgr wq hq
            clear hcells hin hcl hgr hq hP hd1 hS2 ca cb CS hG1 hnS hE er er2 er3 er4 hjq hqr3
            have HQ : Hid (IsGr wO wq) := HJ.out.1.trans hgq
            have hJq : J pre wq := hJ _ _ _ HR.out.2.2.2.1 HQ.out
            have hPq : Hid (PcH1 ad0 g o n c Bl Bs fs Bo L H wq) := hG _ _ HR.out.2.2.2.2 HQ.out
            have hjc : (j : Int) ≤ (cc : Int) := by omega
            have hjr' : (j : Int) ≤ (r : Int) := by omega
            have hYq : YieldAt Fence.wide (m - 1) Try.prog l #[.slice (some ⟨g, o + a, none⟩) j cc] wq fun e W' => (e = .returned (.bool true) ∧ J (pre ++ [(a, j)]) W' ∧ KpZ Z wq W') ∨ (e = .returned (.bool false) ∧ Jx (pre ++ [(a, j)]) W' ∧ KpZ Z wq W') := by
              have := hY (m - 1) pre (a, j) wq hJq ⟨HR.out.2.2.1, HPc.out⟩
              unfold pcV at this
              simp only at this
              rw [HC.out.2] at this
              exact this
            obtain ⟨fn, tmps, assign, body, hy, hR⟩ := hYq
            clear hgq HJ hJq
            gi_wp2
            refine ⟨fun h => (by cases h), ?_⟩
            refine hR.mono ?_
            clear hR
            rintro e w3 (⟨rfl, hj3, hkp⟩ | ⟨rfl, hj3, hkp⟩)
            · have H3 : Hid (Chn k L 0 (pre ++ [(a, j)]) (a + j) ∧ J (pre ++ [(a, j)]) w3 ∧ PcH1 ad0 g o n c Bl Bs fs Bo L H w3) := ⟨HR.out.2.2.1.snoc HPc.out, hj3, hZ _ _ hPq.out hkp⟩
              clear hj3 hkp HR hPq HQ hy
              by_cases hcj : cc = j
              · obtain rfl : r = j := by omega
                subst hcj
                gi_wp2
                go_roundw
                case rel => exact ⟨a + cc, _, _, by congr 1 <;> (have := HC.out; have := HA.out; omega), fun h => by have := HA.out; omega, by have := HA.out; omega, H3.out⟩
                case measure => have := HA.out; simp; omega
              · gi_wp2
                go_roundw
                case rel => exact ⟨a + j, _, _, by congr 1 <;> (have := HC.out; have := HA.out; omega), fun h => by rw [Nat.add_assoc], by have := HA.out; omega, H3.out⟩
                case measure => have := HA.out; simp; omega
            · have H3 : Hid (Chn k L 0 (pre ++ [(a, j)]) (a + j)) := HR.out.2.2.1.snoc HPc.out
              gi_wp2
              exact bodyPost_ret (v := .tuple #[]) (by simp [results, Try.results33, go_sem]) rfl ⟨⟨_, rfl⟩, Or.inr ⟨_, ⟨_, H3.out⟩, hj3⟩⟩

end Go.Proofs.Ytblnpabgakmghaa
