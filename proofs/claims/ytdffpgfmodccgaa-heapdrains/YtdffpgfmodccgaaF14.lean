/- gromalaw06 over the loaded program: HeapTurned's law. -/
import Derived.Test.YtdffpgfmodccgaaF13
namespace Go.Proofs.Ytdffpgfmodccgaa
open Go.RowKit Go.Shelf
attribute [local go_sem] Oper.semAt_some
/-- The turned order's keys. -/
def kn (n : Int) : Int := -n
set_option maxHeartbeats 1000000 in
theorem turned1_any (a b : Int) (w : World) : Calls Try.prog 19 #[.int .i64 a, .int .i64 b] w fun e w' => e = .returned (.int .i64 (cmpI b a)) ∧ w' = w := by
  have CT := cmp_any b a w
  obtain ⟨d, hd⟩ : ∃ d, cmpI b a = d := ⟨_, rfl⟩
  rw [hd] at CT ⊢
  clear hd
  go_enter Try.func19, Try.ntmps19
  go_wp2_with fail
  refine CT.mono ?_
  rintro e w1 ⟨rfl, e2⟩
  obtain rfl := e2.symm
  go_wp2_with fail
  go_ret
  exact ⟨rfl, rfl⟩
theorem turned_ordr : Ordr 19 kn := ⟨enters_of Try.func19 (by kernel_rfl) rfl, fun a b w _ _ => (turned1_any a b w).mono fun _ _ ⟨h1, h2⟩ => ⟨_, (by have := cmpI_sg b a; unfold Sg kn at *; omega), h1, h2 ▸ IsGr.refl _⟩⟩
set_option maxRecDepth 100000 in
set_option maxHeartbeats 2000000 in
theorem law_turned_many (a : Option Addr) (n c : Nat) (w : World) (hn : 150 < n) :
    Calls Try.prog 6 #[.slice a n c] w fun e w' => e = .returned (.bool true) ∧ Below w.heap.size w w' := by
  have hn' : (150 : Int) < n := by omega
  refine (callsIn_wide (n := 9)).1 ?_
  refine callsIn_of_wp_marks Try.func6 rfl trivial ?_ rfl
  simp only [Try.ntmps6, List.size_toArray, List.length_cons, List.length_nil, Nat.reduceAdd, Nat.reduceSub, Array.replicate_succ, Array.replicate_zero, List.push_toArray, List.append_toArray, List.nil_append, List.cons_append]
  have cb := cell_new w (.bool false) 4
  have B1 : Below w.heap.size w (w.alloc (.cells #[.bool false] 4)) := ((IsGr.refl w).alloc _).below
  gi_wp2
  refine ⟨trivial, ?_⟩
  refine (callsIn_wide.2 (awake_any _)).mono ?_
  rintro e w2 ⟨rfl, h2⟩
  have cb2 := (h2.cell (p := ⟨w.heap.size, 0, none⟩) (by simp)).trans cb.1
  have fb2 := (h2.frozen (p := ⟨w.heap.size, 0, none⟩) (by simp)).trans cb.2
  clear cb
  gi_wp2
  have hc5 := cell_s (v := .bool true) cb2
  refine ⟨.bool true, ?_, rfl, (B1.trans (h2.mono B1.size)).setCell (p := ⟨w.heap.size, 0, none⟩) (Nat.le_refl _) _⟩
  simp [results, Try.f6, go_sem, hc5]
/-- What lies in the boxes of the last loop. -/
def SB (b : Nat) (pre : List I64x) (W : World) : Prop :=
  (W.cell? ⟨b, 0, none⟩ = some (.int .i64 (lastv pre)) ∧ W.frozen? ⟨b, 0, none⟩ = false) ∧ W.cell? ⟨b + 1, 0, none⟩ = some (.int .i64 pre.length) ∧ W.frozen? ⟨b + 1, 0, none⟩ = false
theorem SB.set1 {b : Nat} {pre : List I64x} {W : World} (h : SB b pre W) (x : I64x) : SB b (pre ++ [x]) ((W.setCell ⟨b, 0, none⟩ (.int .i64 x.1)).setCell ⟨b + 1, 0, none⟩ (.int .i64 ((pre.length : Int) + 1))) := by
  obtain ⟨⟨h0, f0⟩, h1, f1⟩ := h
  refine ⟨⟨?_, ?_⟩, ?_, ?_⟩
  · rw [cell_o _ _ _ (by omega), cell_s h0]; simp [lastv]
  · rw [World.frozen?_setCell, World.frozen?_setCell]; exact f0
  · rw [cell_s (u := .int .i64 pre.length) (by rw [cell_o _ _ _ (by omega)]; exact h1)]; simp
  · rw [World.frozen?_setCell, World.frozen?_setCell]; exact f1
theorem SB.drew {b : Nat} {pre : List I64x} {W : World} (h : SB b pre W) : SB b pre W.drew := h
theorem cell_kb {A B : World} {b : Nat} (h : B.heap[b]? = A.heap[b]?) (v : Value) (hc : A.cell? ⟨b, 0, none⟩ = some v) : B.cell? ⟨b, 0, none⟩ = some v := by
  unfold World.cell? at *
  simp only at *
  rw [h]; exact hc
theorem frz_kb {A B : World} {b : Nat} (h : B.heap[b]? = A.heap[b]?) (hc : A.frozen? ⟨b, 0, none⟩ = false) : B.frozen? ⟨b, 0, none⟩ = false := by
  unfold World.frozen? at *
  simp only at *
  rw [h]; exact hc
theorem SB.kept {b : Nat} {pre : List I64x} {A B : World} (h : SB b pre A) (h1 : B.heap[b]? = A.heap[b]?) (h2 : B.heap[b + 1]? = A.heap[b + 1]?) : SB b pre B :=
  ⟨⟨cell_kb h1 _ h.1.1, frz_kb h1 h.1.2⟩, cell_kb h2 _ h.2.1, frz_kb h2 h.2.2⟩
/-- What the law's last loop keeps. -/
def TI (w W1 : World) (b : Nat) (pre : List I64x) (W : World) : Prop :=
  SB b pre W ∧ (W.cell? ⟨w.heap.size, 0, none⟩ = some (.bool false) ∧ W.frozen? ⟨w.heap.size, 0, none⟩ = false) ∧ Below w.heap.size w W ∧ b + 1 < W.heap.size ∧ W1.heap.size ≤ W.heap.size
theorem TI.kept {w W1 A B : World} {b : Nat} {pre : List I64x} (h : TI w W1 b pre A) (hb : ∀ k, k = w.heap.size ∨ k = b ∨ k = b + 1 → B.heap[k]? = A.heap[k]?) (hB : Below w.heap.size A B) : TI w W1 b pre B := by
  obtain ⟨h1, ⟨h2, h3⟩, h4, h5, h6⟩ := h
  exact ⟨h1.kept (hb _ (Or.inr (Or.inl rfl))) (hb _ (Or.inr (Or.inr rfl))), ⟨cell_kb (hb _ (Or.inl rfl)) _ h2, frz_kb (hb _ (Or.inl rfl)) h3⟩, h4.trans hB, Nat.lt_of_lt_of_le h5 hB.size, Nat.le_trans h6 hB.size⟩
set_option maxRecDepth 100000 in
set_option maxHeartbeats 2000000 in
theorem law_turned_few (a : Option Addr) (n c : Nat) (l : List Int) (w : World) (h : Ins w a n l) (hn : n ≤ 150) :
    Calls Try.prog 6 #[.slice a n c] w fun e w' => e = .returned (.bool true) ∧ Below w.heap.size w w' := by
  have hn1 : ¬ (150 : Int) < n := by omega
  have hn2 : (n : Int) ≤ 150 := by omega
  have HI : Hid (Ins w a n l) := h
  clear h
  refine (callsIn_wide (n := 9)).1 ?_
  refine callsIn_of_wp_marks Try.func6 rfl trivial ?_ rfl
  simp only [Try.ntmps6, List.size_toArray, List.length_cons, List.length_nil, Nat.reduceAdd, Nat.reduceSub, Array.replicate_succ, Array.replicate_zero, List.push_toArray, List.append_toArray, List.nil_append, List.cons_append]
  have cb := cell_new w (.bool false) 4
  have CN := New_any turned_ordr none 0 0 [] (w.alloc (.cells #[.bool false] 4)) ⟨rfl, by simp, Or.inl rfl⟩ (by omega)
  gi_wp2
  refine ⟨trivial, ?_⟩
  refine (callsIn_wide.2 CN).mono ?_
  clear CN
  rintro e w1 ⟨t, hv, L, rfl, ht, hs, hk, hp, hb⟩
  rw [World.size_alloc] at ht hs hb
  have HS : Hid (∃ v L', Hs w1 (w.heap.size + 1) t 19 v L' ∧ Hp kn L' ∧ L'.length = 0 ∧ w.heap.size + 1 ≤ t ∧ Below w.heap.size w w1 ∧ w1.cell? ⟨w.heap.size, 0, none⟩ = some (.bool false) ∧ w1.frozen? ⟨w.heap.size, 0, none⟩ = false ∧ w.heap.size + 1 ≤ w1.heap.size) :=
    ⟨hv, L, hs, hk, by rw [hp.length_eq]; rfl, ht, (((IsGr.refl w).alloc _).below).trans (hb.mono (by omega)), (hb.cell (p := ⟨w.heap.size, 0, none⟩) (by simp)).trans cb.1, (hb.frozen (p := ⟨w.heap.size, 0, none⟩) (by simp)).trans cb.2, by have := hb.size; simpa using this⟩
  clear hs hk hp hb ht cb
  gi_wp2
  gi_loopw [18] (fun p wr => ∃ (j : Nat), j ≤ n ∧ p = .int .i64 j ∧ Hid (∃ v L', Hs wr (w.heap.size + 1) t 19 v L' ∧ Hp kn L' ∧ L'.length = j ∧ w.heap.size + 1 ≤ t ∧ Below w.heap.size w wr ∧ wr.cell? ⟨w.heap.size, 0, none⟩ = some (.bool false) ∧ wr.frozen? ⟨w.heap.size, 0, none⟩ = false ∧ w.heap.size + 1 ≤ wr.heap.size))
    (fun p wr => n - (intOf p).toNat)
  case atStart => exact ⟨0, by omega, rfl, HS.out⟩
  case round =>
    clear HS
    obtain ⟨j, hj, rfl, HB⟩ := hrel
    by_cases hjn : j < n
    · obtain ⟨g, o, rfl, h64, hcs⟩ := HI.out.at hjn
      have hBw : Below w.heap.size w wr := by obtain ⟨_, _, _, _, _, _, h, _⟩ := HB.out; exact h
      have hc := hcs _ hBw
      have e1 : IntKind.i64.wrap ((j : Int) + 1) = (j : Int) + 1 := by rw [IntKind.wrap_i64]; omega
      have hjn' : (j : Int) < n := by omega
      obtain ⟨x, hx⟩ : ∃ x, l.getD j 0 = x := ⟨_, rfl⟩
      rw [hx] at hc h64
      clear hx hcs hBw
      obtain ⟨v1, L1, hs1, hk1, hl1, HR⟩ := HB.out
      have CP := Push_any turned_ordr (w.heap.size + 1) t v1 L1 x wr hs1 hk1 h64 (by omega) HR.2.2.2.2
      have HR' : Hid (Hs wr (w.heap.size + 1) t 19 v1 L1 ∧ L1.length = j ∧ w.heap.size + 1 ≤ t ∧ Below w.heap.size w wr ∧ wr.cell? ⟨w.heap.size, 0, none⟩ = some (.bool false) ∧ wr.frozen? ⟨w.heap.size, 0, none⟩ = false ∧ w.heap.size + 1 ≤ wr.heap.size) := ⟨hs1, hl1, HR⟩
      clear hs1 hk1 hl1 HR HB
      gi_wp2
      refine ⟨trivial, ?_⟩
      refine (callsIn_wide.2 CP).mono ?_
      clear CP
      rintro e w3 ⟨rfl, hA⟩
      have H3 : Hid (∃ v L', Hs w3 (w.heap.size + 1) t 19 v L' ∧ Hp kn L' ∧ L'.length = j + 1 ∧ w.heap.size + 1 ≤ t ∧ Below w.heap.size w w3 ∧ w3.cell? ⟨w.heap.size, 0, none⟩ = some (.bool false) ∧ w3.frozen? ⟨w.heap.size, 0, none⟩ = false ∧ w.heap.size + 1 ≤ w3.heap.size) := by
        obtain ⟨k1, k2, k3, k4, k5, k6, k7⟩ := HR'.out
        have hB := hA.below k1 k3 k7
        obtain ⟨v3, L3, q1, q2, q3, _, _⟩ := hA
        exact ⟨v3, L3, q1, q2, by rw [q3.length_eq, List.length_cons, k2], k3, k4.trans (hB.mono (by omega)), (hB.cell (p := ⟨w.heap.size, 0, none⟩) (by simp)).trans k5, (hB.frozen (p := ⟨w.heap.size, 0, none⟩) (by simp)).trans k6, Nat.le_trans k7 hB.size⟩
      clear hA HR' hc h64
      gi_wp2
      go_roundw
      case rel => exact ⟨j + 1, by omega, by simp, H3.out⟩
      case measure => simp [intOf]; omega
    · have hj2 : j = n := by omega
      subst hj2
      obtain ⟨W1, hW1⟩ : ∃ W1, W1 = wr := ⟨_, rfl⟩
      subst hW1
      obtain ⟨v1, L1, hs1, hk1, hl1, ht1, hB1, hr1, hf1, hz1⟩ := HB.out
      clear HB
      gi_wp2
      refine ⟨trivial, ?_⟩
      refine (callsIn_wide.2 (Drain_any t _)).mono ?_
      rintro e w' ⟨rfl, e2⟩
      have c1 := cell_new W1 (.int .i64 0) 3
      have c2 := cell_new (W1.alloc (.cells #[.int .i64 0] 3)) (.int .i64 0) 3
      have c3 := cell_new ((W1.alloc (.cells #[.int .i64 0] 3)).alloc (.cells #[.int .i64 0] 3)) (.pointer (some ⟨t, 0, none⟩)) 25
      simp only [World.size_alloc] at c2 c3
      have hg2 : IsGr W1 w' := e2 ▸ (((IsGr.refl W1).alloc _).alloc _).alloc _
      have hsz : w'.heap.size = W1.heap.size + 3 := by rw [e2]; simp
      have hrb : SB W1.heap.size [] w' := e2 ▸ ⟨⟨cell_past _ (cell_past _ c1.1), frozen_past _ (cell_past _ c1.1) (frozen_past _ c1.1 c1.2)⟩, cell_past _ c2.1, frozen_past _ c2.1 c2.2⟩
      have hbx : w'.cell? ⟨W1.heap.size + 1 + 1, 0, none⟩ = some (.pointer (some ⟨t, 0, none⟩)) := e2 ▸ c3.1
      clear e2 c1 c2 c3
      obtain ⟨W2, hW2⟩ : ∃ W2, W2 = w' := ⟨_, rfl⟩
      subst hW2
      have hZ1 : ∀ b ∈ hbs t v1, b < W1.heap.size := hs1.lt
      have hZ2 : ∀ b ∈ hbs t v1, w.heap.size + 1 ≤ b := hbs_low hs1 ht1
      have hI0 : TI w W1 W1.heap.size [] W2 := ⟨hrb, ⟨cellk hr1 hg2, frzk hr1 hf1 hg2⟩, hB1.trans (hg2.below.mono hB1.size), by omega, hg2.size⟩
      gi_wp2
      refine wpIn_range_turns rfl rfl (by omega) (gf := 25) (lb := #[.pointer (some ⟨W1.heap.size + 1 + 1, 0, none⟩)]) rfl trivial (enters_of Try.func25 (by kernel_rfl) rfl)
        (R := Wr (hbs t v1)) (Kp := KpZ ((W1.heap.size + 1 + 1) :: hbs t v1)) (T := DrT kn L1) (S := DrE kn (w.heap.size + 1) t 19 L1 (hbs t v1)) (Sp := DrS kn (w.heap.size + 1) t 19 L1 (hbs t v1))
        (fun o1 o2 => drain_in turned_ordr (w.heap.size + 1) t (W1.heap.size + 1 + 1) _ L1 (hbs t v1) v1 _ (hs1.gr ((hg2.alloc o1).alloc o2)) hk1 (fun b hb => hb) (by omega) (cellk hbx (((IsGr.refl W2).alloc o1).alloc o2)) (fun hm => by have := hZ1 _ hm; omega))
        (fun A B hr k hk hlt => hr.block k hlt (fun hm => by have := hZ1 _ hm; omega)) (fun h1 h2 => h1.trans h2)
        (fun W l o hl => KpZ.putObj (N := W2.heap.size) (fun b hb => by rcases List.mem_cons.1 hb with e | hb; omega; have := hZ1 b hb; omega) W l o hl) (fun _ => rfl)
        (TI w W1 W1.heap.size) (fun _ _ _ => False)
        (fun s A B row hs hg hr => hs.kept (fun k hk => hg.block k (by have := hs.2.2.2.1; have := hs.2.2.2.2; have := hB1.size; omega) (fun e => by have := (hr k e.symm).1; have := hB1.size; omega)) ((Below.refl _ A).grown hg (by have := hs.2.2.2.2; have := hB1.size; omega) (fun k e => by have := (hr k e).1; have := hB1.size; omega)))
        (fun c s A B row hs hg hr => hs) (DrE.own (fun b hb => by have := hZ1 b hb; omega)) (DrS.own (fun b hb => by have := hZ1 b hb; omega))
        (fun s A B hs hr => hs.kept (fun k hk => hr.block k (by have := hs.2.2.2.1; have := hs.2.2.2.2; have := hB1.size; omega) (fun hm => by have := hZ1 _ hm; have := hZ2 _ hm; omega)) (hr.below (by have := hs.2.2.2.2; have := hB1.size; omega) (fun b hb => by have := hZ2 b hb; omega)))
        (fun c s A B hs hr => hs) hI0
        ?a1 ?assign ?body ?done ?stop
      case assign =>
        intro lq x W K hK
        gi_wp2
        exact hK
      case stop => exact fun D c xs W _ _ h => h.elim
      case body =>
        rintro lq pre x W hI hT hWs
        have hpl : pre.length < L1.length := by
          obtain ⟨L2, hp, _⟩ := hT
          have := hp.length_eq
          simp only [List.length_append, List.length_map, List.length_cons, List.length_nil] at this
          omega
        have hW2 := hI.2.2.2.2
        have hWb := hI.2.2.2.1
        have K1 : KeepsOthers W ((W.setCell ⟨W1.heap.size, 0, none⟩ (.int .i64 x.1)).setCell ⟨W1.heap.size + 1, 0, none⟩ (.int .i64 ((pre.length : Int) + 1))).drew := ((KeepsOthers.setCell _ _ _).trans (KeepsOthers.setCell _ _ _)).trans (KeepsOthers.drew _)
        have WR : Wr [W1.heap.size, W1.heap.size + 1] W ((W.setCell ⟨W1.heap.size, 0, none⟩ (.int .i64 x.1)).setCell ⟨W1.heap.size + 1, 0, none⟩ (.int .i64 ((pre.length : Int) + 1))).drew := (((Wr.refl _ W).set _ _ _ (Or.inl (by simp))).set _ _ _ (Or.inl (by simp))).drew
        have KP : KpZ ((W1.heap.size + 1 + 1) :: hbs t v1) W ((W.setCell ⟨W1.heap.size, 0, none⟩ (.int .i64 x.1)).setCell ⟨W1.heap.size + 1, 0, none⟩ (.int .i64 ((pre.length : Int) + 1))).drew :=
          ⟨WR.size, fun b hb => WR.block b (by rcases List.mem_cons.1 hb with e | hb; omega; have := hZ1 b hb; omega) (fun hm => by
            have e : b = W1.heap.size ∨ b = W1.heap.size + 1 := by simpa using hm
            rcases List.mem_cons.1 hb with e2 | hb
            · omega
            · have := hZ1 b hb; omega)⟩
        have T1 : TI w W1 W1.heap.size (pre ++ [x]) ((W.setCell ⟨W1.heap.size, 0, none⟩ (.int .i64 x.1)).setCell ⟨W1.heap.size + 1, 0, none⟩ (.int .i64 ((pre.length : Int) + 1))).drew := by
          have hsw : w.heap.size < W1.heap.size := by have := block_lt hr1; simpa using this
          refine ⟨(hI.1.set1 x).drew, ?_, hI.2.2.1.trans (WR.below (by omega) (fun b hb => (by rcases List.mem_cons.1 hb with e | hb; omega; have e : b = W1.heap.size + 1 := (by simpa using hb); omega))), Nat.lt_of_lt_of_le hWb WR.size, Nat.le_trans hW2 WR.size⟩
          have e := WR.block w.heap.size (by omega) (fun hm => by
            have e : w.heap.size = W1.heap.size ∨ w.heap.size = W1.heap.size + 1 := by simpa using hm
            omega)
          exact ⟨cell_kb e _ hI.2.1.1, frz_kb e hI.2.1.2⟩
        have FF : Hid _ := And.intro (And.intro K1 KP) T1
        have hlast : pre ≠ [] → ¬ lastv pre < x.1 := fun hne => by
          obtain ⟨L2, _, hpw, _⟩ := hT
          obtain ⟨ys, y, rfl⟩ : ∃ ys y, pre = ys ++ [y] := by
            rcases List.eq_nil_or_concat pre with e | ⟨ys, y, e⟩
            · exact absurd e hne
            · exact ⟨ys, y, by rw [e, List.concat_eq_append]⟩
          rw [List.map_append, List.pairwise_append] at hpw
          have := hpw.2.2 y.1 (by simp) x.1 (by simp)
          unfold kn at this
          simp only [lastv, List.getLast?_append, List.getLast?_singleton, Option.some_or, Option.map_some, Option.getD_some]
          omega
        obtain ⟨⟨h0, f0⟩, h1, f1⟩ := hI.1
        obtain ⟨i, hi⟩ : ∃ i, pre.length = i := ⟨_, rfl⟩
        have hi9 : i ≤ 150 := by omega
        have e1 : IntKind.i64.wrap ((i : Int) + 1) = (i : Int) + 1 := by rw [IntKind.wrap_i64]; omega
        rw [hi] at FF h1
        have hmx : Try.prog.follows .mixedOrders = true := by kernel_rfl
        by_cases hi0 : i = 0
        · subst hi0
          clear K1 WR KP T1 hlast hI hT hi hpl
          gi_wp2
          gi_region_with_o (fail)
          all_goals gi_wp2
          all_goals exact FF.out
        · have hip : (0 : Int) < i := by omega
          have hl := hlast (fun e => by rw [e] at hi; simp at hi; omega)
          obtain ⟨z, hz⟩ : ∃ z, lastv pre = z := ⟨_, rfl⟩
          rw [hz] at h0 hl
          clear K1 WR KP T1 hlast hI hT hi hpl hz
          gi_wp2
          gi_region_with_o (fail)
          all_goals gi_wp2
          all_goals exact FF.out
      case done =>
        rintro D xs W hD hS hI hK
        have hxl : xs.length = j := by rw [hS.2]; exact hl1
        obtain ⟨⟨vE, LE, hsE, _, hpE, _⟩, hlE⟩ := hS
        have hLE : LE.length = 0 := by
          have := hpE.1.length_eq
          rw [List.length_append, List.length_map] at this
          omega
        obtain ⟨_, h1, _⟩ := hI.1
        rw [hxl] at h1
        have CL := Len_any W hsE
        rw [hLE] at CL
        have CA := awake_any W
        have H2 : Hid ((W.cell? ⟨w.heap.size, 0, none⟩ = some (.bool false) ∧ W.frozen? ⟨w.heap.size, 0, none⟩ = false) ∧ Below w.heap.size w W ∧ W.heap[D]? = some (.deferred (some [])) ∧ w.heap.size < D) := ⟨hI.2.1, hI.2.2.1, hK, by have := block_lt hr1; simp at this; omega⟩
        clear hI hK hsE hpE hxl hlE hLE
        gi_wp2
        refine ⟨trivial, ?_⟩
        refine (callsIn_wide.2 CL).mono ?_
        rintro e w5 ⟨rfl, e5⟩
        obtain rfl := e5.symm
        gi_wp2
        refine ⟨trivial, ?_⟩
        refine (callsIn_wide.2 CA).mono ?_
        rintro e w6 ⟨rfl, hB6⟩
        obtain ⟨⟨r1, r2⟩, r3, r4, r5⟩ := H2.out
        have q1 := (hB6.cell (p := ⟨w.heap.size, 0, none⟩) (block_lt r1)).trans r1
        have q2 := (hB6.frozen (p := ⟨w.heap.size, 0, none⟩) (block_lt r1)).trans r2
        have q4 := (hB6.block D (Array.getElem?_eq_some_iff.1 r4).1).trans r4
        have q3 := r3.trans (hB6.mono r3.size)
        clear r1 r2 r3 r4 hB6 H2
        gi_wp2
        have hK' := (KeepsOthers.setCell w6 ⟨w.heap.size, 0, none⟩ (.bool true)).same D _ q4 rfl
        refine ⟨by simp, .inl ⟨_, _, rfl, run_takeDeferred hK', ?_⟩⟩
        have hc5 := cell_kept (cell_s (v := .bool true) q1) (grownBy_putObj' _ D (.deferred none)) (fun r e => by cases e; exact ⟨_, hK', rfl⟩)
        refine ⟨.bool true, ?_, rfl, (q3.setCell (p := ⟨w.heap.size, 0, none⟩) (Nat.le_refl _) _).trans (belowK_b (w := w) (Nat.le_refl _) _ D _ _ (by omega) hK' rfl rfl)⟩
        simp [results, Try.f6, go_sem, hc5]
theorem law_turned (a : Option Addr) (n c : Nat) (l : List Int) (w : World) (h : Ins w a n l) : Calls Try.prog 6 #[.slice a n c] w fun e w' => e = .returned (.bool true) ∧ Below w.heap.size w w' := by
  by_cases hn : n ≤ 150
  · exact law_turned_few a n c l w h hn
  · exact law_turned_many a n c w (by omega)
end Go.Proofs.Ytdffpgfmodccgaa
