/- Package lex over the loaded program: Tokens. -/
import Derived.Test.YtpgcfnpnpmpkeaaD9
import Derived.LoopIn
import Derived.Shelf.RegionOpen
import Derived.Sort.CutIn
namespace Go.Proofs.Ytpgcfnpnpmpkeaa
open Go.RowKit Go.Shelf
attribute [local go_sem] Oper.semAt_some
theorem NxP.len {b : List Int} {pre : List Pc} {x : Pc} (h : NxP b pre x) (ha : AllR pre) (hx : x.2 = true) : pre.length + 1 ≤ b.length := by
  obtain ⟨rest, hr⟩ := (h ha).1 hx
  have h1 := tks_len b
  rw [hr] at h1
  simp at h1
  omega
theorem tk_start {s : ByteArray} (w : World) : TkI w [] (.slice none 0 0) (((((w.alloc (.cells #[.slice none 0 0] 23)).alloc (.cells #[.int .i64 0] 3)).alloc (.cells #[.int .i64 0] 24)).alloc (.cells #[.slice none 0 0] 23)).alloc (.cells #[.string s] 9)) := by
  have hg : IsGr w (((((w.alloc (.cells #[.slice none 0 0] 23)).alloc (.cells #[.int .i64 0] 3)).alloc (.cells #[.int .i64 0] 24)).alloc (.cells #[.slice none 0 0] 23)).alloc (.cells #[.string s] 9)) := (((((IsGr.refl w).alloc _).alloc _).alloc _).alloc _).alloc _
  have z0 := cell_new w (.slice none 0 0) 23
  have z1 := cell_new (w.alloc (.cells #[.slice none 0 0] 23)) (.int .i64 0) 3
  have z2 := cell_new ((w.alloc (.cells #[.slice none 0 0] 23)).alloc (.cells #[.int .i64 0] 3)) (.int .i64 0) 24
  have z3 := cell_new (((w.alloc (.cells #[.slice none 0 0] 23)).alloc (.cells #[.int .i64 0] 3)).alloc (.cells #[.int .i64 0] 24)) (.slice none 0 0) 23
  simp only [World.size_alloc] at z1 z2 z3
  have g1 : ∀ W a b c d, IsGr W ((((W.alloc a).alloc b).alloc c).alloc d) := fun W a b c d => ((((IsGr.refl W).alloc a).alloc b).alloc c).alloc d
  have g2 : ∀ W b c d, IsGr W (((W.alloc b).alloc c).alloc d) := fun W b c d => (((IsGr.refl W).alloc b).alloc c).alloc d
  have g3 : ∀ W c d, IsGr W ((W.alloc c).alloc d) := fun W c d => ((IsGr.refl W).alloc c).alloc d
  have g4 : ∀ W d, IsGr W (W.alloc d) := fun W d => (IsGr.refl W).alloc d
  exact ⟨⟨cellk z0.1 (g1 _ _ _ _ _), frzk z0.1 z0.2 (g1 _ _ _ _ _)⟩, ⟨cellk z1.1 (g2 _ _ _ _), frzk z1.1 z1.2 (g2 _ _ _ _)⟩, ⟨cellk z2.1 (g3 _ _ _), frzk z2.1 z2.2 (g3 _ _ _)⟩, ⟨cellk z3.1 (g4 _ _), frzk z3.1 z3.2 (g4 _ _)⟩, Ls3.nil _ _ _, hg.below, by simp⟩
theorem kpO_low {w A B : World} (hb : ∀ k, w.heap.size + 3 ≤ k → B.heap[k]? = A.heap[k]?) (hs : B.heap.size = A.heap.size) : KpO (some (w.heap.size + 3)) (w.heap.size + 7) [w.heap.size + 4] A B := by
  have ho : ∀ k, Ow (some (w.heap.size + 3)) B k → Ow (some (w.heap.size + 3)) A k := fun k ⟨b, u, h1, h2, h3⟩ => by
    injection h1 with h1
    subst h1
    exact ⟨_, u, rfl, (World.cell?_of_block (a := ⟨w.heap.size + 3, 0, none⟩) (hb _ (Nat.le_refl _))).symm.trans h2, h3⟩
  exact ⟨by omega, fun z hz => hb z (by simp at hz; omega), fun k hk _ _ => hb k (by omega), fun k hk => Or.inl (ho k hk), fun h k hk => by have := h k (ho k hk); omega⟩
/-- The three results laid in their boxes. -/
theorem res3 {w W : World} {L : List Tk} {v v2 : Value} (h : TkI w L v W) (a b : Int) :
    ((((W.setCell ⟨w.heap.size, 0, none⟩ v2).setCell ⟨w.heap.size + 1, 0, none⟩ (.int .i64 a)).setCell ⟨w.heap.size + 1 + 1, 0, none⟩ (.int .i64 b)).cell? ⟨w.heap.size, 0, none⟩ = some v2 ∧
    (((W.setCell ⟨w.heap.size, 0, none⟩ v2).setCell ⟨w.heap.size + 1, 0, none⟩ (.int .i64 a)).setCell ⟨w.heap.size + 1 + 1, 0, none⟩ (.int .i64 b)).cell? ⟨w.heap.size + 1, 0, none⟩ = some (.int .i64 a) ∧
    (((W.setCell ⟨w.heap.size, 0, none⟩ v2).setCell ⟨w.heap.size + 1, 0, none⟩ (.int .i64 a)).setCell ⟨w.heap.size + 1 + 1, 0, none⟩ (.int .i64 b)).cell? ⟨w.heap.size + 1 + 1, 0, none⟩ = some (.int .i64 b)) ∧
    (∀ k, w.heap.size + 3 ≤ k → (((W.setCell ⟨w.heap.size, 0, none⟩ v2).setCell ⟨w.heap.size + 1, 0, none⟩ (.int .i64 a)).setCell ⟨w.heap.size + 1 + 1, 0, none⟩ (.int .i64 b)).heap[k]? = W.heap[k]?) ∧
    (((W.setCell ⟨w.heap.size, 0, none⟩ v2).setCell ⟨w.heap.size + 1, 0, none⟩ (.int .i64 a)).setCell ⟨w.heap.size + 1 + 1, 0, none⟩ (.int .i64 b)).heap.size = W.heap.size ∧
    Below w.heap.size w (((W.setCell ⟨w.heap.size, 0, none⟩ v2).setCell ⟨w.heap.size + 1, 0, none⟩ (.int .i64 a)).setCell ⟨w.heap.size + 1 + 1, 0, none⟩ (.int .i64 b)) := by
  refine ⟨⟨?_, ?_, ?_⟩, fun k hk => ?_, by rw [set_size, set_size, set_size], ?_⟩
  · rw [cell_o _ _ _ (by omega), cell_o _ _ _ (by omega)]; exact cell_s h.c2.1
  · rw [cell_o _ _ _ (by omega)]; exact cell_s ((cell_o _ _ _ (by omega)).trans h.c3.1)
  · exact cell_s ((cell_o _ _ _ (by omega)).trans ((cell_o _ _ _ (by omega)).trans h.c4.1))
  · rw [set_block _ _ _ _ _ (by omega), set_block _ _ _ _ _ (by omega), set_block _ _ _ _ _ (by omega)]
  · exact ((h.bel.setCell (p := ⟨w.heap.size, 0, none⟩) (Nat.le_refl _) _).setCell (p := ⟨w.heap.size + 1, 0, none⟩) (by simp) _).setCell (p := ⟨w.heap.size + 1 + 1, 0, none⟩) (by simp; omega) _
theorem app_cell {w W W1 w9 : World} {L : List Tk} {v : Value} (hI : TkI w L v W) (hg1 : IsGr W W1) (hg : W1.grownBy w9 v.ownBlock) :
    w9.cell? ⟨w.heap.size + 1 + 1 + 1, 0, none⟩ = some v ∧ w9.frozen? ⟨w.heap.size + 1 + 1 + 1, 0, none⟩ = false := by
  have hs5 := hI.size
  have e9 : w9.heap[w.heap.size + 1 + 1 + 1]? = W.heap[w.heap.size + 1 + 1 + 1]? := (hg.block _ (Nat.lt_of_lt_of_le (by omega) hg1.size) (fun e => by have := (hI.ls.own _ e.symm).1; omega)).trans (hg1.below.block _ (by omega))
  exact ⟨(World.cell?_of_block (a := ⟨w.heap.size + 1 + 1 + 1, 0, none⟩) e9).trans hI.cl.1, (World.frozen?_of_block (a := ⟨w.heap.size + 1 + 1 + 1, 0, none⟩) e9).trans hI.cl.2⟩
set_option maxRecDepth 100000 in
set_option maxHeartbeats 2000000 in
theorem ltokens_any (s : ByteArray) (w : World) (hs : s.size ≤ 3000) : Calls Try.prog 8 #[.string s] w fun e w' => LTokR (bts s) w e w' := by
  have HS : Hid (s.size ≤ 3000) := hs
  refine (callsIn_wide (n := 9)).1 ?_
  refine callsIn_of_wp_marks Try.func8 rfl trivial ?_ rfl
  simp only [Try.ntmps8, List.size_toArray, List.length_cons, List.length_nil, Nat.reduceAdd, Nat.reduceSub, Array.replicate_succ, Array.replicate_zero, List.push_toArray, List.append_toArray, List.nil_append, List.cons_append]
  gi_wp2
  have hI5 := tk_start (s := s) w
  have cS := (cell_new ((((w.alloc (.cells #[.slice none 0 0] 23)).alloc (.cells #[.int .i64 0] 3)).alloc (.cells #[.int .i64 0] 24)).alloc (.cells #[.slice none 0 0] 23)) (.string s) 9).1
  obtain ⟨wA, hwA⟩ : ∃ W, ((((w.alloc (.cells #[.slice none 0 0] 23)).alloc (.cells #[.int .i64 0] 3)).alloc (.cells #[.int .i64 0] 24)).alloc (.cells #[.slice none 0 0] 23)) = W := ⟨_, rfl⟩
  have hszA : wA.heap.size = w.heap.size + 4 := by rw [← hwA]; simp
  rw [hwA] at hI5 cS ⊢
  rw [hszA] at cS
  refine ⟨trivial, ?_⟩
  refine (callsIn_wide.2 (lpieces_any s wA)).mono ?_
  rintro e w5 ⟨rfl, e5⟩
  rw [← e5] at hI5 cS
  have hsz5 : w5.heap.size = w.heap.size + 5 := by rw [e5]; simp [hszA]
  rw [hszA]
  clear hwA e5 hszA hs
  gi_wp2
  refine wpIn_range_box1W (α := Pc) rfl rfl (by omega) (gf := 26) (lb := #[.pointer (some ⟨w.heap.size + 4, 0, none⟩)]) rfl trivial (enters_of Try.func26 (by kernel_rfl) rfl)
    (encs := fun x : Pc => #[.agg #[.int .i64 (x.1.1 : Nat), .int .i64 (x.1.2.1 : Nat), .int .i64 (x.1.2.2 : Nat)], .bool x.2]) (R := IsGr) (Kp := KpO (some (w.heap.size + 3)) (w.heap.size + 7) [w.heap.size + 4])
    (T := fun pre x _ => NxP (bts s) pre x) (S := fun xs _ => AllR xs → tks (bts s) 0 = (xs.map (·.1), none)) (Sp := fun xs _ => ∃ pre x, xs = pre ++ [x] ∧ NxP (bts s) pre x)
    (fun o1 o2 => lpieces_in s (by have := HS.out; omega) (w.heap.size + 4) (w.heap.size + 7) _ [w.heap.size + 4] (some (w.heap.size + 3)) ((w5.alloc o1).alloc o2) (cellk cS (((IsGr.refl w5).alloc o1).alloc o2)) (by simp) (by simp; omega) (fun b hb => by injection hb with hb; omega)
      (fun k hk => by
        obtain ⟨b, u, h1, h2, h3⟩ := Ow.gr (A := w5) (fun b hb => by injection hb with hb; omega) (((IsGr.refl w5).alloc o1).alloc o2) hk
        injection h1 with h1
        subst h1
        have := h2.symm.trans hI5.cl.1
        injection this with this
        rw [this] at h3
        cases h3))
    (kept2_gr _) (fun h1 h2 => h1.trans h2) ?kb (fun _ => rfl)
    (fun pre W => AllR pre ∧ ∃ v, TkI w (pre.map (·.1)) v W) (fun c' _ W => c' = .ret ∧ TkX w s W)
    (fun pre A B row hs hg hr => ⟨hs.1, hs.2.imp fun v h => h.grown (N := w5.heap.size) (by omega) hg hr⟩) (fun c' pre A B row hs hg hr => ⟨hs.1, hs.2.grown (N := w5.heap.size) (by omega) hg hr⟩) (fun s A B row hs hg hr => hs) (fun s A B row hs hg hr => hs)
    (fun _ _ s A B row hs hg hr => hs) (fun pre A B hs hr => ⟨hs.1, hs.2.imp fun v h => h.gr hr⟩) (fun c' pre A B hs hr => ⟨hs.1, hs.2.gr hr⟩) ⟨fun y hy => by simp at hy, _, hI5⟩
    ?a1 (fun x => [.int .i64 (x.1.1 : Nat), .int .i64 (x.1.2.1 : Nat), .int .i64 (x.1.2.2 : Nat)])
    (fun pre A B hs hr => ⟨hs.1, hs.2.imp fun v h => h.gr hr⟩) (fun _ _ _ _ h _ => h) ?kg ?assign ?body ?done ?stop
  case kb =>
    intro W o
    have hc : ∀ k, k ≠ w.heap.size + 6 → (W.putObj (w5.heap.size + 1) o).heap[k]? = W.heap[k]? := fun k hk => World.putObj_heap_other (by omega)
    have ho : ∀ k, Ow (some (w.heap.size + 3)) (W.putObj (w5.heap.size + 1) o) k → Ow (some (w.heap.size + 3)) W k := fun k ⟨b, u, h1, h2, h3⟩ => by
      injection h1 with h1
      subst h1
      exact ⟨_, u, rfl, (World.cell?_of_block (a := ⟨w.heap.size + 3, 0, none⟩) (hc _ (by simp))).symm.trans h2, h3⟩
    exact ⟨by simp, fun z hz => hc z (by simp at hz; omega), fun k hk _ _ => hc k (by omega), fun k hk => Or.inl (ho k hk), fun h k hk => by have := h k (ho k hk); simpa using this⟩
  case kg =>
    intro A B hA hg
    have hb : ∀ b, some (w.heap.size + 3) = some b → b < A.heap.size := fun b hb => by injection hb with hb; omega
    exact ⟨hg.size, fun z hz => hg.below.block z (by simp at hz; omega), fun k _ hk _ => hg.below.block k hk, fun k hk => Or.inl (hk.gr hb hg), fun h k hk => Nat.lt_of_lt_of_le (h k (hk.gr hb hg)) hg.size⟩
  case assign =>
    intro lq x W K hs hK
    gi_wp2
    have hg := (IsGr.refl W).alloc (.cells #[.int .i64 (x.1.1 : Nat), .int .i64 (x.1.2.1 : Nat), .int .i64 (x.1.2.2 : Nat)] 31)
    have z1 : ∀ (i : Nat) u, ([.int .i64 (x.1.1 : Nat), .int .i64 (x.1.2.1 : Nat), .int .i64 (x.1.2.2 : Nat)] : List Value)[i]? = some u → (W.alloc (.cells #[.int .i64 (x.1.1 : Nat), .int .i64 (x.1.2.1 : Nat), .int .i64 (x.1.2.2 : Nat)] 31)).cell? ⟨W.heap.size, i, none⟩ = some u := fun i u hu => by
      rw [World.cell?_alloc_at _ _ _ _ rfl]
      simpa using hu
    obtain ⟨B, hB⟩ : ∃ B, W.heap.size = B := ⟨_, rfl⟩
    rw [hB] at z1 ⊢
    exact hK _ _ hg (by omega) z1
  case stop =>
    rintro D c' xs W hD hSp ⟨rfl, hX⟩ hK
    obtain ⟨tl, q, ht, hq⟩ := hX.q
    gi_wp2
    refine ⟨by simp, .inl ⟨_, _, rfl, run_takeDeferred hK, ?_⟩⟩
    have hp := grownBy_putObj' W D (.deferred none)
    have hr : ∀ r, some D = some r → ∃ o : Obj, W.heap[r]? = some o ∧ o.isCells = false := fun r e => by cases e; exact ⟨_, hK, rfl⟩
    have hc2 := cell_kept hX.c2 hp hr
    have hc3 := cell_kept hq hp hr
    have hc4 := cell_kept hX.c4 hp hr
    refine ⟨.tuple #[.slice none 0 0, .int .i64 (q : Nat), .int .i64 21], ?_, ?_⟩
    · simp [results, Try.f8, go_sem, hc2, hc3, hc4]
    · unfold LTokR
      rw [ht]
      exact ⟨⟨_, _, rfl⟩, hX.bel.trans (belowK_b (w := w) (Nat.le_refl _) _ D _ _ (by omega) hK rfl rfl)⟩
  case done =>
    rintro D xs W hD hSx ⟨ha, v, hT⟩ hK
    have ht := hSx ha
    obtain ⟨va, vc, rfl, -⟩ := hT.ls.form
    obtain ⟨n, hn⟩ : ∃ n, (tok3 (xs.map (·.1))).length = n := ⟨_, rfl⟩
    rw [hn] at hT
    have HD : Hid (tks (bts s) 0 = (xs.map (·.1), none) ∧ TkI w (xs.map (·.1)) (.slice va n vc) W ∧ W.heap[D]? = some (.deferred (some [])) ∧ w5.heap.size ≤ D) := ⟨ht, hT, hK, hD⟩
    obtain ⟨c2, f2⟩ := hT.c2
    obtain ⟨c3, f3⟩ := hT.c3
    obtain ⟨c4, f4⟩ := hT.c4
    obtain ⟨cl, fl⟩ := hT.cl
    clear hn ht hT hK hSx ha hI5 cS
    gi_wp2
    obtain ⟨⟨k2, k3, k4⟩, hkb, hks, hbel⟩ := res3 (v2 := .slice va n vc) HD.out.2.1 0 0
    have hlsF : Ls3 31 _ (w.heap.size + 7) (.slice va n vc) (tok3 (xs.map (·.1))) := HD.out.2.1.ls.keep (fun g e => hkb g (by have := (HD.out.2.1.ls.own g e).1; omega))
    have hDk := hkb D (by have := HD.out.2.2.2; omega)
    obtain ⟨WF, hWF⟩ : ∃ W', (((W.setCell ⟨w.heap.size, 0, none⟩ (.slice va n vc)).setCell ⟨w.heap.size + 1, 0, none⟩ (.int .i64 0)).setCell ⟨w.heap.size + 1 + 1, 0, none⟩ (.int .i64 0)) = W' := ⟨_, rfl⟩
    rw [hWF] at k2 k3 k4 hks hbel hlsF hDk ⊢
    have hK' := hDk.trans HD.out.2.2.1
    refine ⟨by simp, .inl ⟨_, _, rfl, run_takeDeferred hK', ?_⟩⟩
    have hp := grownBy_putObj' WF D (.deferred none)
    have hr : ∀ r, some D = some r → ∃ o : Obj, WF.heap[r]? = some o ∧ o.isCells = false := fun r e => by cases e; exact ⟨_, hK', rfl⟩
    have hc2 := cell_kept k2 hp hr
    have hc3 := cell_kept k3 hp hr
    have hc4 := cell_kept k4 hp hr
    refine ⟨.tuple #[.slice va n vc, .int .i64 0, .int .i64 0], ?_, ?_⟩
    · simp [results, Try.f8, go_sem, hc2, hc3, hc4]
    · unfold LTokR
      rw [HD.out.1]
      exact ⟨⟨_, rfl, (hlsF.grown hp hr).mono (by omega)⟩, hbel.trans (belowK_b (w := w) (Nat.le_refl _) _ D _ _ (by have := HD.out.2.2.2; omega) hK' rfl rfl)⟩
  case body =>
    rintro lq pre ⟨⟨kd, i, j⟩, ok⟩ B W ⟨ha, v, hI⟩ hT hB hz hWs
    have z1 : W.cell? ⟨B, 0, none⟩ = some (.int .i64 (kd : Nat)) := hz 0 _ rfl
    have z2 : W.cell? ⟨B, 1, none⟩ = some (.int .i64 (i : Nat)) := hz 1 _ rfl
    have z3 : W.cell? ⟨B, 2, none⟩ = some (.int .i64 (j : Nat)) := hz 2 _ rfl
    obtain ⟨va, vc, rfl, -⟩ := hI.ls.form
    obtain ⟨n, hn⟩ : ∃ n, (tok3 (pre.map (·.1))).length = n := ⟨_, rfl⟩
    rw [hn] at hI
    have HI : Hid (TkI w (pre.map (·.1)) (.slice va n vc) W ∧ AllR pre ∧ w5.heap.size + 1 < W.heap.size ∧ NxP (bts s) pre ((kd, i, j), ok)) := ⟨hI, ha, hWs, hT⟩
    obtain ⟨c2, f2⟩ := hI.c2
    obtain ⟨c3, f3⟩ := hI.c3
    obtain ⟨c4, f4⟩ := hI.c4
    obtain ⟨cl, fl⟩ := hI.cl
    have hmx : Try.prog.follows .mixedOrders = true := by kernel_rfl
    clear hn hI ha hWs hT hz hI5 cS
    cases ok with
    | false =>
      have hq : tks (bts s) 0 = (pre.map (·.1), some i) := (HI.out.2.2.2 HI.out.2.1).2 rfl
      obtain ⟨⟨k2, k3, k4⟩, hkb, hks, hbel⟩ := res3 (v2 := .slice none 0 0) HI.out.1 (i : Nat) 21
      have hd := (IsGr.refl (((W.setCell ⟨w.heap.size, 0, none⟩ (.slice none 0 0)).setCell ⟨w.heap.size + 1, 0, none⟩ (.int .i64 (i : Nat))).setCell ⟨w.heap.size + 1 + 1, 0, none⟩ (.int .i64 21))).drew
      have FF : Hid ((KeptB w5.heap.size W (((W.setCell ⟨w.heap.size, 0, none⟩ (.slice none 0 0)).setCell ⟨w.heap.size + 1, 0, none⟩ (.int .i64 (i : Nat))).setCell ⟨w.heap.size + 1 + 1, 0, none⟩ (.int .i64 21)).drew ∧ KpO (some (w.heap.size + 3)) (w.heap.size + 7) [w.heap.size + 4] W (((W.setCell ⟨w.heap.size, 0, none⟩ (.slice none 0 0)).setCell ⟨w.heap.size + 1, 0, none⟩ (.int .i64 (i : Nat))).setCell ⟨w.heap.size + 1 + 1, 0, none⟩ (.int .i64 21)).drew) ∧ TkX w s (((W.setCell ⟨w.heap.size, 0, none⟩ (.slice none 0 0)).setCell ⟨w.heap.size + 1, 0, none⟩ (.int .i64 (i : Nat))).setCell ⟨w.heap.size + 1 + 1, 0, none⟩ (.int .i64 21)).drew) :=
        ⟨⟨⟨Nat.le_of_eq hks.symm, fun k hk => hkb k (by omega)⟩, kpO_low (B := (((W.setCell ⟨w.heap.size, 0, none⟩ (.slice none 0 0)).setCell ⟨w.heap.size + 1, 0, none⟩ (.int .i64 (i : Nat))).setCell ⟨w.heap.size + 1 + 1, 0, none⟩ (.int .i64 21)).drew) hkb hks⟩, (TkX.mk ⟨_, i, hq, k3⟩ k2 k4 hbel).gr hd⟩
      clear hq k2 k3 k4 hkb hks hbel hd
      gi_wp2
      gi_region_with_o (fail)
      all_goals gi_wp2
      all_goals exact ⟨FF.out.1, rfl, FF.out.2⟩
    | true =>
      have hlen : pre.length + 1 ≤ 3000 := by
        have := HI.out.2.2.2.len HI.out.2.1 rfl
        rw [bts_len] at this
        have := HS.out
        omega
      have hnl : (tok3 (pre.map (·.1))).length ≤ 1000000 := by rw [tok3_len, List.length_map]; omega
      have hsn : tok3 (pre.map (·.1)) ++ [((kd : Int), (i : Int), (j : Int))] = tok3 ((pre ++ [((kd, i, j), true)]).map (·.1)) := by rw [List.map_append]; exact (tok3_snoc _ _ _ _).symm
      have HN : Hid (AllR (pre ++ [((kd, i, j), true)]) ∧ (tok3 (pre.map (·.1))).length ≤ 1000000 ∧ w.heap.size + 7 ≤ (W.alloc (.cells #[.int .i64 (kd : Nat), .int .i64 (i : Nat), .int .i64 (j : Nat)] 31)).heap.size) := ⟨fun y hy => by
        rcases List.mem_append.1 hy with h | h
        · exact HI.out.2.1 y h
        · simp at h; rw [h], hnl, by have := HI.out.2.2.1; simp; omega⟩
      have hl1 := HI.out.1.ls.gr ((IsGr.refl W).alloc (.cells #[.int .i64 (kd : Nat), .int .i64 (i : Nat), .int .i64 (j : Nat)] 31))
      have HSN : Hid (tok3 (pre.map (·.1)) ++ [((kd : Int), (i : Int), (j : Int))] = tok3 ((pre ++ [((kd, i, j), true)]).map (·.1))) := hsn
      clear hlen hnl hsn
      gi_wp2_with (gi_at_builtin; refine wpListIn_append3 Try.underlying23 info_ltok rfl _ _ rfl (w.heap.size + 7) (.slice va n vc) _ kd i j W.heap.size 1 rfl rfl hl1 (by simp [go_sem]) (by simp [go_sem]) (by simp [go_sem]) HN.out.2.1 HN.out.2.2 ?_; intro v9 w9 h9 g9 b9; obtain ⟨va9, vc9, e9, -⟩ := h9.form; obtain ⟨n9, hn9⟩ : ∃ n, (tok3 (pre.map (·.1)) ++ [((kd : Int), (i : Int), (j : Int))]).length = n := ⟨_, rfl⟩; rw [hn9] at e9; subst e9; obtain ⟨c9, f9⟩ := app_cell HI.out.1 ((IsGr.refl W).alloc (.cells #[.int .i64 (kd : Nat), .int .i64 (i : Nat), .int .i64 (j : Nat)] 31)) g9; rw [HSN.out] at h9; have H9 : Hid (_ ∧ _ ∧ _) := And.intro h9 (And.intro g9 b9); clear h9 g9 b9 hn9)
      obtain ⟨⟨k1, k2⟩, k3⟩ := kpO_app (Z := [w.heap.size + 4]) HI.out.1 ((IsGr.refl W).alloc (.cells #[.int .i64 (kd : Nat), .int .i64 (i : Nat), .int .i64 (j : Nat)] 31)) H9.out.2.1 H9.out.2.2 H9.out.1 (fun z hz => by simpa using hz)
      exact ⟨⟨⟨k1.size, fun k hk => k2 k (by omega) (by have := HI.out.2.2.1; omega)⟩, k1⟩, HN.out.1, _, k3⟩
end Go.Proofs.Ytpgcfnpnpmpkeaa
