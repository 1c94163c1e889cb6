/- gromalaw05 over the loaded program: AvlSorts' law. -/
import Derived.Test.YtaackkfegkmpkaaE33
import Derived.LoopIn
import Derived.Shelf.RegionOpen
namespace Go.Proofs.Ytaackkfegkmpkaa
open Go.RowKit Go.Shelf
attribute [local go_sem] Oper.semAt_some
set_option maxRecDepth 100000 in
set_option maxHeartbeats 2000000 in
theorem law_sorts_many (a : Option Addr) (n c : Nat) (turn : Int) (w : World) (hn : ¬ (n ≤ 150 ∧ 0 ≤ turn ∧ turn ≤ 1000)) :
    Calls Try.prog 7 #[.slice a n c, .int .i64 turn] w fun e w' => e = .returned (.bool true) ∧ Below w.heap.size w w' := by
  refine (callsIn_wide (n := 9)).1 ?_
  refine callsIn_of_wp_marks Try.func7 rfl trivial ?_ rfl
  simp only [Try.ntmps7, List.size_toArray, List.length_cons, List.length_nil, Nat.reduceAdd, Nat.reduceSub, Array.replicate_succ, Array.replicate_zero, List.push_toArray, List.append_toArray, List.nil_append, List.cons_append]
  gi_wp2
  refine ⟨trivial, ?_⟩
  refine (callsIn_wide.2 (New_any 25 _)).mono ?_
  rintro e w1 ⟨rfl, e1⟩
  have cb := cell_new w (.bool false) 4
  have B1 : Below w.heap.size w w1 := e1 ▸ (((IsGr.refl w).alloc _).alloc _).below
  have cb1 : w1.cell? ⟨w.heap.size, 0, none⟩ = some (.bool false) ∧ w1.frozen? ⟨w.heap.size, 0, none⟩ = false := e1 ▸ ⟨cell_past _ cb.1, frozen_past _ cb.1 cb.2⟩
  clear e1 cb
  gi_wp2
  all_goals first
    | (exfalso; omega; done)
    | (refine ⟨trivial, ?_⟩
       refine (callsIn_wide.2 (awake_any _)).mono ?_
       rintro e w2 ⟨rfl, h2⟩
       have cb2 := (h2.cell (p := ⟨w.heap.size, 0, none⟩) (block_lt cb1.1)).trans cb1.1
       have fb2 := (h2.frozen (p := ⟨w.heap.size, 0, none⟩) (block_lt cb1.1)).trans cb1.2
       gi_wp2
       have hc5 := cell_s (v := .bool true) cb2
       refine ⟨.bool true, ?_, rfl, (B1.trans (h2.mono B1.size)).setCell (p := ⟨w.heap.size, 0, none⟩) (Nat.le_refl _) _⟩
       simp [results, Try.f7, go_sem, hc5])

/-- What lies in the boxes of AvlSorts' second loop. -/
def SB (b : Nat) (pre : List I64x) (W : World) : Prop :=
  (W.cell? ⟨b, 0, none⟩ = some (.int .i64 (lastv pre)) ∧ W.frozen? ⟨b, 0, none⟩ = false) ∧ W.cell? ⟨b + 1, 0, none⟩ = some (.int .i64 pre.length) ∧ W.frozen? ⟨b + 1, 0, none⟩ = false
theorem SB.set1 {b : Nat} {pre : List I64x} {W : World} (h : SB b pre W) (x : I64x) : SB b (pre ++ [x]) ((W.setCell ⟨b, 0, none⟩ (.int .i64 x.1)).setCell ⟨b + 1, 0, none⟩ (.int .i64 ((pre.length : Int) + 1))) := by
  obtain ⟨⟨h0, f0⟩, h1, f1⟩ := h
  refine ⟨⟨?_, ?_⟩, ?_, ?_⟩
  · rw [cell_o _ _ _ (by omega), cell_s h0]; simp [lastv]
  · rw [World.frozen?_setCell, World.frozen?_setCell]; exact f0
  · rw [cell_s (u := .int .i64 pre.length) (by rw [cell_o _ _ _ (by omega)]; exact h1)]; simp
  · rw [World.frozen?_setCell, World.frozen?_setCell]; exact f1
theorem SB.drew {b : Nat} {pre : List I64x} {W : World} (h : SB b pre W) : SB b pre W.drew := h
set_option maxRecDepth 100000 in
set_option maxHeartbeats 2000000 in
theorem law_sorts_few (a : Option Addr) (n c : Nat) (l : List Int) (turn : Nat) (w : World) (h : Ins w a n l) (hn : n ≤ 150) (ht : turn ≤ 1000) :
    Calls Try.prog 7 #[.slice a n c, .int .i64 turn] w fun e w' => e = .returned (.bool true) ∧ Below w.heap.size w w' := by
  have hn1 : ¬ (150 : Int) < n := by omega
  have hn2 : (n : Int) ≤ 150 := by omega
  have ht1 : ¬ (1000 : Int) < turn := by omega
  have HP : Hid (Ins w a n l) := h
  clear h
  refine (callsIn_wide (n := 9)).1 ?_
  refine callsIn_of_wp_marks Try.func7 rfl trivial ?_ rfl
  simp only [Try.ntmps7, List.size_toArray, List.length_cons, List.length_nil, Nat.reduceAdd, Nat.reduceSub, Array.replicate_succ, Array.replicate_zero, List.push_toArray, List.append_toArray, List.nil_append, List.cons_append]
  gi_wp2
  refine ⟨trivial, ?_⟩
  refine (callsIn_wide.2 (New_any 25 _)).mono ?_
  rintro e w1 ⟨rfl, e1⟩
  have cb := cell_new w (.bool false) 4
  have HS : Hid (St kn w1 (w.heap.size + 1) 25 .nil ∧ Below w.heap.size w w1 ∧ w1.cell? ⟨w.heap.size, 0, none⟩ = some (.bool false) ∧ w1.frozen? ⟨w.heap.size, 0, none⟩ = false) := by
    have := New_St kn 25 (w.alloc (.cells #[.bool false] 4))
    rw [World.size_alloc] at this
    exact ⟨e1 ▸ this, e1 ▸ (((IsGr.refl w).alloc _).alloc _).below, e1 ▸ ⟨cell_past _ cb.1, frozen_past _ cb.1 cb.2⟩⟩
  clear e1 cb
  gi_wp2
  gi_loopw [35] (fun p wr => ∃ (j : Nat) (T : AT), j ≤ n ∧ p = .int .i64 j ∧ Hid (St kn wr (w.heap.size + 1) 25 T ∧ T.inl.length ≤ j ∧ FromL l T ∧ (∀ b ∈ T.ids, w.heap.size + 1 < b) ∧ Below w.heap.size w wr ∧ wr.cell? ⟨w.heap.size, 0, none⟩ = some (.bool false) ∧ wr.frozen? ⟨w.heap.size, 0, none⟩ = false))
    (fun p wr => n - (intOf p).toNat)
  case atStart => exact ⟨0, .nil, by omega, rfl, HS.out.1, by simp [AT.inl], fun y hy => by simp [AT.vals, AT.inl] at hy, fun b hb => by simp [AT.ids, AT.inl] at hb, HS.out.2.1, HS.out.2.2⟩
  case round =>
    clear HS
    obtain ⟨j, T, hj, rfl, HB⟩ := hrel
    by_cases hjn : j < n
    · obtain ⟨g, o, rfl, h64, hcs⟩ := HP.out.at hjn
      have hc := hcs _ HB.out.2.2.2.2.1
      have hjl : j < l.length := by have := HP.out.1; omega
      have e1 : IntKind.i64.wrap ((j : Int) + 1) = (j : Int) + 1 := by rw [IntKind.wrap_i64]; omega
      have hjn' : (j : Int) < n := by omega
      obtain ⟨x, hx⟩ : ∃ x, l.getD j 0 = x := ⟨_, rfl⟩
      have HX : Hid (l.getD j 0 = x) := hx
      rw [hx] at hc h64
      clear hx hcs
      cases hh : has kn x T with
      | true =>
        have CP := Put_old sorts1_ordr x h64 wr HB.out.1 hh
        clear hh
        gi_wp2
        refine ⟨trivial, ?_⟩
        refine (callsIn_wide.2 CP).mono ?_
        rintro e w3 ⟨rfl, hg⟩
        gi_wp2
        go_roundw
        case rel =>
          have hb := HB.out
          exact ⟨j + 1, T, by omega, by simp, hb.1.gr hg, by omega, hb.2.2.1, hb.2.2.2.1, hb.2.2.2.2.1.trans (hg.below.mono hb.2.2.2.2.1.size), cellk hb.2.2.2.2.2.1 hg, frzk hb.2.2.2.2.2.1 hb.2.2.2.2.2.2 hg⟩
        case measure => simp [intOf]; omega
      | false =>
        have CP := Put_new sorts1_ordr x h64 wr HB.out.1 hh (by have := HB.out.2.1; omega)
        have HH : Hid (has kn x T = false) := hh
        clear hh
        gi_wp2
        refine ⟨trivial, ?_⟩
        refine (callsIn_wide.2 CP).mono ?_
        rintro e w3 ⟨nb, hnb, rfl, hs, hw⟩
        gi_wp2
        go_roundw
        case rel =>
          have hb := HB.out
          have hlow : ∀ b ∈ (w.heap.size + 1) :: T.ids, w.heap.size < b := fun b hm => by
            rcases List.mem_cons.1 hm with rfl | hm
            · omega
            · have := hb.2.2.2.1 b hm; omega
          have hno : w.heap.size ∉ (w.heap.size + 1) :: T.ids := fun hm => by have := hlow _ hm; omega
          refine ⟨j + 1, ins kn nb x T, by omega, by simp, hs, ?_, ?_, ?_, ?_, cell_wr hb.2.2.2.2.2.1 hw hno, ?_⟩
          · have := (ins_perm (nb := nb) HH.out).length_eq; simp at this; have := hb.2.1; omega
          · have := FromL.ins (nb := nb) hb.2.2.1 hjl (by rw [HX.out]; exact HH.out)
            rw [HX.out] at this; exact this
          · intro b hm
            rcases List.mem_cons.1 ((ins_ids (nb := nb) HH.out).subset hm) with rfl | hm
            · have := hb.1.hd.lt; omega
            · exact hb.2.2.2.1 b hm
          · exact hb.2.2.2.2.1.trans (hw.below hb.2.2.2.2.1.size (fun b hm => by have := hlow b hm; omega))
          · have h1 := hw.block w.heap.size (block_lt hb.2.2.2.2.2.1) hno
            unfold World.frozen? at *
            rw [h1]; exact hb.2.2.2.2.2.2
        case measure => simp [intOf]; omega
    · have hj2 : j = n := by omega
      subst hj2
      obtain ⟨W1, hW1⟩ : ∃ W1, W1 = wr := ⟨_, rfl⟩
      subst hW1
      gi_wp2
      refine ⟨trivial, ?_⟩
      gi_at_call 17
      refine (all_in _ _ trivial rfl _ _).mono ?_
      rintro e w' ⟨rfl, e2⟩
      have c1 := cell_new W1 (.int .i64 0) 3
      have c2 := cell_new (W1.alloc (.cells #[.int .i64 0] 3)) (.int .i64 0) 3
      have c3 := cell_new ((W1.alloc (.cells #[.int .i64 0] 3)).alloc (.cells #[.int .i64 0] 3)) (.pointer (some ⟨w.heap.size + 1, 0, none⟩)) 23
      simp only [World.size_alloc] at c2 c3
      have hB0 : Below W1.heap.size W1 w' := e2 ▸ (((IsGr.refl W1).alloc _).alloc _).alloc _ |>.below
      have hsz : w'.heap.size = W1.heap.size + 3 := by rw [e2]; simp
      have hrb : SB W1.heap.size [] w' := e2 ▸ ⟨⟨cell_past _ (cell_past _ c1.1), frozen_past _ (cell_past _ c1.1) (frozen_past _ c1.1 c1.2)⟩, cell_past _ c2.1, frozen_past _ c2.1 c2.2⟩
      have hbx : w'.cell? ⟨W1.heap.size + 1 + 1, 0, none⟩ = some (.pointer (some ⟨w.heap.size + 1, 0, none⟩)) := e2 ▸ c3.1
      clear e2 c1 c2 c3
      obtain ⟨W2, hW2⟩ : ∃ W2, W2 = w' := ⟨_, rfl⟩
      subst hW2
      have hst := HB.out.1
      have hlt := hst.hd.lt
      have hs0 := block_lt HB.out.2.2.2.2.2.1
      simp only at hs0
      gi_wp2
      refine wpIn_rangeFunc_ownF rfl (by omega) (gf := 35) (lb := #[.pointer (some ⟨W1.heap.size + 1 + 1, 0, none⟩)]) rfl trivial (enters_of Try.func35 (by kernel_rfl) rfl)
        (all_stops Fence.wide rfl _ trivial trivial rfl (W1.heap.size + 1 + 1) (w.heap.size + 1) W1.heap.size T W2 (by omega) (by omega) hbx (hst.tree.below hB0 hst.tree.lt) hst.ints (by omega) ((hB0.cell (p := ⟨w.heap.size + 1, 1, none⟩) hlt).trans hst.hd.c1) hst.tree.lt) (fun h1 h2 => h1.trans h2) (belowK_b (by omega)) (Below.refl _ _) (fun _ => rfl)
        (fun pre W => (SB W1.heap.size pre W ∧ RiseL kn (pre.map (·.1))) ∧ Below W1.heap.size W1 W)
        (fun _ pre _ => ¬ RiseL kn (pre.map (·.1)))
        (OwnFrom.and (Own.from (fun s A B row hs hg hr => ⟨⟨⟨cell_kept hs.1.1.1 hg hr, (frozen_kept hs.1.1.1 hg hr).trans hs.1.1.2⟩, cell_kept hs.1.2.1 hg hr, (frozen_kept hs.1.2.1 hg hr).trans hs.1.2.2⟩, hs.2⟩) _) (ownFrom_below (Nat.le_refl _) (by omega)))
        (fun c => Own.from (fun s A B row hs hg hr => hs) _)
        ⟨⟨hrb, by simp [RiseL]⟩, hB0⟩
        ?a1 ?assign ?body ?done ?stop
      case assign =>
        intro l x W K hK
        gi_wp2
        exact hK
      case body =>
        rintro lq pre x W ⟨⟨hrb, hri⟩, hB⟩ hlen
        have hb1 : ∀ W', Below W1.heap.size W W' → Below W1.heap.size W1 W' := fun W' h => hB.trans h
        have hbs := hB.size
        have B1 : Below W1.heap.size W ((W.setCell ⟨W1.heap.size, 0, none⟩ (.int .i64 x.1)).setCell ⟨W1.heap.size + 1, 0, none⟩ (.int .i64 ((pre.length : Int) + 1))).drew := (((Below.refl _ W).setCell (p := ⟨W1.heap.size, 0, none⟩) (Nat.le_refl _) _).setCell (p := ⟨W1.heap.size + 1, 0, none⟩) (by simp) _).drew
        have K1 : KeepsOthers W ((W.setCell ⟨W1.heap.size, 0, none⟩ (.int .i64 x.1)).setCell ⟨W1.heap.size + 1, 0, none⟩ (.int .i64 ((pre.length : Int) + 1))).drew := ((KeepsOthers.setCell _ _ _).trans (KeepsOthers.setCell _ _ _)).trans (KeepsOthers.drew _)
        have hr0 := (hB.cell (p := ⟨w.heap.size, 0, none⟩) hs0).trans HB.out.2.2.2.2.2.1
        have hf0 := (hB.frozen (p := ⟨w.heap.size, 0, none⟩) hs0).trans HB.out.2.2.2.2.2.2
        have hpl : pre.length ≤ 150 := by have := HB.out.2.1; rw [← vals_len] at this; omega
        rcases List.eq_nil_or_concat pre with rfl | ⟨ys, y, hpy⟩
        · have F1 := And.intro K1 (And.intro B1 (And.intro (And.intro (hrb.set1 x).drew (show RiseL kn ((([] : List I64x) ++ [x]).map (·.1)) by simp [RiseL])) (hb1 _ B1)))
          obtain ⟨⟨h0, f0⟩, h1, f1⟩ := hrb
          replace h1 : W.cell? ⟨W1.heap.size + 1, 0, none⟩ = some (.int .i64 0) := h1
          have FF : Hid _ := F1
          clear F1 B1 K1 hri hb1
          have hmx : Try.prog.follows .mixedOrders = true := by kernel_rfl
          gi_wp2
          refine ⟨trivial, ?_⟩
          gi_wp2
          gi_region_with_o (fail)
          all_goals gi_wp2
          all_goals exact FF.out
        · rw [List.concat_eq_append] at hpy
          subst hpy
          have hy : lastv (ys ++ [y]) = y.1 := by simp [lastv]
          have hnr : ¬ kn y.1 < kn x.1 → ¬ RiseL kn ((ys ++ [y] ++ [x]).map (·.1)) := fun hn hr => hn (by
            simp only [RiseL, List.map_append, List.map_cons, List.map_nil, List.pairwise_append] at hr
            exact hr.2.2 y.1 (by simp) x.1 (by simp))
          have CT := fun w => tens_any y.1 x.1 y.2 x.2 w
          have hsg := tensI_sg y.1 x.1
          obtain ⟨d, hd⟩ : ∃ d, tensI y.1 x.1 = d := ⟨_, rfl⟩
          simp only [hd] at CT hsg
          have hsb := hrb
          obtain ⟨⟨h0, f0⟩, h1, f1⟩ := hrb
          rw [hy] at h0
          obtain ⟨i, hi⟩ : ∃ i, (ys ++ [y]).length = i := ⟨_, rfl⟩
          have hi0 : (0 : Int) < i := by rw [← hi]; simp only [List.length_append, List.length_cons, List.length_nil]; omega
          rw [hi] at h1 hpl B1 K1
          have e1 : IntKind.i64.wrap ((i : Int) + 1) = (i : Int) + 1 := by rw [IntKind.wrap_i64]; omega
          by_cases hk : kn y.1 < kn x.1
          · have hrise : RiseL kn ((ys ++ [y] ++ [x]).map (·.1)) := by
              simp only [RiseL, List.map_append, List.map_cons, List.map_nil] at hri ⊢
              rw [List.pairwise_append]
              refine ⟨hri, by simp, fun a ha b hb => ?_⟩
              obtain rfl : b = x.1 := by simpa using hb
              rw [List.pairwise_append] at hri
              rcases List.mem_append.1 ha with h | h
              · exact Int.lt_trans (hri.2.2 a h y.1 (by simp)) hk
              · obtain rfl : a = y.1 := by simpa using h
                exact hk
            have S1 := hsb.set1 x
            rw [hi] at S1
            have FF : Hid _ := And.intro K1 (And.intro B1 (And.intro (And.intro S1.drew hrise) (hb1 _ B1)))
            have hd1 : ¬ d ≤ 0 := by unfold Sg kn at *; omega
            clear S1 B1 K1 hri hb1 hnr hk hrise hsg hd hsb hi
            gi_wp2
            refine ⟨trivial, ?_⟩
            refine (CallsIn.inRound lq (callsIn_wide.2 (CT _))).mono ?_
            rintro e W3 ⟨rfl, e3⟩
            obtain rfl := e3.symm
            have hmx : Try.prog.follows .mixedOrders = true := by kernel_rfl
            gi_wp2
            gi_region_with_o (fail)
            all_goals gi_wp2
            all_goals exact FF.out
          · have hX := hnr hk
            have hd1 : d ≤ 0 := by unfold Sg kn at *; omega
            clear B1 K1 hri hb1 hnr hk hsg hd hsb hi
            gi_wp2
            refine ⟨trivial, ?_⟩
            refine (CallsIn.inRound lq (callsIn_wide.2 (CT _))).mono ?_
            rintro e W3 ⟨rfl, e3⟩
            obtain rfl := e3.symm
            gi_wp2
            exact ⟨KeepsOthers.setCell _ _ _, hX⟩
      case done =>
        rintro D ys W hD _ ⟨_, hB⟩ hK
        have HW : Hid (St kn W (w.heap.size + 1) 25 T ∧ T.inl.length ≤ 150 ∧ Left3 l turn 0 T ∧ (∀ b ∈ T.ids, w.heap.size + 1 < b ∧ b < W1.heap.size) ∧ Below w.heap.size w W ∧ W.cell? ⟨w.heap.size, 0, none⟩ = some (.bool false) ∧ W.frozen? ⟨w.heap.size, 0, none⟩ = false ∧ W.heap[D]? = some (.deferred (some []))) := by
          have hb := HB.out
          exact ⟨hst.wr (Wr.of_below hB) (by simp), by omega, hb.2.2.1.left turn, fun b hm => ⟨hb.2.2.2.1 b hm, hst.tree.lt b hm⟩, hb.2.2.2.2.1.trans (hB.mono hb.2.2.2.2.1.size), (hB.cell (p := ⟨w.heap.size, 0, none⟩) hs0).trans hb.2.2.2.2.2.1, (hB.frozen (p := ⟨w.heap.size, 0, none⟩) hs0).trans hb.2.2.2.2.2.2, hK⟩
        have hDW : W1.heap.size ≤ D := by omega
        clear HB hst hB hrb hbx hB0 hsz hK
        gi_wp2
        gi_loopw [59] (fun p wr => ∃ (i : Nat) (U : AT), i ≤ j ∧ p = .int .i64 i ∧ Hid (St kn wr (w.heap.size + 1) 25 U ∧ U.inl.length ≤ 150 ∧ Left3 l turn i U ∧ (∀ b ∈ U.ids, w.heap.size + 1 < b ∧ b < W1.heap.size) ∧ Below w.heap.size w wr ∧ wr.cell? ⟨w.heap.size, 0, none⟩ = some (.bool false) ∧ wr.frozen? ⟨w.heap.size, 0, none⟩ = false ∧ wr.heap[D]? = some (.deferred (some []))))
          (fun p wr => j - (intOf p).toNat)
        case atStart => exact ⟨0, T, by omega, rfl, HW⟩
        case round =>
          clear HW
          obtain ⟨i, U, hi, rfl, HU⟩ := hrel
          by_cases hij : i < j
          · have hq : (i + turn) % j < j := Nat.mod_lt _ (by omega)
            have hjl : l.length = j := HP.out.1.symm
            obtain ⟨g, o, rfl, h64, hcs⟩ := HP.out.at hq
            have hc := hcs _ HU.out.2.2.2.2.1
            have v1 : IntKind.i64.wrap ((i : Int) + turn) = (i : Int) + turn := by rw [IntKind.wrap_i64]; omega
            have v2 : ((i : Int) + turn).tmod (j : Int) = (((i + turn) % j : Nat) : Int) := by
              rw [Int.tmod_eq_emod_of_nonneg (by omega)]; simp
            have n0 : ¬ j = 0 := by omega
            have hqn : (((i + turn) % j : Nat) : Int) < j := by omega
            have e1 : IntKind.i64.wrap ((i : Int) + 1) = (i : Int) + 1 := by rw [IntKind.wrap_i64]; omega
            have hij' : (i : Int) < j := by omega
            have hmo : ∀ x, has kn (l.getD ((i + turn) % j) 0) U = x → has kn (l.getD ((i + turn) % l.length) 0) U = x := fun x h => by rw [hjl]; exact h
            have hsame : has kn (l.getD ((i + turn) % j) 0) U = false → Left3 l turn (i + 1) U := fun h => HU.out.2.2.1.same HU.out.1.rise (hmo _ h)
            have hdel : has kn (l.getD ((i + turn) % j) 0) U = true → Left3 l turn (i + 1) (del kn (l.getD ((i + turn) % j) 0) U) := fun h => by
              have := HU.out.2.2.1.del HU.out.1.rise (hmo _ h)
              rwa [hjl] at this
            obtain ⟨q, hqq⟩ : ∃ q, (i + turn) % j = q := ⟨_, rfl⟩
            rw [hqq] at v2 hqn hc h64 hsame hdel
            obtain ⟨x, hx⟩ : ∃ x, l.getD q 0 = x := ⟨_, rfl⟩
            rw [hx] at hc h64 hsame hdel
            have HSM : Hid (has kn x U = false → Left3 l turn (i + 1) U) := hsame
            have HDL : Hid (has kn x U = true → Left3 l turn (i + 1) (del kn x U)) := hdel
            clear hsame hdel hmo hjl hcs hqq hx hq
            have hDt : D ∉ (w.heap.size + 1) :: U.ids := fun hm => by
              rcases List.mem_cons.1 hm with e | e
              · have := HU.out.1.hd.lt; have := HU.out.2.2.2.1; omega
              · have := (HU.out.2.2.2.1 D e).2; omega
            have hst0 : w.heap.size ∉ (w.heap.size + 1) :: U.ids := fun hm => by
              rcases List.mem_cons.1 hm with e | e
              · omega
              · have := (HU.out.2.2.2.1 _ e).1; omega
            cases hh : has kn x U with
            | false =>
              have CP := Del_old sorts1_ordr x h64 wr HU.out.1 hh
              have HL := HSM.out hh
              have CC := fun w3 (hg : IsGr wr w3) => Check_any sorts1_ordr w3 (HU.out.1.gr hg) (by have := HU.out.2.1; omega)
              have HL' : Hid (Left3 l turn (i + 1) U) := HL
              clear hh HSM HDL HL
              gi_wp2
              refine ⟨trivial, ?_⟩
              refine (callsIn_wide.2 CP).mono ?_
              rintro e w3 ⟨rfl, hg⟩
              gi_wp2
              refine ⟨trivial, ?_⟩
              refine (callsIn_wide.2 (CC _ hg)).mono ?_
              rintro e w4 ⟨rfl, h4⟩
              gi_wp2
              go_roundw
              case rel =>
                have hb := HU.out
                have h5 : Below wr.heap.size wr w4 := hg.below.trans (h4.mono hg.size)
                exact ⟨i + 1, U, by omega, by simp, hb.1.wr (Wr.of_below h5) (by simp), hb.2.1, HL'.out, hb.2.2.2.1, hb.2.2.2.2.1.trans (h5.mono hb.2.2.2.2.1.size), (h5.cell (p := ⟨w.heap.size, 0, none⟩) (block_lt hb.2.2.2.2.2.1)).trans hb.2.2.2.2.2.1, (h5.frozen (p := ⟨w.heap.size, 0, none⟩) (block_lt hb.2.2.2.2.2.1)).trans hb.2.2.2.2.2.2.1, (h5.block D (Array.getElem?_eq_some_iff.1 hb.2.2.2.2.2.2.2).1).trans hb.2.2.2.2.2.2.2⟩
              case measure => simp [intOf]; omega
            | true =>
              have CP := Del_new sorts1_ordr x h64 wr HU.out.1 hh (by have := HU.out.2.1; omega)
              have HL := HDL.out hh
              have hlen : (del kn x U).inl.length ≤ 150 := by
                obtain ⟨A, y, B, q1, _, q3⟩ := del_spec hh
                have := HU.out.2.1
                rw [q1] at this; rw [q3]; simp at this ⊢; omega
              have hsub := (del_sub hh).subset
              obtain ⟨V, hV⟩ : ∃ V, del kn x U = V := ⟨_, rfl⟩
              rw [hV] at CP HL hlen hsub
              have HL' : Hid (Left3 l turn (i + 1) V ∧ V.inl.length ≤ 150 ∧ (∀ b ∈ V.ids, b ∈ U.ids)) := ⟨HL, hlen, fun b hb => hsub hb⟩
              clear hh HSM HDL HL hlen hsub hV
              gi_wp2
              refine ⟨trivial, ?_⟩
              refine (callsIn_wide.2 CP).mono ?_
              rintro e w3 ⟨rfl, hs3, hw3⟩
              have CC := Check_any sorts1_ordr w3 hs3 (by have := HL'.out.2.1; omega)
              have HS3 : Hid (St kn w3 (w.heap.size + 1) 25 V) := hs3
              clear hs3
              gi_wp2
              refine ⟨trivial, ?_⟩
              refine (callsIn_wide.2 CC).mono ?_
              rintro e w4 ⟨rfl, h4⟩
              gi_wp2
              go_roundw
              case rel =>
                have hb := HU.out
                have hcell := cell_wr hb.2.2.2.2.2.1 hw3 hst0
                have hlt0 := block_lt hb.2.2.2.2.2.1
                have hfz : w3.frozen? ⟨w.heap.size, 0, none⟩ = false := by
                  have h1 := hw3.block w.heap.size hlt0 hst0
                  have h2 := hb.2.2.2.2.2.2.1
                  unfold World.frozen? at *
                  rw [h1]; exact h2
                have hdd : w3.heap[D]? = some (.deferred (some [])) := (hw3.block D (Array.getElem?_eq_some_iff.1 hb.2.2.2.2.2.2.2).1 hDt).trans hb.2.2.2.2.2.2.2
                have hbe : Below w.heap.size wr w3 := hw3.below hb.2.2.2.2.1.size (fun b hm => by
                  rcases List.mem_cons.1 hm with rfl | hm
                  · omega
                  · have := (hb.2.2.2.1 b hm).1; omega)
                exact ⟨i + 1, V, by omega, by simp, HS3.out.wr (Wr.of_below h4) (by simp), HL'.out.2.1, HL'.out.1, fun b hm => hb.2.2.2.1 b (HL'.out.2.2 b hm), hb.2.2.2.2.1.trans (hbe.trans (h4.mono (Nat.le_trans hb.2.2.2.2.1.size hw3.size))), (h4.cell (p := ⟨w.heap.size, 0, none⟩) (block_lt hcell)).trans hcell, (h4.frozen (p := ⟨w.heap.size, 0, none⟩) (block_lt hcell)).trans hfz, (h4.block D (Array.getElem?_eq_some_iff.1 hdd).1).trans hdd⟩
              case measure => simp [intOf]; omega
          · have hi2 : i = j := by omega
            subst hi2
            have hjl : l.length = i := HP.out.1.symm
            obtain rfl : U = .nil := Left3.none (turn := turn) (by rw [hjl]; exact HU.out.2.2.1)
            have CL : Calls Try.prog 13 #[.pointer (some ⟨w.heap.size + 1, 0, none⟩)] wr fun e w' => e = .returned (.int .i64 0) ∧ w' = wr := Len_any wr HU.out.1
            have CD : Calls Try.prog 23 #[.pointer (some ⟨w.heap.size + 1, 0, none⟩)] wr fun e w' => e = .returned (.int .i64 0) ∧ w' = wr := Deep_any wr HU.out.1
            clear hjl
            gi_wp2
            refine ⟨trivial, ?_⟩
            refine (callsIn_wide.2 CL).mono ?_
            rintro e w3 ⟨rfl, e3⟩
            obtain rfl := e3.symm
            gi_wp2
            refine ⟨trivial, ?_⟩
            refine (callsIn_wide.2 CD).mono ?_
            rintro e w3 ⟨rfl, e3⟩
            obtain rfl := e3.symm
            gi_wp2
            refine ⟨trivial, ?_⟩
            refine (callsIn_wide.2 (awake_any _)).mono ?_
            rintro e w4 ⟨rfl, h4⟩
            have hb := HU.out
            have k1 := (h4.cell (p := ⟨w.heap.size, 0, none⟩) (block_lt hb.2.2.2.2.2.1)).trans hb.2.2.2.2.2.1
            have k2 := (h4.frozen (p := ⟨w.heap.size, 0, none⟩) (block_lt hb.2.2.2.2.2.1)).trans hb.2.2.2.2.2.2.1
            have k3 := (h4.block D (Array.getElem?_eq_some_iff.1 hb.2.2.2.2.2.2.2).1).trans hb.2.2.2.2.2.2.2
            have k4 := hb.2.2.2.2.1.trans (h4.mono hb.2.2.2.2.1.size)
            clear hb
            gi_wp2
            have hK' := (KeepsOthers.setCell w4 ⟨w.heap.size, 0, none⟩ (.bool true)).same D _ k3 rfl
            refine ⟨by simp, .inl ⟨_, _, rfl, run_takeDeferred hK', ?_⟩⟩
            have hc5 := cell_kept (cell_s (v := .bool true) k1) (grownBy_putObj' _ D (.deferred none)) (fun r e => by cases e; exact ⟨_, hK', rfl⟩)
            refine ⟨.bool true, ?_, rfl, (k4.setCell (p := ⟨w.heap.size, 0, none⟩) (Nat.le_refl _) _).trans (belowK_b (w := w) (Nat.le_refl _) _ D _ _ (by omega) hK' rfl rfl)⟩
            simp [results, Try.f7, go_sem, hc5]
      case stop =>
        rintro D c pre W hD hpre hn hK
        exact absurd (List.Pairwise.sublist hpre.sublist (rise_vals hst.rise)) hn
theorem law_sorts (a : Option Addr) (n c : Nat) (l : List Int) (turn : Int) (_ : -9223372036854775808 ≤ turn) (_ : turn < 9223372036854775808) (w : World) (h : Ins w a n l) : Calls Try.prog 7 #[.slice a n c, .int .i64 turn] w fun e w' => e = .returned (.bool true) ∧ Below w.heap.size w w' := by
  by_cases hn : n ≤ 150 ∧ 0 ≤ turn ∧ turn ≤ 1000
  · obtain ⟨k, rfl⟩ := Int.eq_ofNat_of_zero_le hn.2.1
    exact law_sorts_few a n c l k w h hn.1 (by omega)
  · exact law_sorts_many a n c turn w hn
end Go.Proofs.Ytaackkfegkmpkaa
