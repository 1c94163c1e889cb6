/- Contracts of package point over the loaded program: bow. -/
import Derived.Test.YtohhlhoijanjfaaM11
import Derived.Test.YtohhlhoijanjfaaGU
import Derived.Test.YtohhlhoijanjfaaU4
import Derived.Test.YtohhlhoijanjfaaU16g
import Derived.Test.YtohhlhoijanjfaaGA
namespace Go.Proofs.Ytohhlhoijanjfaa
open Go.RowKit Go.Shelf
attribute [local go_sem] Gr.size Gr.cell? Gr.frozen? Gr.setCell Gr.drew Gr.drewN Gr.of_drew Gr.of_drewN Gr.gr Gr.lt_of1 Gr.le_of1 Gr.lt_of2 Gr.le_of2 Gr.lt_of3 Gr.le_of3 Gr.lt_of4 Gr.le_of4 Gr.lt_of5 Gr.le_of5 Gr.lt_of6 Gr.le_of6 Gr.lt_of7 Gr.le_of7 Gr.lt_of8 Gr.le_of8 Gr.lt_of9 Gr.le_of9 Gr.lt_of10 Gr.le_of10 Gr.lt_of11 Gr.le_of11 Gr.lt_of12 Gr.le_of12 Gr.lt_of13 Gr.le_of13 Gr.lt_of14 Gr.le_of14 Gr.lt_of15 Gr.le_of15 Gr.lt_of16 Gr.le_of16 Gr.lt_of17 Gr.le_of17 Gr.lt_of18 Gr.le_of18 Gr.lt_of19 Gr.le_of19 Gr.lt_of20 Gr.le_of20 Gr.lt_of21 Gr.le_of21 Gr.lt_of22 Gr.le_of22 Gr.lt_of23 Gr.le_of23 Gr.lt_of24 Gr.le_of24

theorem info_p5 : (Try.prog.info? 24).map (fun i => (i.zero, i.size, i.bytes)) = some (some (.agg #[.int .i64 0, .int .i64 0]), 2, 16) := by kernel_rfl
theorem own_gr5 {w w' : World} {base : Nat} {e : TypeId} {size : Nat} {v : Value} {n : Nat} {xs : List Value} (h : w.ownsRow base e size v n xs) (hg : IsGr w w') : w'.ownsRow base e size v n xs := by
  obtain ⟨os, k, rfl⟩ := hg
  obtain ⟨h1, h2⟩ := h
  refine ⟨h1, ?_⟩
  rcases h2 with h2 | ⟨g, cap, cur, rfl, hB, hb, hr⟩
  · exact Or.inl h2
  · refine Or.inr ⟨g, cap, cur, rfl, hB, ?_, hr⟩
    have hlt : g < w.heap.size := (Array.getElem?_eq_some_iff.1 hb).1
    show (w.heap ++ os)[g]? = _
    rw [Array.getElem?_append_left hlt]
    exact hb
/-- Is the top taken off, before q is put on? -/
def popD (q : Int × Int) : List (Int × Int) → Bool
  | b :: a :: _ => decide (tP a b q ≤ 0)
  | _ => false
theorem popD_t {q : Int × Int} {st : List (Int × Int)} (h : popD q st = true) : ∃ b a r, st = b :: a :: r ∧ popK q st = popK q (a :: r) := by
  match st, h with
  | [], h => cases h
  | [_], h => cases h
  | b :: a :: r, h =>
    simp only [popD, decide_eq_true_eq] at h
    exact ⟨b, a, r, rfl, by rw [popK, if_pos h]⟩
theorem popD_f {q : Int × Int} {st : List (Int × Int)} (h : popD q st = false) : popK q st = st := by
  match st, h with
  | [], _ => rfl
  | [_], _ => rfl
  | b :: a :: r, h =>
    simp only [popD, decide_eq_false_iff_not] at h
    rw [popK, if_neg h]
theorem bowS_snoc (q : Int × Int) : ∀ (l st : List (Int × Int)), bowS (l ++ [q]) st = q :: popK q (bowS l st)
  | [], st => rfl
  | x :: l, st => by
    show bowS (l ++ [q]) (x :: popK x st) = _
    rw [bowS_snoc q l]
    rfl
theorem popK_len (q : Int × Int) : ∀ st : List (Int × Int), (popK q st).length ≤ st.length
  | [] => by simp [popK]
  | [_] => by simp [popK]
  | b :: a :: r => by
    unfold popK
    split
    · have := popK_len q (a :: r)
      simp at this ⊢
      omega
    · simp
theorem take_getD5 {l : List (Int × Int)} {k : Nat} (h : k < l.length) : l.take (k + 1) = l.take k ++ [((l.getD k (0, 0)).1, (l.getD k (0, 0)).2)] := by
  have e : l.getD k (0, 0) = l[k] := by simp [h]
  rw [e, List.take_succ_eq_append_getElem h]
theorem popK_mem (q : Int × Int) : ∀ (st : List (Int × Int)) (x : Int × Int), x ∈ popK q st → x ∈ st
  | [], x, h => by simp [popK] at h
  | [_], x, h => by simpa [popK] using h
  | b :: a :: r, x, h => by
    unfold popK at h
    split at h
    · exact List.mem_cons_of_mem _ (popK_mem q (a :: r) x h)
    · exact h
theorem bowS_mem : ∀ (l st : List (Int × Int)) (x : Int × Int), x ∈ bowS l st → x ∈ l ∨ x ∈ st
  | [], st, x, h => Or.inr h
  | q :: l, st, x, h => by
    rcases bowS_mem l _ x h with g | g
    · exact Or.inl (List.mem_cons_of_mem _ g)
    · rcases List.mem_cons.1 g with rfl | g
      · exact Or.inl List.mem_cons_self
      · exact Or.inr (popK_mem q st x g)
theorem bowS_right {l : List (Int × Int)} (h : allR l = true) (k : Nat) (x : Int × Int) (hx : x ∈ bowS (l.take k) []) : rightP x.1 x.2 = true := by
  rcases bowS_mem _ _ x hx with g | g
  · have := List.mem_of_mem_take g
    unfold allR at h
    rw [List.all_eq_true] at h
    exact h x this
  · simp at g
/-- A row that is cut at its end. -/
theorem own_cut {w : World} {base : Nat} {e : TypeId} {g n c : Nat} {l : List (Int × Int)} {x : Int × Int} (h : w.ownsRow base e 2 (.slice (some ⟨g, 0, none⟩) n c) n (ptCs (l ++ [x]))) : w.ownsRow base e 2 (.slice (some ⟨g, 0, none⟩) l.length c) l.length (ptCs l) := by
  obtain ⟨h1, h2⟩ := h
  rw [ptCs_length] at h1
  have hn : n = l.length + 1 := by simp at h1; omega
  refine ⟨ptCs_length l, ?_⟩
  rcases h2 with ⟨h2, _⟩ | ⟨g', cap, cur, e1, hB, hb, hc1, hc2, hs, ht⟩
  · cases h2
  · injection e1 with e1 e2 e3
    injection e1 with e1
    injection e1 with e1
    subst e1 e3
    refine Or.inr ⟨g, c, cur, rfl, hB, hb, by omega, hc2, hs, ?_⟩
    have : cur.toList.take (l.length * 2) = (cur.toList.take (n * 2)).take (l.length * 2) := by rw [List.take_take, Nat.min_eq_left (by omega)]
    rw [this, ht, ptCs_append]
    have e4 : (ptCs l).length = l.length * 2 := ptCs_length l
    rw [← e4]
    exact List.take_left


set_option maxRecDepth 20000 in set_option maxHeartbeats 2000000 in
theorem bow_any (a : Option Addr) (n c : Nat) (l : List (Int × Int)) (w : World) (h : Pts w (.slice a n c) l) (hr : allR l = true) (hn : n ≤ 4096) :
    Calls Try.prog 56 #[.slice a n c] w fun e w' => ∃ v, e = .returned v ∧ w'.ownsRow w.heap.size 24 2 v (bowL l).length (ptCs (bowL l)) ∧ IsGr w w' := by
  obtain ⟨i0, hi, hz0, hz1, hz2⟩ := info_parts info_p5
  have HP : Hid (Pts w (.slice a n c) l) := h
  have HL : Hid (n = l.length) := h.len
  have Hn : Hid (n ≤ 4096) := hn
  have HR : Hid (allR l = true) := hr
  have hn' : (n : Int) ≤ 4096 := by omega
  clear h hr hn
  go_enter Try.func56, Try.ntmps56
  go_wp2
  go_loopw [3, 8] (fun t3 t8 wr => ∃ (k : Nat) (st : List (Int × Int)), k ≤ n ∧ t8 = .int .i64 k ∧ Hid (bowS (l.take k) [] = st ∧ st.length ≤ k) ∧ wr.ownsRow w.heap.size 24 2 t3 st.length (ptCs st.reverse) ∧ Hid (Below w.heap.size w wr)) (fun _ t8 _ => (n - intOf t8).toNat)
  case atStart => exact ⟨0, [], by omega, rfl, ⟨by simp [bowS], by simp⟩, World.ownsRow_nil _ _ _ _, Below.refl _ _⟩
  case round =>
    obtain ⟨k, st, hk, rfl, HS, hown, HB⟩ := hrel
    obtain ⟨W2, hW2⟩ : ∃ W2, W2 = wr := ⟨_, rfl⟩
    subst hW2
    have kw : w.heap.size ≤ W2.heap.size := HB.out.size
    by_cases hkn : k < n
    · have hkl : k < l.length := by have := HL.out; omega
      have hP := HP.out.gr (IsGr.of_below HB.out)
      obtain ⟨g9, o9, rfl, hgs, hc⟩ := hP.at hkn
      obtain ⟨e1, e2⟩ := hc k hkn
      have hkn' : (k : Int) < n := by omega
      have v1 : IntKind.i64.wrap ((k : Int) + 1) = (k : Int) + 1 := by rw [IntKind.wrap_i64]; omega
      have rq : rightP (l.getD k (0, 0)).1 (l.getD k (0, 0)).2 = true := allR_get HR.out k
      have HN : Hid (bowS (l.take (k + 1)) [] = ((l.getD k (0, 0)).1, (l.getD k (0, 0)).2) :: popK ((l.getD k (0, 0)).1, (l.getD k (0, 0)).2) st) := by
        unfold Hid; rw [take_getD5 hkl, bowS_snoc, HS.out.1]
      have HM : Hid (∀ x ∈ st, rightP x.1 x.2 = true) := fun x hx => by
        have := HS.out.1
        exact bowS_right HR.out k x (by rw [this]; exact hx)
      have Hsk : Hid (st.length ≤ k) := HS.out.2
      clear hc hP
      generalize (l.getD k (0, 0)).1 = x at *
      generalize (l.getD k (0, 0)).2 = y at *
      clear HS
      go_upto_region 4 with fail
      go_cut [5, 8] from 8 to 41 (fun t5 t8 wx => t8 = .int .i64 k ∧ t5 = .pointer (some ⟨W2.heap.size, 0, none⟩) ∧ (wx.cell? ⟨W2.heap.size, 0, none⟩ = some (.int .i64 x) ∧ wx.cell? ⟨W2.heap.size, 1, none⟩ = some (.int .i64 y)) ∧ W2.heap.size < wx.heap.size ∧ IsGr W2 wx)
      case first =>
        go_wp2
        go_meet
        case rel =>
          refine ⟨rfl, rfl, ?_, ?_, (by with_reducible repeat (first | exact IsGr.refl _ | refine IsGr.gr ?_ _ _ | refine IsGr.alloc ?_ _ | refine IsGr.drew ?_ | refine IsGr.drewN ?_ _))⟩
          · simp [go_sem]
          · first | omega | (simp; done) | (simp; omega) | (simp [Gr.size]; done) | (simp [Gr.size]; omega)
      case rest =>
        obtain ⟨rfl, rfl, ⟨x1', x2'⟩, kp, hgr⟩ := hcut
        obtain ⟨W3, hW9⟩ : ∃ W3, W3 = wc := ⟨_, rfl⟩
        subst hW9
        replace hown := own_gr5 hown hgr
        replace HB : Hid (Below w.heap.size w W3) := HB.out.trans (hgr.below.mono kw)
        clear hgr e1 e2 hgs
        go_wp2
        go_loopw [3] (fun t3 wr => ∃ st' : List (Int × Int), Hid (popK (x, y) st' = popK (x, y) st ∧ st'.length ≤ k ∧ ∀ z ∈ st', rightP z.1 z.2 = true) ∧ wr.ownsRow w.heap.size 24 2 t3 st'.length (ptCs st'.reverse) ∧ (wr.cell? ⟨W2.heap.size, 0, none⟩ = some (.int .i64 x) ∧ wr.cell? ⟨W2.heap.size, 1, none⟩ = some (.int .i64 y)) ∧ Hid (W2.heap.size < wr.heap.size ∧ Below w.heap.size w wr)) (fun t3 _ => (match t3 with | .slice _ m _ => m | _ => 0))
        case atStart => exact ⟨st, ⟨rfl, Hsk.out, HM.out⟩, hown, ⟨x1', x2'⟩, ⟨kp, HB.out⟩⟩
        case round =>
          clear HB hown x1' x2' kp HM Hsk
          obtain ⟨st', HS, hown, ⟨x1', x2'⟩, HW⟩ := hrel
          obtain ⟨W4, hW4⟩ : ∃ W4, W4 = wr := ⟨_, rfl⟩
          subst hW4
          have kp : W2.heap.size < W4.heap.size := HW.out.1
          have HB : Hid (Below w.heap.size w W4) := HW.out.2
          clear HW
          obtain ⟨A, N, CC, hv, HLn, hA⟩ : ∃ (A : Option Addr) (N CC : Nat), u3 = .slice A N CC ∧ Hid (st'.length = N) ∧ (0 < N → ∃ g, A = some ⟨g, 0, none⟩ ∧ g < W4.heap.size ∧ N ≤ CC) := by
            rcases hown.2 with ⟨h1, h2⟩ | ⟨g, cap, cur, h1, hb, h2, h3, _⟩
            · exact ⟨none, 0, 0, h1, h2, fun h => by omega⟩
            · exact ⟨_, _, _, h1, rfl, fun _ => ⟨g, rfl, (Array.getElem?_eq_some_iff.1 h2).1, h3⟩⟩
          subst hv
          rw [HLn.out] at hown
          have hNk : N ≤ 4096 := by have := HS.out.2.1; have := HLn.out; have := Hn.out; omega
          obtain ⟨D, HD⟩ : ∃ D, Hid (popD (x, y) st' = D) := ⟨_, rfl⟩
          go_upto_region 5 with fail
          go_cut [31] from 12 to 36 (fun t31 wx => t31 = .bool D ∧ IsGr W4 wx)
          case first =>
            clear HN HB
            by_cases hN : 1 < N
            · obtain ⟨b1, b2, a1, a2, r, hst⟩ : ∃ (b1 b2 a1 a2 : Int) (r : List (Int × Int)), st' = (b1, b2) :: (a1, a2) :: r := by
                match st', HLn with
                | [], h => simp [Hid] at h; omega
                | [_], h => simp [Hid] at h; omega
                | (b1, b2) :: (a1, a2) :: r, _ => exact ⟨b1, b2, a1, a2, r, rfl⟩
              obtain ⟨g, rfl, hgs, hNc⟩ := hA (by omega)
              obtain ⟨m, hm⟩ : ∃ m, m = r.length := ⟨_, rfl⟩
              obtain ⟨m1, hm1⟩ : ∃ m1, m1 = m + 1 := ⟨_, rfl⟩
              have hNm : N = m + 2 := by rw [← HLn.out, hst, hm]; rfl
              have hP := (Pts.of_own hown).2
              have ra : rightP a1 a2 = true := HS.out.2.2 (a1, a2) (by rw [hst]; simp)
              have rb : rightP b1 b2 = true := HS.out.2.2 (b1, b2) (by rw [hst]; simp)
              obtain ⟨g', o', eg, _, hc⟩ := hP.at (k := 0) (by omega)
              injection eg with eg
              injection eg with eg1 eg2
              subst eg1 eg2
              have ha := hc m (by omega)
              have hb := hc m1 (by omega)
              have la : st'.reverse.getD m (0, 0) = (a1, a2) := by rw [hst, hm]; simp
              have lb : st'.reverse.getD m1 (0, 0) = (b1, b2) := by rw [hst, hm1, hm]; simp
              rw [la] at ha
              rw [lb] at hb
              simp only [Nat.zero_add] at ha hb
              have CT := fun w => Turn_any a1 a2 b1 b2 x y w
              have HW5 : Hid ((decide (wayP a1 a2 b1 b2 x y ≤ 0)) = D) := by
                unfold Hid
                rw [← HD.out, hst]
                unfold popD wayP
                rw [if_pos (by simp [right3, ra, rb, rq])]
                rw [Bool.eq_iff_iff]
                simp only [decide_eq_true_eq]
                show cmpI (turnI a1 a2 b1 b2 x y) 0 ≤ 0 ↔ turnI a1 a2 b1 b2 x y ≤ 0
                unfold cmpI
                repeat' split
                all_goals omega
              have vN2 : IntKind.i64.wrap ((N : Int) - 2) = (m : Int) := by rw [IntKind.wrap_i64]; omega
              have vN1 : IntKind.i64.wrap ((N : Int) - 1) = (m1 : Int) := by rw [IntKind.wrap_i64]; omega
              have hd : decide (1 < N) = true := by simp [hN]
              have hd' : (1 : Int) < N := by omega
              have hmN : (m : Int) < N := by omega
              have hm1N : (m1 : Int) < N := by omega
              have T0 : Hid (∀ t : Int, wayP a1 a2 b1 b2 x y = t → decide (t ≤ 0) = D) := fun t ht => by rw [← ht]; exact HW5.out
              generalize wayP a1 a2 b1 b2 x y = T at CT T0
              have hD := T0.out T rfl
              clear T0 HW5 hP hc la lb HD HS hown HLn hst hm hm1 hNm rq ra rb hA hn' HL HR HP Hn
              obtain ⟨C, hin, hcl, hcells, hgr⟩ : ∃ C : World → Prop, (∀ w', W4.heap.size ≤ w'.heap.size ∧ IsGr W4 w' ∧ (w'.cell? ⟨g, m * 2, none⟩ = some (.int .i64 a1) ∧ w'.cell? ⟨g, m * 2 + 1, none⟩ = some (.int .i64 a2)) ∧ (w'.cell? ⟨g, m1 * 2, none⟩ = some (.int .i64 b1) ∧ w'.cell? ⟨g, m1 * 2 + 1, none⟩ = some (.int .i64 b2)) ∧ (w'.cell? ⟨W2.heap.size, 0, none⟩ = some (.int .i64 x) ∧ w'.cell? ⟨W2.heap.size, 1, none⟩ = some (.int .i64 y)) → C w') ∧ (∀ u u', C u → IsGr u u' → C u') ∧ (∀ w', C w' → (w'.cell? ⟨g, m * 2, none⟩ = some (.int .i64 a1) ∧ w'.cell? ⟨g, m * 2 + 1, none⟩ = some (.int .i64 a2)) ∧ (w'.cell? ⟨g, m1 * 2, none⟩ = some (.int .i64 b1) ∧ w'.cell? ⟨g, m1 * 2 + 1, none⟩ = some (.int .i64 b2)) ∧ (w'.cell? ⟨W2.heap.size, 0, none⟩ = some (.int .i64 x) ∧ w'.cell? ⟨W2.heap.size, 1, none⟩ = some (.int .i64 y))) ∧ (∀ w', C w' → IsGr W4 w') := by
                refine ⟨fun w' => W4.heap.size ≤ w'.heap.size ∧ IsGr W4 w' ∧ (w'.cell? ⟨g, m * 2, none⟩ = some (.int .i64 a1) ∧ w'.cell? ⟨g, m * 2 + 1, none⟩ = some (.int .i64 a2)) ∧ (w'.cell? ⟨g, m1 * 2, none⟩ = some (.int .i64 b1) ∧ w'.cell? ⟨g, m1 * 2 + 1, none⟩ = some (.int .i64 b2)) ∧ (w'.cell? ⟨W2.heap.size, 0, none⟩ = some (.int .i64 x) ∧ w'.cell? ⟨W2.heap.size, 1, none⟩ = some (.int .i64 y)), fun w' h => h, ?_, fun w' h => h.2.2, fun w' h => h.2.1⟩
                rintro u u' ⟨h0, h1, h2⟩ hg
                exact ⟨Nat.le_trans h0 hg.size, h1.trans hg, ⟨hg.cell_at (by omega) h2.1.1, hg.cell_at (by omega) h2.1.2⟩, ⟨hg.cell_at (by omega) h2.2.1.1, hg.cell_at (by omega) h2.2.1.2⟩, ⟨hg.cell_at (by omega) h2.2.2.1, hg.cell_at (by omega) h2.2.2.2⟩⟩
              cases D
              · refine wp_region_quietV C (by kernel_rfl) (by kernel_rfl) (hin _ ⟨by simp, (by with_reducible repeat (first | exact IsGr.refl _ | refine IsGr.gr ?_ _ _ | refine IsGr.alloc ?_ _ | refine IsGr.drew ?_ | refine IsGr.drewN ?_ _)), ⟨ha, hb, ⟨x1', x2'⟩⟩⟩) (fun K HK => ?_)
                refine QK.take HK ?_ (by rfl) ?_ ?_
                rotate_left
                · (intro w hw; (try have hcs := hcells w hw); (try go_split_ands); go_simp <;> with_reducible rfl)
                (try simp only [Act.put, qA, qB, qC])
                refine QK.take HK ?_ (by rfl) ?_ ?_
                rotate_left
                · (intro w hw; (try have hcs := hcells w hw); (try go_split_ands); go_simp <;> with_reducible rfl)
                (try simp only [Act.put, qA, qB, qC])
                refine QK.take HK ?_ (by rfl) ?_ ?_
                rotate_left
                · (intro w hw; (try have hcs := hcells w hw); (try go_split_ands); go_simp <;> with_reducible rfl)
                (try simp only [Act.put, qA, qB, qC])
                refine QK.take HK ?_ (by rfl) ?_ ?_
                rotate_left
                · (intro w hw; (try have hcs := hcells w hw); (try go_split_ands); go_simp <;> with_reducible rfl)
                (try simp only [Act.put, qA, qB, qC])
                refine QK.take HK ?_ (by rfl) ?_ ?_
                rotate_left
                · (intro w hw; (try have hcs := hcells w hw); (try go_split_ands); go_simp <;> with_reducible rfl)
                (try simp only [Act.put, qA, qB, qC])
                refine QK.take HK ?_ (by rfl) ?_ ?_
                rotate_left
                · (intro w hw; (try have hcs := hcells w hw); (try go_split_ands); go_simp <;> with_reducible rfl)
                (try simp only [Act.put, qA, qB, qC])
                refine QK.take HK ?_ (by rfl) ?_ ?_
                rotate_left
                · (intro w hw; (try have hcs := hcells w hw); (try go_split_ands); go_simp <;> with_reducible rfl)
                (try simp only [Act.put, qA, qB, qC])
                refine QK.take HK ?_ (by rfl) ?_ ?_
                rotate_left
                · (intro w hw; (try have hcs := hcells w hw); (try go_split_ands); go_simp <;> with_reducible rfl)
                (try simp only [Act.put, qA, qB, qC])
                refine QK.take HK ?_ (by rfl) ?_ ?_
                rotate_left
                · (intro w hw; (try have hcs := hcells w hw); (try go_split_ands); go_simp <;> with_reducible rfl)
                (try simp only [Act.put, qA, qB, qC])
                refine QK.take HK ?_ (by rfl) ?_ ?_
                rotate_left
                · (intro w hw; (try have hcs := hcells w hw); (try go_split_ands); go_simp <;> with_reducible rfl)
                (try simp only [Act.put, qA, qB, qC])
                refine QK.take HK ?_ (by rfl) ?_ ?_
                rotate_left
                · (intro w hw; (try have hcs := hcells w hw); (try go_split_ands); go_simp <;> with_reducible rfl)
                (try simp only [Act.put, qA, qB, qC])
                refine QK.take HK ?_ (by rfl) ?_ ?_
                rotate_left
                · (intro w hw; (try have hcs := hcells w hw); (try go_split_ands); go_simp <;> with_reducible rfl)
                (try simp only [Act.put, qA, qB, qC])
                refine QK.take HK ?_ (by rfl) ?_ ?_
                rotate_left
                · (intro w hw; (try have hcs := hcells w hw); (try go_split_ands); go_simp <;> with_reducible rfl)
                (try simp only [Act.put, qA, qB, qC])
                refine QK.take HK ?_ (by rfl) ?_ ?_
                rotate_left
                · (intro w hw; (try have hcs := hcells w hw); (try go_split_ands); go_simp <;> with_reducible rfl)
                (try simp only [Act.put, qA, qB, qC])
                refine QK.take HK ?_ (by rfl) ?_ ?_
                rotate_left
                · (intro w hw; (try have hcs := hcells w hw); (try go_split_ands); go_simp <;> with_reducible rfl)
                (try simp only [Act.put, qA, qB, qC])
                refine QK.take HK ?_ (by rfl) ?_ ?_
                rotate_left
                · (intro w hw; (try have hcs := hcells w hw); (try go_split_ands); go_simp <;> with_reducible rfl)
                (try simp only [Act.put, qA, qB, qC])
                refine QK.take HK ?_ (by rfl) ?_ ?_
                rotate_left
                · (intro w hw; (try have hcs := hcells w hw); (try go_split_ands); go_simp <;> with_reducible rfl)
                (try simp only [Act.put, qA, qB, qC])
                refine QK.call HK 44 #[.agg #[.int .i64 a1, .int .i64 a2], .agg #[.int .i64 b1, .int .i64 b2], .agg #[.int .i64 x, .int .i64 y]] (.int .i64 T) hcl (by rfl) (fun w => by go_simp) CT ?_
                (try simp only [Act.put, qA, qB, qC])
                refine QK.take HK ?_ (by rfl) ?_ ?_
                rotate_left
                · (intro w hw; (try have hcs := hcells w hw); (try go_split_ands); go_simp <;> with_reducible rfl)
                (try simp only [Act.put, qA, qB, qC])
                refine QK.take HK ?_ (by rfl) ?_ ?_
                rotate_left
                · (intro w hw; (try have hcs := hcells w hw); (try go_split_ands); go_simp <;> with_reducible rfl)
                (try simp only [Act.put, qA, qB, qC])
                refine QK.nil HK ?_
                clear HK K
                intro wq hq
                have hg9 := hgr wq hq
                clear hcells hin hcl hgr hq
                go_wp2
                go_meet
                case rel => exact ⟨by first | rfl | simp [hD], hg9⟩
              · refine wp_region_quietV C (by kernel_rfl) (by kernel_rfl) (hin _ ⟨by simp, (by with_reducible repeat (first | exact IsGr.refl _ | refine IsGr.gr ?_ _ _ | refine IsGr.alloc ?_ _ | refine IsGr.drew ?_ | refine IsGr.drewN ?_ _)), ⟨ha, hb, ⟨x1', x2'⟩⟩⟩) (fun K HK => ?_)
                refine QK.take HK ?_ (by rfl) ?_ ?_
                rotate_left
                · (intro w hw; (try have hcs := hcells w hw); (try go_split_ands); go_simp <;> with_reducible rfl)
                (try simp only [Act.put, qA, qB, qC])
                refine QK.take HK ?_ (by rfl) ?_ ?_
                rotate_left
                · (intro w hw; (try have hcs := hcells w hw); (try go_split_ands); go_simp <;> with_reducible rfl)
                (try simp only [Act.put, qA, qB, qC])
                refine QK.take HK ?_ (by rfl) ?_ ?_
                rotate_left
                · (intro w hw; (try have hcs := hcells w hw); (try go_split_ands); go_simp <;> with_reducible rfl)
                (try simp only [Act.put, qA, qB, qC])
                refine QK.take HK ?_ (by rfl) ?_ ?_
                rotate_left
                · (intro w hw; (try have hcs := hcells w hw); (try go_split_ands); go_simp <;> with_reducible rfl)
                (try simp only [Act.put, qA, qB, qC])
                refine QK.take HK ?_ (by rfl) ?_ ?_
                rotate_left
                · (intro w hw; (try have hcs := hcells w hw); (try go_split_ands); go_simp <;> with_reducible rfl)
                (try simp only [Act.put, qA, qB, qC])
                refine QK.take HK ?_ (by rfl) ?_ ?_
                rotate_left
                · (intro w hw; (try have hcs := hcells w hw); (try go_split_ands); go_simp <;> with_reducible rfl)
                (try simp only [Act.put, qA, qB, qC])
                refine QK.take HK ?_ (by rfl) ?_ ?_
                rotate_left
                · (intro w hw; (try have hcs := hcells w hw); (try go_split_ands); go_simp <;> with_reducible rfl)
                (try simp only [Act.put, qA, qB, qC])
                refine QK.take HK ?_ (by rfl) ?_ ?_
                rotate_left
                · (intro w hw; (try have hcs := hcells w hw); (try go_split_ands); go_simp <;> with_reducible rfl)
                (try simp only [Act.put, qA, qB, qC])
                refine QK.take HK ?_ (by rfl) ?_ ?_
                rotate_left
                · (intro w hw; (try have hcs := hcells w hw); (try go_split_ands); go_simp <;> with_reducible rfl)
                (try simp only [Act.put, qA, qB, qC])
                refine QK.take HK ?_ (by rfl) ?_ ?_
                rotate_left
                · (intro w hw; (try have hcs := hcells w hw); (try go_split_ands); go_simp <;> with_reducible rfl)
                (try simp only [Act.put, qA, qB, qC])
                refine QK.take HK ?_ (by rfl) ?_ ?_
                rotate_left
                · (intro w hw; (try have hcs := hcells w hw); (try go_split_ands); go_simp <;> with_reducible rfl)
                (try simp only [Act.put, qA, qB, qC])
                refine QK.take HK ?_ (by rfl) ?_ ?_
                rotate_left
                · (intro w hw; (try have hcs := hcells w hw); (try go_split_ands); go_simp <;> with_reducible rfl)
                (try simp only [Act.put, qA, qB, qC])
                refine QK.take HK ?_ (by rfl) ?_ ?_
                rotate_left
                · (intro w hw; (try have hcs := hcells w hw); (try go_split_ands); go_simp <;> with_reducible rfl)
                (try simp only [Act.put, qA, qB, qC])
                refine QK.take HK ?_ (by rfl) ?_ ?_
                rotate_left
                · (intro w hw; (try have hcs := hcells w hw); (try go_split_ands); go_simp <;> with_reducible rfl)
                (try simp only [Act.put, qA, qB, qC])
                refine QK.take HK ?_ (by rfl) ?_ ?_
                rotate_left
                · (intro w hw; (try have hcs := hcells w hw); (try go_split_ands); go_simp <;> with_reducible rfl)
                (try simp only [Act.put, qA, qB, qC])
                refine QK.take HK ?_ (by rfl) ?_ ?_
                rotate_left
                · (intro w hw; (try have hcs := hcells w hw); (try go_split_ands); go_simp <;> with_reducible rfl)
                (try simp only [Act.put, qA, qB, qC])
                refine QK.take HK ?_ (by rfl) ?_ ?_
                rotate_left
                · (intro w hw; (try have hcs := hcells w hw); (try go_split_ands); go_simp <;> with_reducible rfl)
                (try simp only [Act.put, qA, qB, qC])
                refine QK.call HK 44 #[.agg #[.int .i64 a1, .int .i64 a2], .agg #[.int .i64 b1, .int .i64 b2], .agg #[.int .i64 x, .int .i64 y]] (.int .i64 T) hcl (by rfl) (fun w => by go_simp) CT ?_
                (try simp only [Act.put, qA, qB, qC])
                refine QK.take HK ?_ (by rfl) ?_ ?_
                rotate_left
                · (intro w hw; (try have hcs := hcells w hw); (try go_split_ands); go_simp <;> with_reducible rfl)
                (try simp only [Act.put, qA, qB, qC])
                refine QK.take HK ?_ (by rfl) ?_ ?_
                rotate_left
                · (intro w hw; (try have hcs := hcells w hw); (try go_split_ands); go_simp <;> with_reducible rfl)
                (try simp only [Act.put, qA, qB, qC])
                refine QK.nil HK ?_
                clear HK K
                intro wq hq
                have hg9 := hgr wq hq
                clear hcells hin hcl hgr hq
                go_wp2
                go_meet
                case rel => exact ⟨by first | rfl | simp [hD], hg9⟩
            · have hd : decide (1 < N) = false := by simp [hN]
              have hd' : ¬ (1 : Int) < N := by omega
              obtain rfl : D = false := by
                rw [← HD.out]
                match st', HLn with
                | [], _ => rfl
                | [_], _ => rfl
                | _ :: _ :: _, h => simp [Hid] at h; omega
              clear HD HS hown HLn hA hn' HL HR HP Hn
              obtain ⟨C, hin, hcl, hcells, hgr⟩ : ∃ C : World → Prop, (∀ w', W4.heap.size ≤ w'.heap.size ∧ IsGr W4 w' ∧ (w'.cell? ⟨W2.heap.size, 0, none⟩ = some (.int .i64 x) ∧ w'.cell? ⟨W2.heap.size, 1, none⟩ = some (.int .i64 y)) → C w') ∧ (∀ u u', C u → IsGr u u' → C u') ∧ (∀ w', C w' → (w'.cell? ⟨W2.heap.size, 0, none⟩ = some (.int .i64 x) ∧ w'.cell? ⟨W2.heap.size, 1, none⟩ = some (.int .i64 y))) ∧ (∀ w', C w' → IsGr W4 w') := by
                refine ⟨fun w' => W4.heap.size ≤ w'.heap.size ∧ IsGr W4 w' ∧ (w'.cell? ⟨W2.heap.size, 0, none⟩ = some (.int .i64 x) ∧ w'.cell? ⟨W2.heap.size, 1, none⟩ = some (.int .i64 y)), fun w' h => h, ?_, fun w' h => h.2.2, fun w' h => h.2.1⟩
                rintro u u' ⟨h0, h1, h2⟩ hg
                exact ⟨Nat.le_trans h0 hg.size, h1.trans hg, ⟨hg.cell_at (by omega) h2.1, hg.cell_at (by omega) h2.2⟩⟩
              refine wp_region_quietV C (by kernel_rfl) (by kernel_rfl) (hin _ ⟨by simp, (by with_reducible repeat (first | exact IsGr.refl _ | refine IsGr.gr ?_ _ _ | refine IsGr.alloc ?_ _ | refine IsGr.drew ?_ | refine IsGr.drewN ?_ _)), ⟨x1', x2'⟩⟩) (fun K HK => ?_)
              refine QK.take HK ?_ (by rfl) ?_ ?_
              rotate_left
              · (intro w hw; (try have hcs := hcells w hw); (try go_split_ands); go_simp <;> with_reducible rfl)
              (try simp only [Act.put, qA, qB, qC])
              refine QK.take HK ?_ (by rfl) ?_ ?_
              rotate_left
              · (intro w hw; (try have hcs := hcells w hw); (try go_split_ands); go_simp <;> with_reducible rfl)
              (try simp only [Act.put, qA, qB, qC])
              refine QK.take HK ?_ (by rfl) ?_ ?_
              rotate_left
              · (intro w hw; (try have hcs := hcells w hw); (try go_split_ands); go_simp <;> with_reducible rfl)
              (try simp only [Act.put, qA, qB, qC])
              refine QK.take HK ?_ (by rfl) ?_ ?_
              rotate_left
              · (intro w hw; (try have hcs := hcells w hw); (try go_split_ands); go_simp <;> with_reducible rfl)
              (try simp only [Act.put, qA, qB, qC])
              refine QK.skip HK (by rfl) ?_
              (try simp only [Act.put, qA, qB, qC])
              refine QK.skip HK (by rfl) ?_
              (try simp only [Act.put, qA, qB, qC])
              refine QK.skip HK (by rfl) ?_
              (try simp only [Act.put, qA, qB, qC])
              refine QK.skip HK (by rfl) ?_
              (try simp only [Act.put, qA, qB, qC])
              refine QK.skip HK (by rfl) ?_
              (try simp only [Act.put, qA, qB, qC])
              refine QK.skip HK (by rfl) ?_
              (try simp only [Act.put, qA, qB, qC])
              refine QK.skip HK (by rfl) ?_
              (try simp only [Act.put, qA, qB, qC])
              refine QK.skip HK (by rfl) ?_
              (try simp only [Act.put, qA, qB, qC])
              refine QK.skip HK (by rfl) ?_
              (try simp only [Act.put, qA, qB, qC])
              refine QK.skip HK (by rfl) ?_
              (try simp only [Act.put, qA, qB, qC])
              refine QK.skip HK (by rfl) ?_
              (try simp only [Act.put, qA, qB, qC])
              refine QK.skip HK (by rfl) ?_
              (try simp only [Act.put, qA, qB, qC])
              refine QK.skip HK (by rfl) ?_
              (try simp only [Act.put, qA, qB, qC])
              refine QK.skip HK (by rfl) ?_
              (try simp only [Act.put, qA, qB, qC])
              refine QK.skip HK (by rfl) ?_
              (try simp only [Act.put, qA, qB, qC])
              refine QK.take HK ?_ (by rfl) ?_ ?_
              rotate_left
              · (intro w hw; (try have hcs := hcells w hw); (try go_split_ands); go_simp <;> with_reducible rfl)
              (try simp only [Act.put, qA, qB, qC])
              refine QK.nil HK ?_
              clear HK K
              intro wq hq
              have hg9 := hgr wq hq
              clear hcells hin hcl hgr hq
              go_wp2
              go_meet
              case rel => exact ⟨by first | rfl | simp, hg9⟩
          case rest =>
            obtain ⟨rfl, hgr⟩ := hcut
            obtain ⟨W5, hW9⟩ : ∃ W5, W5 = wc := ⟨_, rfl⟩
            subst hW9
            replace hown := own_gr5 hown hgr
            replace x1' := hgr.cell_at kp x1'
            replace x2' := hgr.cell_at kp x2'
            replace HB : Hid (Below w.heap.size w W5) := HB.out.trans (hgr.below.mono (by omega))
            have hsz := hgr.size
            replace kp : W2.heap.size < W5.heap.size := by omega
            clear hgr
            cases D
            · have HQ : Hid (bowS (l.take (k + 1)) [] = (x, y) :: st') := by unfold Hid; rw [HN.out, ← HS.out.1, popD_f HD.out]
              have Hl : Hid (st'.length ≤ k) := HS.out.2.1
              clear HN HD HS hA hsz
              go_upto_region 7 with fail
              go_wp2_with (first | (at_builtin; refine wpList_append_own _ rfl _ _ 22 rfl w.heap.size 24 i0 (.agg #[.int .i64 0, .int .i64 0]) 2 16 Try.underlying22 hi hz0 hz1 hz2 rfl (by decide) _ _ _ rfl (hown.alloc _) ⟨W5.heap.size, 0, none⟩ 1 1 (ptCs [(x, y)]) rfl ?c0 ?c1 ?c2 ?c3 ?c4 ?c5 ?_) | go_in)
              case c0 => rfl
              case c1 =>
                intro j u hu
                match j, hu with
                | 0, hu => simp [ptCs] at hu; subst hu; simp [go_sem, addr_add]
                | 1, hu => simp [ptCs] at hu; subst hu; simp [go_sem, addr_add]
                | j + 2, hu => simp [ptCs] at hu
              case c2 => exact ptCs_one _
              case c3 => unfold maxLen; omega
              case c4 => omega
              case c5 => simp; omega
              intro v' w1 hown' hgrow _
              have hbe : Below w.heap.size W5 w1 := (Below.alloc (Below.refl _ _) (by omega) _).trans (below_grown hgrow (by simp; omega) (fun k9 e9 => (World.ownsRow.lt hown k9 e9).1))
              have HB1 : Hid (Below w.heap.size w w1) := HB.out.trans hbe
              clear hbe hgrow hown x1' x2' HB
              rw [← ptCs_append] at hown'
              go_wp2
              go_roundw
              case rel => exact ⟨k + 1, (x, y) :: st', by omega, by go_num, ⟨HQ.out, by have := Hl.out; simp; omega⟩, by rw [List.reverse_cons, List.length_cons, HLn.out]; exact hown', HB1.out⟩
              case measure => simp [intOf]; omega
            · obtain ⟨b, a', r, hst, hpk⟩ := popD_t HD.out
              obtain ⟨g, rfl, hgs, hNc⟩ := hA (by rw [← HLn.out, hst]; simp)
              obtain ⟨m1, hm1⟩ : ∃ m1, m1 = (a' :: r).length := ⟨_, rfl⟩
              have hNm : N = m1 + 1 := by rw [← HLn.out, hst, hm1]; rfl
              have vN1 : IntKind.i64.wrap ((N : Int) - 1) = (m1 : Int) := by rw [IntKind.wrap_i64]; omega
              have hm1c : (m1 : Int) ≤ (CC : Int) := by omega
              have hcut := own_cut (l := (a' :: r).reverse) (x := b) (by rw [hst] at hown; simpa using hown)
              rw [List.length_reverse, ← hm1] at hcut
              have HS1 : Hid (popK (x, y) (a' :: r) = popK (x, y) st ∧ (a' :: r).length ≤ k ∧ ∀ z ∈ a' :: r, rightP z.1 z.2 = true) := by
                refine ⟨by rw [← hpk]; exact HS.out.1, ?_, fun z hz => HS.out.2.2 z (by rw [hst]; exact List.mem_cons_of_mem _ hz)⟩
                have := HS.out.2.1
                rw [hst] at this
                simp at this ⊢
                omega
              have HM1 : Hid (m1 = (a' :: r).length ∧ m1 < N) := ⟨hm1, by omega⟩
              clear HS HD hst hpk hown HLn hA hNm hm1
              go_wp2
              go_roundw
              case rel => exact ⟨a' :: r, HS1, by rw [← HM1.out.1]; exact hcut, ⟨x1', x2'⟩, ⟨kp, HB.out⟩⟩
              case measure => have := HM1.out.2; simp; omega
    · obtain rfl : k = n := by omega
      have e9 : l.take k = l := by rw [HL.out]; simp
      have HE : Hid (st.reverse = bowL l) := by unfold Hid bowL; rw [← HS.out.1, e9]
      rw [HE.out] at hown
      have hln : st.length = (bowL l).length := by rw [← HE.out]; simp
      rw [hln] at hown
      clear HS HE hln e9
      go_wp2
      go_ret
      exact ⟨_, rfl, hown, IsGr.of_below HB.out⟩
end Go.Proofs.Ytohhlhoijanjfaa
