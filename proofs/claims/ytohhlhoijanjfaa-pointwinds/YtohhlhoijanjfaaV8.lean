/- gromalaw03.PointWinds: for every points and every point the law answers true. -/
import Derived.Test.YtohhlhoijanjfaaU21
import Derived.Test.YtohhlhoijanjfaaU18
import Derived.Test.YtohhlhoijanjfaaU10
import Derived.Test.YtohhlhoijanjfaaV6
namespace Go.Proofs.Ytohhlhoijanjfaa
open Go.RowKit Go.Shelf
attribute [local go_sem] Gr.size Gr.cell? Gr.frozen? Gr.setCell Gr.drew Gr.drewN Gr.of_drew Gr.of_drewN Gr.gr Gr.lt_of1 Gr.le_of1 Gr.lt_of2 Gr.le_of2 Gr.lt_of3 Gr.le_of3 Gr.lt_of4 Gr.le_of4 Gr.lt_of5 Gr.le_of5 Gr.lt_of6 Gr.le_of6 Gr.lt_of7 Gr.le_of7 Gr.lt_of8 Gr.le_of8 Gr.lt_of9 Gr.le_of9 Gr.lt_of10 Gr.le_of10 Gr.lt_of11 Gr.le_of11 Gr.lt_of12 Gr.le_of12 Gr.lt_of13 Gr.le_of13 Gr.lt_of14 Gr.le_of14 Gr.lt_of15 Gr.le_of15 Gr.lt_of16 Gr.le_of16 Gr.lt_of17 Gr.le_of17 Gr.lt_of18 Gr.le_of18 Gr.lt_of19 Gr.le_of19 Gr.lt_of20 Gr.le_of20 Gr.lt_of21 Gr.le_of21 Gr.lt_of22 Gr.le_of22 Gr.lt_of23 Gr.le_of23 Gr.lt_of24 Gr.le_of24

theorem info_pq : (Try.prog.info? 27).map (fun i => (i.zero, i.size, i.bytes)) = some (some (.agg #[.int .i64 0, .int .i64 0]), 2, 16) := by kernel_rfl
theorem own_gr {w w' : World} {base : Nat} {e : TypeId} {size : Nat} {v : Value} {n : Nat} {xs : List Value} (h : w.ownsRow base e size v n xs) (hg : IsGr w w') : w'.ownsRow base e size v n xs := by
  obtain ⟨os, k, rfl⟩ := hg
  obtain ⟨h1, h2⟩ := h
  refine ⟨h1, ?_⟩
  rcases h2 with h2 | ⟨g, cap, cur, rfl, hB, hb, hr⟩
  · exact Or.inl h2
  · refine Or.inr ⟨g, cap, cur, rfl, hB, ?_, hr⟩
    have hlt : g < w.heap.size := (Array.getElem?_eq_some_iff.1 hb).1
    show (w.heap ++ os)[g]? = _
    rw [Array.getElem?_append_left hlt]
    exact hb
/-- Does p lie on one of the first k segments? -/
def onK (l : List (Int × Int)) (p1 p2 : Int) : Nat → Bool
  | 0 => false
  | k + 1 => onK l p1 p2 k || onAt l p1 p2 k
theorem onK_none {l : List (Int × Int)} {p1 p2 : Int} : ∀ {k : Nat}, onK l p1 p2 k = false → ∀ i, i < k → onAt l p1 p2 i = false
  | 0, _, i, hi => by omega
  | k + 1, h, i, hi => by
    simp only [onK, Bool.or_eq_false_iff] at h
    by_cases e : i = k
    · rw [e]; exact h.2
    · exact onK_none h.1 i (by omega)
theorem onK_some {l : List (Int × Int)} {p1 p2 : Int} : ∀ {k : Nat}, onK l p1 p2 k = true → ∃ i, i < k ∧ onAt l p1 p2 i = true
  | 0, h => by simp [onK] at h
  | k + 1, h => by
    simp only [onK, Bool.or_eq_true] at h
    rcases h with h | h
    · obtain ⟨i, h1, h2⟩ := onK_some h
      exact ⟨i, by omega, h2⟩
    · exact ⟨k, by omega, h⟩
theorem ptCs_take {l : List (Int × Int)} {k : Nat} (h : k < l.length) : ptCs (l.take (k + 1)) = ptCs (l.take k) ++ ptCs [((l.getD k (0, 0)).1, (l.getD k (0, 0)).2)] := by
  rw [take_getD h, ptCs_append]
theorem WindT.one {l : List (Int × Int)} {p1 p2 r : Int} {on ok : Bool} (h : WindT l p1 p2 r on ok) (hr : (allR l && rightP p1 p2) = false) : r = 0 ∧ on = false ∧ ok = false := by
  rcases h with ⟨_, h⟩ | ⟨h, _⟩ | ⟨h, _⟩
  · exact h
  · rw [hr] at h; cases h
  · rw [hr] at h; cases h
theorem WindT.two {l : List (Int × Int)} {p1 p2 r : Int} {on ok : Bool} (h : WindT l p1 p2 r on ok) (hr : (allR l && rightP p1 p2) = true) (ho : ∃ i, i < l.length ∧ onAt l p1 p2 i = true) : r = 0 ∧ on = true ∧ ok = true := by
  rcases h with ⟨h, _⟩ | ⟨_, _, h⟩ | ⟨_, h, _⟩
  · rw [hr] at h; cases h
  · exact h
  · obtain ⟨i, h1, h2⟩ := ho; rw [h i h1] at h2; cases h2
theorem WindT.three {l : List (Int × Int)} {p1 p2 r : Int} {on ok : Bool} (h : WindT l p1 p2 r on ok) (hr : (allR l && rightP p1 p2) = true) (ho : ∀ i, i < l.length → onAt l p1 p2 i = false) : r = windK l p1 p2 l.length ∧ on = false ∧ ok = true := by
  rcases h with ⟨h, _⟩ | ⟨_, ⟨i, h1, h2⟩, _⟩ | ⟨_, _, h⟩
  · rw [hr] at h; cases h
  · rw [ho i h1] at h2; cases h2
  · exact h


set_option maxRecDepth 20000 in set_option maxHeartbeats 4000000 in
theorem law_winds_few (a : Option Addr) (n c : Nat) (l : List (Int × Int)) (p1 p2 : Int) (w : World) (h : Pts w (.slice a n c) l) (hn : n ≤ 60) :
    Calls Try.prog 3 #[.slice a n c, .agg #[.int .i64 p1, .int .i64 p2]] w fun e w' => e = .returned (.bool true) ∧ IsGr w w' := by
  obtain ⟨i0, hi, hz0, hz1, hz2⟩ := info_parts info_pq
  have HP : Hid (Pts w (.slice a n c) l) := h
  have HL : Hid (n = l.length) := h.len
  have Hn : Hid (n ≤ 60) := hn
  have hn' : (n : Int) ≤ 60 := by omega
  have CA := fun w => awake3_any w
  have FP := fun w => pref_any p1 p2 w
  have RP := fun w => RefRight_any p1 p2 w
  obtain ⟨rp, Hrp⟩ : ∃ rp, Hid (rightP p1 p2 = rp) := ⟨_, rfl⟩
  rw [Hrp.out] at RP
  clear h hn
  go_enter Try.func3, Try.ntmps3
  go_wp2_with fail
  refine (FP _).mono ?_
  rintro e w1 ⟨rfl, os1, m1, rfl⟩
  go_wp2_with fail
  refine (RP _).mono ?_
  rintro e w1 ⟨rfl, os2, m2, rfl⟩
  go_wp2
  go_loopw [5, 6, 7, 22] (fun t5 t6 t7 t22 wr => ∃ k : Nat, k ≤ n ∧ t22 = .int .i64 k ∧ t5 = .bool (rp && allR (l.take k)) ∧ t6 = .bool (onK l p1 p2 k) ∧ wr.ownsRow (w.heap.size + 1) 27 2 t7 k (ptCs (l.take k)) ∧ (wr.cell? ⟨w.heap.size, 0, none⟩ = some (.int .i64 p1) ∧ wr.cell? ⟨w.heap.size, 1, none⟩ = some (.int .i64 p2)) ∧ Hid (w.heap.size < wr.heap.size ∧ Below w.heap.size w wr)) (fun _ _ _ t22 _ => (n - intOf t22).toNat)
  case atStart => exact ⟨0, by omega, rfl, by simp [allR], rfl, World.ownsRow_nil _ _ _ _, by simp [go_sem], ⟨by first | omega | (simp; done) | (simp [Gr.size]; done) | (simp [Gr.size]; omega), IsGr.below (w := w) (by with_reducible repeat (first | exact IsGr.refl _ | refine IsGr.gr ?_ _ _ | refine IsGr.alloc ?_ _ | refine IsGr.drew ?_ | refine IsGr.drewN ?_ _))⟩⟩
  case round =>
    obtain ⟨k, hk, rfl, rfl, rfl, hown, ⟨d1, d2⟩, HW⟩ := hrel
    obtain ⟨W2, hW2⟩ : ∃ W2, W2 = wr := ⟨_, rfl⟩
    subst hW2
    have ka : w.heap.size < W2.heap.size := HW.out.1
    have HB : Hid (Below w.heap.size w W2) := HW.out.2
    clear HW
    by_cases hkn : k < n
    · have hkl : k < l.length := by have := HL.out; omega
      have hP := HP.out.gr (IsGr.of_below HB.out)
      obtain ⟨g9, o9, rfl, hgs, hc⟩ := hP.at hkn
      obtain ⟨c1, c2⟩ := hc k hkn
      have hj : (k + 1) % n < n := Nat.mod_lt _ (by omega)
      obtain ⟨e1, e2⟩ := hc _ hj
      have e0 : l.getD ((k + 1) % n) (0, 0) = nextP l k := by rw [HL.out]; rfl
      rw [e0] at e1 e2
      have hkn' : (k : Int) < n := by omega
      have v1 : IntKind.i64.wrap ((k : Int) + 1) = (k : Int) + 1 := by rw [IntKind.wrap_i64]; omega
      have v2 : ((k : Int) + 1).tmod (n : Int) = (((k + 1) % n : Nat) : Int) := by
        rw [Int.tmod_eq_emod_of_nonneg (by omega)]; simp
      have n0 : ¬ n = 0 := by omega
      have hjn : (((k + 1) % n : Nat) : Int) < n := by omega
      have HA : Hid (allR (l.take (k + 1)) = (allR (l.take k) && rightP (l.getD k (0, 0)).1 (l.getD k (0, 0)).2)) := allR_take hkl
      have HT : Hid (ptCs (l.take (k + 1)) = ptCs (l.take k) ++ ptCs [((l.getD k (0, 0)).1, (l.getD k (0, 0)).2)]) := ptCs_take hkl
      have HO : Hid (onK l p1 p2 (k + 1) = (onK l p1 p2 k || onP (l.getD k (0, 0)).1 (l.getD k (0, 0)).2 (nextP l k).1 (nextP l k).2 p1 p2)) := rfl
      clear hc hP e0
      generalize (l.getD k (0, 0)).1 = x at *
      generalize (l.getD k (0, 0)).2 = y at *
      generalize (nextP l k).1 = u at *
      generalize (nextP l k).2 = v at *
      have FX := fun w => pref_any x y w
      have FU := fun w => pref_any u v w
      have RX := fun w => RefRight_any x y w
      have CO := fun w => refOn_any x y u v p1 p2 w
      generalize rightP x y = rx at RX HA
      generalize onP x y u v p1 p2 = O1 at CO HO
      generalize onK l p1 p2 k = O0 at *
      obtain ⟨R0, hR0⟩ : ∃ R0, R0 = (rp && allR (l.take k)) := ⟨_, rfl⟩
      rw [← hR0]
      have HR1 : Hid ((R0 && rx) = (rp && allR (l.take (k + 1)))) := by unfold Hid; rw [hR0, HA.out, Bool.and_assoc]
      clear HA hR0
      generalize hj9 : (k + 1) % n = j at *
      clear hj9
      go_upto_region 8 with fail
      go_cut [5, 22] from 22 to 55 (fun t5 t22 wx => t5 = .bool (R0 && rx) ∧ t22 = .int .i64 k ∧ (wx.cell? ⟨W2.heap.size, 0, none⟩ = some (.int .i64 x) ∧ wx.cell? ⟨W2.heap.size, 1, none⟩ = some (.int .i64 y)) ∧ W2.heap.size < wx.heap.size ∧ IsGr W2 wx)
      case first =>
        cases R0
        · go_wp2
          go_meet
          case rel =>
            refine ⟨rfl, rfl, ?_, ?_, (by with_reducible repeat (first | exact IsGr.refl _ | refine IsGr.gr ?_ _ _ | refine IsGr.alloc ?_ _ | refine IsGr.drew ?_ | refine IsGr.drewN ?_ _))⟩
            · simp [go_sem]
            · first | omega | (simp; done) | (simp [Gr.size]; done) | (simp [Gr.size]; omega)
        · go_wp2_with fail
          refine (FX _).mono ?_
          rintro e w1 ⟨rfl, os3, m3, rfl⟩
          go_wp2_with fail
          refine (RX _).mono ?_
          rintro e w1 ⟨rfl, os4, m4, rfl⟩
          go_wp2
          go_meet
          case rel =>
            refine ⟨by simp, rfl, ?_, ?_, (by with_reducible repeat (first | exact IsGr.refl _ | refine IsGr.gr ?_ _ _ | refine IsGr.alloc ?_ _ | refine IsGr.drew ?_ | refine IsGr.drewN ?_ _))⟩
            · simp [go_sem]
            · first | omega | (simp; done) | (simp [Gr.size]; done) | (simp [Gr.size]; omega)
      case rest =>
        obtain ⟨rfl, rfl, ⟨x1', x2'⟩, kp, hgr⟩ := hcut
        obtain ⟨W3, hW9⟩ : ∃ W3, W3 = wc := ⟨_, rfl⟩
        subst hW9
        replace e1 := hgr.cell_at hgs e1
        replace e2 := hgr.cell_at hgs e2
        replace hgs : g9 < W3.heap.size := Nat.lt_of_lt_of_le hgs hgr.size
        have kw : w.heap.size < W2.heap.size := ka
        replace d1 := hgr.cell_at ka d1
        replace d2 := hgr.cell_at ka d2
        replace hown := own_gr hown hgr
        replace HB : Hid (Below w.heap.size w W3) := HB.out.trans (hgr.below.mono (by omega))
        have hsz := hgr.size
        replace ka : w.heap.size < W3.heap.size := by omega
        clear hgr hsz RX c1 c2
        go_upto_region 9 with fail
        go_cut [6, 22] from 22 to 55 (fun t6 t22 wx => t6 = .bool (O0 || O1) ∧ t22 = .int .i64 k ∧ IsGr W3 wx)
        case first =>
          obtain ⟨C, hin, hcl, hcells, hgr⟩ : ∃ C : World → Prop, (∀ w', W3.heap.size ≤ w'.heap.size ∧ IsGr W3 w' ∧ (w'.cell? ⟨w.heap.size, 0, none⟩ = some (.int .i64 p1) ∧ w'.cell? ⟨w.heap.size, 1, none⟩ = some (.int .i64 p2)) ∧ (w'.cell? ⟨W2.heap.size, 0, none⟩ = some (.int .i64 x) ∧ w'.cell? ⟨W2.heap.size, 1, none⟩ = some (.int .i64 y)) ∧ (w'.cell? ⟨g9, o9 + j * 2, none⟩ = some (.int .i64 u) ∧ w'.cell? ⟨g9, o9 + j * 2 + 1, none⟩ = some (.int .i64 v)) → C w') ∧ (∀ u u', C u → IsGr u u' → C u') ∧ (∀ w', C w' → (w'.cell? ⟨w.heap.size, 0, none⟩ = some (.int .i64 p1) ∧ w'.cell? ⟨w.heap.size, 1, none⟩ = some (.int .i64 p2)) ∧ (w'.cell? ⟨W2.heap.size, 0, none⟩ = some (.int .i64 x) ∧ w'.cell? ⟨W2.heap.size, 1, none⟩ = some (.int .i64 y)) ∧ (w'.cell? ⟨g9, o9 + j * 2, none⟩ = some (.int .i64 u) ∧ w'.cell? ⟨g9, o9 + j * 2 + 1, none⟩ = some (.int .i64 v))) ∧ (∀ w', C w' → IsGr W3 w') := by
            refine ⟨fun w' => W3.heap.size ≤ w'.heap.size ∧ IsGr W3 w' ∧ (w'.cell? ⟨w.heap.size, 0, none⟩ = some (.int .i64 p1) ∧ w'.cell? ⟨w.heap.size, 1, none⟩ = some (.int .i64 p2)) ∧ (w'.cell? ⟨W2.heap.size, 0, none⟩ = some (.int .i64 x) ∧ w'.cell? ⟨W2.heap.size, 1, none⟩ = some (.int .i64 y)) ∧ (w'.cell? ⟨g9, o9 + j * 2, none⟩ = some (.int .i64 u) ∧ w'.cell? ⟨g9, o9 + j * 2 + 1, none⟩ = some (.int .i64 v)), fun w' h => h, ?_, fun w' h => h.2.2, fun w' h => h.2.1⟩
            rintro u u' ⟨h0, h1, h2⟩ hg
            refine ⟨Nat.le_trans h0 hg.size, h1.trans hg, ?_⟩
            exact ⟨⟨hg.cell_at (by omega) h2.1.1, hg.cell_at (by omega) h2.1.2⟩, ⟨hg.cell_at (by omega) h2.2.1.1, hg.cell_at (by omega) h2.2.1.2⟩, ⟨hg.cell_at (by omega) h2.2.2.1, hg.cell_at (by omega) h2.2.2.2⟩⟩
          cases O0
          · as_aux_lemma =>
              refine wp_region_quietV C (by kernel_rfl) (by kernel_rfl) (hin _ ⟨by first | omega | (simp; done) | (simp; omega) | (simp [Gr.size]; done) | (simp [Gr.size]; omega), (by with_reducible repeat (first | exact IsGr.refl _ | refine IsGr.gr ?_ _ _ | refine IsGr.alloc ?_ _ | refine IsGr.drew ?_ | refine IsGr.drewN ?_ _)), by simp [go_sem, d1, d2, x1', x2', e1, e2]⟩) (fun K HK => ?_)
              refine QK.take HK ?_ (by rfl) ?_ ?_
              rotate_left
              · (intro w hw; (try have hcs := hcells w hw); (try go_split_ands); go_simp <;> with_reducible rfl)
              (try simp only [Act.put, List.setIfInBounds_toArray, List.set_cons_zero, List.set_cons_succ])
              refine QK.take HK ?_ (by rfl) ?_ ?_
              rotate_left
              · (intro w hw; (try have hcs := hcells w hw); (try go_split_ands); go_simp <;> with_reducible rfl)
              (try simp only [Act.put, List.setIfInBounds_toArray, List.set_cons_zero, List.set_cons_succ])
              refine QK.take HK ?_ (by rfl) ?_ ?_
              rotate_left
              · (intro w hw; (try have hcs := hcells w hw); (try go_split_ands); go_simp <;> with_reducible rfl)
              (try simp only [Act.put, List.setIfInBounds_toArray, List.set_cons_zero, List.set_cons_succ])
              refine QK.call HK 12 #[.agg #[.int .i64 x, .int .i64 y]] (.agg #[.int .i64 x, .int .i64 y]) hcl (by rfl) (fun w => by go_simp) FX ?_
              (try simp only [Act.put, List.setIfInBounds_toArray, List.set_cons_zero, List.set_cons_succ])
              refine QK.take HK ?_ (by rfl) ?_ ?_
              rotate_left
              · (intro w hw; (try have hcs := hcells w hw); (try go_split_ands); go_simp <;> with_reducible rfl)
              (try simp only [Act.put, List.setIfInBounds_toArray, List.set_cons_zero, List.set_cons_succ])
              refine QK.take HK ?_ (by rfl) ?_ ?_
              rotate_left
              · (intro w hw; (try have hcs := hcells w hw); (try go_split_ands); go_simp <;> with_reducible rfl)
              (try simp only [Act.put, List.setIfInBounds_toArray, List.set_cons_zero, List.set_cons_succ])
              refine QK.take HK ?_ (by rfl) ?_ ?_
              rotate_left
              · (intro w hw; (try have hcs := hcells w hw); (try go_split_ands); go_simp <;> with_reducible rfl)
              (try simp only [Act.put, List.setIfInBounds_toArray, List.set_cons_zero, List.set_cons_succ])
              refine QK.take HK ?_ (by rfl) ?_ ?_
              rotate_left
              · (intro w hw; (try have hcs := hcells w hw); (try go_split_ands); go_simp <;> with_reducible rfl)
              (try simp only [Act.put, List.setIfInBounds_toArray, List.set_cons_zero, List.set_cons_succ])
              refine QK.take HK ?_ (by rfl) ?_ ?_
              rotate_left
              · (intro w hw; (try have hcs := hcells w hw); (try go_split_ands); go_simp <;> with_reducible rfl)
              (try simp only [Act.put, List.setIfInBounds_toArray, List.set_cons_zero, List.set_cons_succ])
              refine QK.take HK ?_ (by rfl) ?_ ?_
              rotate_left
              · (intro w hw; (try have hcs := hcells w hw); (try go_split_ands); go_simp <;> with_reducible rfl)
              (try simp only [Act.put, List.setIfInBounds_toArray, List.set_cons_zero, List.set_cons_succ])
              refine QK.take HK ?_ (by rfl) ?_ ?_
              rotate_left
              · (intro w hw; (try have hcs := hcells w hw); (try go_split_ands); go_simp <;> with_reducible rfl)
              (try simp only [Act.put, List.setIfInBounds_toArray, List.set_cons_zero, List.set_cons_succ])
              refine QK.take HK ?_ (by rfl) ?_ ?_
              rotate_left
              · (intro w hw; (try have hcs := hcells w hw); (try go_split_ands); go_simp <;> with_reducible rfl)
              (try simp only [Act.put, List.setIfInBounds_toArray, List.set_cons_zero, List.set_cons_succ])
              refine QK.call HK 12 #[.agg #[.int .i64 u, .int .i64 v]] (.agg #[.int .i64 u, .int .i64 v]) hcl (by rfl) (fun w => by go_simp) FU ?_
              (try simp only [Act.put, List.setIfInBounds_toArray, List.set_cons_zero, List.set_cons_succ])
              refine QK.take HK ?_ (by rfl) ?_ ?_
              rotate_left
              · (intro w hw; (try have hcs := hcells w hw); (try go_split_ands); go_simp <;> with_reducible rfl)
              (try simp only [Act.put, List.setIfInBounds_toArray, List.set_cons_zero, List.set_cons_succ])
              refine QK.call HK 12 #[.agg #[.int .i64 p1, .int .i64 p2]] (.agg #[.int .i64 p1, .int .i64 p2]) hcl (by rfl) (fun w => by go_simp) FP ?_
              (try simp only [Act.put, List.setIfInBounds_toArray, List.set_cons_zero, List.set_cons_succ])
              refine QK.call HK 13 #[.agg #[.int .i64 x, .int .i64 y], .agg #[.int .i64 u, .int .i64 v], .agg #[.int .i64 p1, .int .i64 p2]] (.bool O1) hcl (by rfl) (fun w => by go_simp) CO ?_
              (try simp only [Act.put, List.setIfInBounds_toArray, List.set_cons_zero, List.set_cons_succ])
              refine QK.take HK ?_ (by rfl) ?_ ?_
              rotate_left
              · (intro w hw; (try have hcs := hcells w hw); (try go_split_ands); go_simp <;> with_reducible rfl)
              (try simp only [Act.put, List.setIfInBounds_toArray, List.set_cons_zero, List.set_cons_succ])
              refine QK.take HK ?_ (by rfl) ?_ ?_
              rotate_left
              · (intro w hw; (try have hcs := hcells w hw); (try go_split_ands); go_simp <;> with_reducible rfl)
              (try simp only [Act.put, List.setIfInBounds_toArray, List.set_cons_zero, List.set_cons_succ])
              refine QK.nil HK ?_
              clear HK K
              intro wq hq
              have hg9 := hgr wq hq
              clear hcells hin hcl hgr hq
              go_wp2
              go_meet
              case rel => exact ⟨by simp, rfl, hg9⟩
          · as_aux_lemma =>
              refine wp_region_quietV C (by kernel_rfl) (by kernel_rfl) (hin _ ⟨by first | omega | (simp; done) | (simp; omega) | (simp [Gr.size]; done) | (simp [Gr.size]; omega), (by with_reducible repeat (first | exact IsGr.refl _ | refine IsGr.gr ?_ _ _ | refine IsGr.alloc ?_ _ | refine IsGr.drew ?_ | refine IsGr.drewN ?_ _)), by simp [go_sem, d1, d2, x1', x2', e1, e2]⟩) (fun K HK => ?_)
              refine QK.take HK ?_ (by rfl) ?_ ?_
              rotate_left
              · (intro w hw; (try have hcs := hcells w hw); (try go_split_ands); go_simp <;> with_reducible rfl)
              (try simp only [Act.put, List.setIfInBounds_toArray, List.set_cons_zero, List.set_cons_succ])
              refine QK.take HK ?_ (by rfl) ?_ ?_
              rotate_left
              · (intro w hw; (try have hcs := hcells w hw); (try go_split_ands); go_simp <;> with_reducible rfl)
              (try simp only [Act.put, List.setIfInBounds_toArray, List.set_cons_zero, List.set_cons_succ])
              refine QK.skip HK (by rfl) ?_
              (try simp only [Act.put, List.setIfInBounds_toArray, List.set_cons_zero, List.set_cons_succ])
              refine QK.skip HK (by rfl) ?_
              (try simp only [Act.put, List.setIfInBounds_toArray, List.set_cons_zero, List.set_cons_succ])
              refine QK.skip HK (by rfl) ?_
              (try simp only [Act.put, List.setIfInBounds_toArray, List.set_cons_zero, List.set_cons_succ])
              refine QK.skip HK (by rfl) ?_
              (try simp only [Act.put, List.setIfInBounds_toArray, List.set_cons_zero, List.set_cons_succ])
              refine QK.skip HK (by rfl) ?_
              (try simp only [Act.put, List.setIfInBounds_toArray, List.set_cons_zero, List.set_cons_succ])
              refine QK.skip HK (by rfl) ?_
              (try simp only [Act.put, List.setIfInBounds_toArray, List.set_cons_zero, List.set_cons_succ])
              refine QK.skip HK (by rfl) ?_
              (try simp only [Act.put, List.setIfInBounds_toArray, List.set_cons_zero, List.set_cons_succ])
              refine QK.skip HK (by rfl) ?_
              (try simp only [Act.put, List.setIfInBounds_toArray, List.set_cons_zero, List.set_cons_succ])
              refine QK.skip HK (by rfl) ?_
              (try simp only [Act.put, List.setIfInBounds_toArray, List.set_cons_zero, List.set_cons_succ])
              refine QK.skip HK (by rfl) ?_
              (try simp only [Act.put, List.setIfInBounds_toArray, List.set_cons_zero, List.set_cons_succ])
              refine QK.skip HK (by rfl) ?_
              (try simp only [Act.put, List.setIfInBounds_toArray, List.set_cons_zero, List.set_cons_succ])
              refine QK.skip HK (by rfl) ?_
              (try simp only [Act.put, List.setIfInBounds_toArray, List.set_cons_zero, List.set_cons_succ])
              refine QK.skip HK (by rfl) ?_
              (try simp only [Act.put, List.setIfInBounds_toArray, List.set_cons_zero, List.set_cons_succ])
              refine QK.skip HK (by rfl) ?_
              (try simp only [Act.put, List.setIfInBounds_toArray, List.set_cons_zero, List.set_cons_succ])
              refine QK.take HK ?_ (by rfl) ?_ ?_
              rotate_left
              · (intro w hw; (try have hcs := hcells w hw); (try go_split_ands); go_simp <;> with_reducible rfl)
              (try simp only [Act.put, List.setIfInBounds_toArray, List.set_cons_zero, List.set_cons_succ])
              refine QK.take HK ?_ (by rfl) ?_ ?_
              rotate_left
              · (intro w hw; (try have hcs := hcells w hw); (try go_split_ands); go_simp <;> with_reducible rfl)
              (try simp only [Act.put, List.setIfInBounds_toArray, List.set_cons_zero, List.set_cons_succ])
              refine QK.nil HK ?_
              clear HK K
              intro wq hq
              have hg9 := hgr wq hq
              clear hcells hin hcl hgr hq
              go_wp2
              go_meet
              case rel => exact ⟨by simp, rfl, hg9⟩
        case rest =>
          obtain ⟨rfl, rfl, hgr⟩ := hcut
          obtain ⟨W4, hW9⟩ : ∃ W4, W4 = wc := ⟨_, rfl⟩
          subst hW9
          replace d1 := hgr.cell_at ka d1
          replace d2 := hgr.cell_at ka d2
          replace x1' := hgr.cell_at kp x1'
          replace x2' := hgr.cell_at kp x2'
          replace hown := own_gr hown hgr
          replace HB : Hid (Below w.heap.size w W4) := HB.out.trans (hgr.below.mono (by omega))
          have hsz := hgr.size
          replace ka : w.heap.size < W4.heap.size := by omega
          replace kp : W2.heap.size < W4.heap.size := by omega
          clear hgr hsz e1 e2 hgs CO FU
          go_upto_region 10 with fail
          go_wp2_with fail
          refine (FX _).mono ?_
          rintro e w1 ⟨rfl, os5, m5, rfl⟩
          have hown5 := own_gr hown (⟨os5, m5, rfl⟩ : IsGr W4 (Gr W4 os5 m5))
          clear hown
          have hown := hown5
          clear hown5
          go_wp2_with (first | (at_builtin; refine wpList_append_own _ rfl _ _ 29 rfl (w.heap.size + 1) 27 i0 (.agg #[.int .i64 0, .int .i64 0]) 2 16 Try.underlying29 hi hz0 hz1 hz2 rfl (by decide) _ _ _ rfl (hown.alloc _) ⟨W4.heap.size + os5.size, 0, none⟩ 1 1 (ptCs [(x, y)]) rfl ?c0 ?c1 ?c2 ?c3 ?c4 ?c5 ?_) | go_in)
          case c0 => rfl
          case c1 =>
            intro j u hu
            match j, hu with
            | 0, hu => simp [ptCs] at hu; subst hu; simp [go_sem, addr_add]
            | 1, hu => simp [ptCs] at hu; subst hu; simp [go_sem, addr_add]
            | j + 2, hu => simp [ptCs] at hu
          case c2 => exact ptCs_one _
          case c3 => unfold maxLen; omega
          case c4 => omega
          case c5 => simp [Gr.size]; omega
          intro v' w1 hown' hgrow _
          have hbe : Below (w.heap.size + 1) (Gr W4 os5 m5) w1 := (Below.alloc (Below.refl _ _) (by simp [Gr.size]; omega) _).trans (below_grown hgrow (by simp [Gr.size]; omega) (fun k9 e9 => (World.ownsRow.lt hown k9 e9).1))
          have hsz := hbe.size
          rw [Gr.size] at hsz
          have d1' : w1.cell? ⟨w.heap.size, 0, none⟩ = some (.int .i64 p1) := (hbe.cell (p := ⟨w.heap.size, 0, none⟩) (by simp)).trans (by simp [go_sem, d1, ka])
          have d2' : w1.cell? ⟨w.heap.size, 1, none⟩ = some (.int .i64 p2) := (hbe.cell (p := ⟨w.heap.size, 1, none⟩) (by simp)).trans (by simp [go_sem, d2, ka])
          have HB1 : Hid (Below w.heap.size w w1) := (Below.gro HB.out (by omega) os5 m5).trans (hbe.mono (by omega))
          have k1 : w.heap.size < w1.heap.size := by omega
          clear hbe hsz hgrow hown d1 d2 x1' x2' HB
          rw [← HT.out] at hown'
          go_wp2
          go_roundw
          case rel =>
            exact ⟨k + 1, by omega, by go_num, by rw [HR1.out], by rw [HO.out], hown', ⟨d1', d2'⟩, ⟨k1, HB1.out⟩⟩
          case measure => simp [intOf]; omega
    · obtain rfl : k = n := by omega
      have hl := HL.out
      have hPl := HP.out.gr (IsGr.of_below HB.out)
      have e9 : l.take k = l := by rw [hl]; simp
      have hQ := (Pts.of_own hown).2
      rw [e9] at hQ
      rw [e9]
      have CW := fun w1 (hg : IsGr W2 w1) => Winds_any a k c l p1 p2 w1 (hPl.gr hg) (by omega)
      obtain ⟨qa, qn, qc, e7, hqn⟩ : ∃ qa qn qc, u7 = .slice qa qn qc ∧ qn = k := by
        obtain ⟨qa, qc, h1, _⟩ := id hQ
        exact ⟨qa, _, qc, h1, hl.symm⟩
      subst e7
      have CQ := fun w1 (hg : IsGr W2 w1) => refWinds_any qa qn qc l p1 p2 w1 (hQ.gr hg) (by omega)
      have HKl : Hid (k = l.length) := hl
      have HRR : Hid ((rp && allR l) = (allR l && rightP p1 p2)) := by unfold Hid; rw [Hrp.out, Bool.and_comm]
      have HRp : Hid ((rp && allR l) = true → rightP p1 p2 = true ∧ allR l = true) := by
        intro h9
        rw [Bool.and_eq_true] at h9
        exact ⟨by rw [Hrp.out]; exact h9.1, h9.2⟩
      subst hqn
      clear hown hPl hQ hl e9 hi hz0 hz1 hz2 Hrp
      generalize hR : (rp && allR l) = R at *
      cases R with
      | false =>
        go_wp2_with fail
        refine (CW _ ?_).mono ?_
        · exact (by with_reducible repeat (first | exact IsGr.refl _ | refine IsGr.gr ?_ _ _ | refine IsGr.alloc ?_ _ | refine IsGr.drew ?_ | refine IsGr.drewN ?_ _))
        rintro e w1 ⟨r, on, ok, rfl, hT, os3, m3, rfl⟩
        obtain ⟨rfl, rfl, rfl⟩ := hT.one HRR.out.symm
        clear hT
        go_wp2_with fail
        refine (CA _).mono ?_
        rintro e w1 ⟨rfl, os4, m4, rfl⟩
        go_wp2
        go_ret
        exact ⟨rfl, (IsGr.of_below HB.out).trans (by with_reducible repeat (first | exact IsGr.refl _ | refine IsGr.gr ?_ _ _ | refine IsGr.alloc ?_ _ | refine IsGr.drew ?_ | refine IsGr.drewN ?_ _))⟩
      | true =>
        cases hO : onK l p1 p2 qn with
        | true =>
          have HX : Hid (∃ i, i < l.length ∧ onAt l p1 p2 i = true) := by
            have := onK_some hO
            rw [HKl.out] at this
            exact this
          clear hO
          go_wp2_with fail
          refine (CW _ ?_).mono ?_
          · exact (by with_reducible repeat (first | exact IsGr.refl _ | refine IsGr.gr ?_ _ _ | refine IsGr.alloc ?_ _ | refine IsGr.drew ?_ | refine IsGr.drewN ?_ _))
          rintro e w1 ⟨r, on, ok, rfl, hT, os3, m3, rfl⟩
          obtain ⟨rfl, rfl, rfl⟩ := hT.two HRR.out.symm HX.out
          clear hT
          go_wp2_with fail
          refine (CA _).mono ?_
          rintro e w1 ⟨rfl, os4, m4, rfl⟩
          go_wp2
          go_ret
          exact ⟨rfl, (IsGr.of_below HB.out).trans (by with_reducible repeat (first | exact IsGr.refl _ | refine IsGr.gr ?_ _ _ | refine IsGr.alloc ?_ _ | refine IsGr.drew ?_ | refine IsGr.drewN ?_ _))⟩
        | false =>
          have HX : Hid (∀ i, i < l.length → onAt l p1 p2 i = false) := by
            have := onK_none hO
            rw [HKl.out] at this
            exact this
          have HE : Hid ((stK l p1 p2 qn).tdiv 4 = windK l p1 p2 l.length) := by
            unfold Hid
            rw [HKl.out, stK_windK (HRp.out rfl).1 (HRp.out rfl).2 HX.out]
            rw [Int.mul_comm]
            exact Int.mul_tdiv_cancel _ (by decide)
          clear hO
          rw [HE.out] at CQ
          go_wp2_with fail
          refine (CW _ ?_).mono ?_
          · exact (by with_reducible repeat (first | exact IsGr.refl _ | refine IsGr.gr ?_ _ _ | refine IsGr.alloc ?_ _ | refine IsGr.drew ?_ | refine IsGr.drewN ?_ _))
          rintro e w1 ⟨r, on, ok, rfl, hT, os3, m3, rfl⟩
          obtain ⟨rfl, rfl, rfl⟩ := hT.three HRR.out.symm HX.out
          clear hT HX HE
          generalize windK l p1 p2 l.length = K at *
          go_wp2_with fail
          refine (FP _).mono ?_
          rintro e w1 ⟨rfl, os4, m4, rfl⟩
          go_wp2_with fail
          refine (CQ _ ?_).mono ?_
          · exact (by with_reducible repeat (first | exact IsGr.refl _ | refine IsGr.gr ?_ _ _ | refine IsGr.alloc ?_ _ | refine IsGr.drew ?_ | refine IsGr.drewN ?_ _))
          rintro e w1 ⟨rfl, os5, m5, rfl⟩
          go_wp2_with fail
          refine (CA _).mono ?_
          rintro e w1 ⟨rfl, os6, m6, rfl⟩
          go_wp2
          go_ret
          exact ⟨rfl, (IsGr.of_below HB.out).trans (by with_reducible repeat (first | exact IsGr.refl _ | refine IsGr.gr ?_ _ _ | refine IsGr.alloc ?_ _ | refine IsGr.drew ?_ | refine IsGr.drewN ?_ _))⟩

set_option maxRecDepth 20000 in set_option maxHeartbeats 4000000 in
theorem law_winds (a : Option Addr) (n c : Nat) (l : List (Int × Int)) (p1 p2 : Int) (w : World) (h : Pts w (.slice a n c) l) :
    Calls Try.prog 3 #[.slice a n c, .agg #[.int .i64 p1, .int .i64 p2]] w fun e w' => e = .returned (.bool true) ∧ IsGr w w' := by
  by_cases hn : n ≤ 60
  · exact law_winds_few a n c l p1 p2 w h hn
  · have hn' : ¬ (n : Int) ≤ 60 := by omega
    have CA := fun w => awake3_any w
    clear h hn
    go_enter Try.func3, Try.ntmps3
    go_wp2_with fail
    refine (CA _).mono ?_
    rintro e w1 ⟨rfl, os1, m1, rfl⟩
    go_wp2
    go_ret
    exact ⟨rfl, (by with_reducible repeat (first | exact IsGr.refl _ | refine IsGr.gr ?_ _ _ | refine IsGr.alloc ?_ _ | refine IsGr.drew ?_ | refine IsGr.drewN ?_ _))⟩
end Go.Proofs.Ytohhlhoijanjfaa
