/- Contracts of package heap over the loaded program: a thing goes up; a thing goes down. -/
import Derived.Test.YtdffpgfmodccgaaF3
import Derived.Deep.LoopGhost
namespace Go.Proofs.Ytdffpgfmodccgaa
open Go.RowKit Go.Shelf
attribute [local go_sem] Gr.size Gr.cell? Gr.frozen? Gr.setCell Gr.drew Gr.drewN Gr.of_drew Gr.of_drewN Gr.gr Gr.lt_of1 Gr.le_of1 Gr.lt_of2 Gr.le_of2 Gr.lt_of3 Gr.le_of3 Gr.lt_of4 Gr.le_of4 Gr.lt_of5 Gr.le_of5 Gr.lt_of6 Gr.le_of6 Gr.lt_of7 Gr.le_of7 Gr.lt_of8 Gr.le_of8 Gr.lt_of9 Gr.le_of9 Gr.lt_of10 Gr.le_of10 Gr.lt_of11 Gr.le_of11 Gr.lt_of12 Gr.le_of12 Gr.lt_of13 Gr.le_of13 Gr.lt_of14 Gr.le_of14 Gr.lt_of15 Gr.le_of15 Gr.lt_of16 Gr.le_of16 Gr.lt_of17 Gr.le_of17 Gr.lt_of18 Gr.le_of18 Gr.lt_of19 Gr.le_of19 Gr.lt_of20 Gr.le_of20 Gr.lt_of21 Gr.le_of21 Gr.lt_of22 Gr.le_of22 Gr.lt_of23 Gr.le_of23 Gr.lt_of24 Gr.le_of24
/-- What a way through the heap leaves: the same things, as a heap; one block has turned. -/
def WayR (P : List Int → Prop) (w : World) (base t f g c : Nat) (L : List Int) (w' : World) : Prop :=
  ∃ L', Hs w' base t f (.slice (Option.some ⟨g, 0, none⟩) L.length c) L' ∧ L'.Perm L ∧ P L' ∧ Wr [g] w w'
/-- On the way up: the thing stands at p. -/
def UpR (k : Int → Int) (w0 : World) (base t f g c : Nat) (L0 : List Int) (p : Nat) (w : World) (L : List Int) : Prop :=
  Hs w base t f (.slice (Option.some ⟨g, 0, none⟩) L.length c) L ∧ L.Perm L0 ∧ HpUp k p L ∧ p < L.length ∧ Wr [g] w0 w
theorem UpR.fin {k : Int → Int} {w0 w w' : World} {base t f g c : Nat} {L0 L : List Int} {p : Nat} (h : UpR k w0 base t f g c L0 p w L) (hp : Hp k L) (hg : IsGr w w') : WayR (Hp k) w0 base t f g c L0 w' :=
  ⟨L, h.2.1.length_eq ▸ h.1.gr hg, h.2.1, hp, h.2.2.2.2.gr hg⟩
theorem UpR.step {k : Int → Int} {w0 w w1 w2 : World} {base t f g c : Nat} {L0 L : List Int} {p : Nat} (h : UpR k w0 base t f g c L0 p w L) (hp : 0 < p) (hk : k (L.getD p 0) < k (L.getD (par p) 0)) (hg : IsGr w w1) (he : ExR w1 base t f g c L p (par p) w2) :
    UpR k w0 base t f g c L0 (par p) w2 (sw L p (par p)) := by
  have hu := up_lt hp
  refine ⟨by rw [sw_len]; exact he.1, (sw_perm h.2.2.2.1 (Nat.lt_trans hu h.2.2.2.1)).trans h.2.1, h.2.2.1.step hp h.2.2.2.1 (Int.le_of_lt hk), by rw [sw_len]; exact Nat.lt_trans hu h.2.2.2.1, (h.2.2.2.2.gr hg).trans he.2 (fun b hb _ => hb)⟩
set_option maxRecDepth 20000 in set_option maxHeartbeats 2000000 in
theorem rise_any {f : Nat} {k : Int → Int} (hO : Ordr f k) (base t g c : Nat) (L : List Int) (i : Nat) (w : World) (h : Hs w base t f (.slice (Option.some ⟨g, 0, none⟩) L.length c) L) (hgt : g ≠ t) (hi : i < L.length) (hu : HpUp k i L) (hn : L.length ≤ 1000) :
    Calls Try.prog 26 #[.pointer (Option.some ⟨t, 0, none⟩), .int .i64 i] w fun e w' => e = .returned (.tuple #[]) ∧ WayR (Hp k) w base t f g c L w' := by
  have h0 : Hid (UpR k w base t f g c L i w L) := ⟨h, List.Perm.refl _, hu, hi, Wr.refl _ _⟩
  have HN : Hid (L.length ≤ 1000) := hn
  clear h hi hu hn
  go_enter Try.func26, Try.ntmps26
  go_wp2_with fail
  go_loopg [1] i (fun r p1 wr => ∃ L', p1 = .int .i64 r ∧ Hid (UpR k w base t f g c L r wr L'))
  case atStart => exact ⟨L, rfl, h0⟩
  case round =>
    clear h0
    obtain ⟨L', rfl, H⟩ := hrel
    rcases Nat.eq_zero_or_pos gk with hz | hp
    · subst hz
      go_wp2_with fail
      go_end0
      exact ⟨rfl, H.out.fin H.out.2.2.1.top (IsGr.refl _)⟩
    · have hlen : gk < L'.length ∧ L'.length ≤ 1000 := ⟨H.out.2.2.2.1, by rw [H.out.2.1.length_eq]; exact HN.out⟩
      obtain ⟨q, hq⟩ : ∃ q, par gk = q := ⟨_, rfl⟩
      have HQ : Hid (par gk = q) := hq
      have hq1 : q < gk := hq ▸ up_lt hp
      have hq2 : ((gk : Int) - 1) / 2 = (q : Int) := by unfold par at hq; omega
      have hp' : (0 : Int) < gk := by omega
      have e1 : IntKind.i64.wrap ((gk : Int) - 1) = (gk : Int) - 1 := by rw [IntKind.wrap_i64]; omega
      have e2 : ((gk : Int) - 1).tdiv 2 = (q : Int) := by rw [Int.tdiv_eq_ediv_of_nonneg (by omega)]; exact hq2
      have e3 : IntKind.i64.wrap (q : Int) = (q : Int) := by rw [IntKind.wrap_i64]; omega
      by_cases hk : k (L'.getD gk 0) < k (L'.getD q 0)
      · have HK : Hid (k (L'.getD gk 0) < k (L'.getD q 0)) := hk
        have B := fun w' hg => behind_yes hO base t g c L' q gk w' (H.out.1.gr hg) (by omega) (by omega) hk
        have E := fun w' hg => exch_any base t f g c L' gk q w' (H.out.1.gr hg) hgt (by omega) (by omega)
        clear hq hq2 hk
        go_wp2_with fail
        refine (B _ (IsGr.refl _)).mono ?_
        rintro e w1 ⟨rfl, hg1⟩
        go_wp2_with fail
        refine (E _ hg1).mono ?_
        rintro e w2 ⟨rfl, he⟩
        go_wp2_with fail
        go_roundg q
        case measure => omega
        case rel =>
          have hQ := HQ.out
          subst hQ
          exact ⟨_, rfl, H.out.step hp HK.out hg1 he⟩
      · have HK : Hid (k (L'.getD q 0) ≤ k (L'.getD gk 0)) := Int.not_lt.1 hk
        have B := fun w' hg => behind_no hO base t g c L' q gk w' (H.out.1.gr hg) (by omega) (by omega) hk
        clear hq hq2 hk
        go_wp2_with fail
        refine (B _ (IsGr.refl _)).mono ?_
        rintro e w1 ⟨rfl, hg1⟩
        go_wp2_with fail
        refine bodyPost_ret (v := .tuple #[]) (by simp [results, Try.results26, go_sem]) rfl ⟨rfl, H.out.fin (H.out.2.2.1.done ?_) hg1⟩
        rw [HQ.out]
        exact HK.out
/-- On the way down: the thing stands at p. -/
def DownR (k : Int → Int) (w0 : World) (base t f g c q : Nat) (L0 : List Int) (p : Nat) (w : World) (L : List Int) : Prop :=
  Hs w base t f (.slice (Option.some ⟨g, 0, none⟩) L.length c) L ∧ L.Perm L0 ∧ HpDown k q p L ∧ p < L.length ∧ Wr [g] w0 w ∧ q ≤ p
theorem DownR.fin {k : Int → Int} {w0 w w' : World} {base t f g c q : Nat} {L0 L : List Int} {p : Nat} (h : DownR k w0 base t f g c q L0 p w L) (hp : HpF k q L) (hg : IsGr w w') : WayR (HpF k q) w0 base t f g c L0 w' :=
  ⟨L, h.2.1.length_eq ▸ h.1.gr hg, h.2.1, hp, h.2.2.2.2.1.gr hg⟩
theorem DownR.step {k : Int → Int} {w0 w w1 w2 : World} {base t f g c q : Nat} {L0 L : List Int} {p d : Nat} (h : DownR k w0 base t f g c q L0 p w L) (hd : d = 2 * p + 1 ∨ d = 2 * p + 2) (hl : d < L.length) (hk : k (L.getD d 0) ≤ k (L.getD p 0))
    (hs : ∀ x, x = 2 * p + 1 ∨ x = 2 * p + 2 → x < L.length → k (L.getD d 0) ≤ k (L.getD x 0)) (hg : IsGr w w1) (he : ExR w1 base t f g c L p d w2) : DownR k w0 base t f g c q L0 d w2 (sw L p d) :=
  ⟨by rw [sw_len]; exact he.1, (sw_perm h.2.2.2.1 hl).trans h.2.1, h.2.2.1.step h.2.2.2.2.2 hd hl hk hs, by rw [sw_len]; exact hl, (h.2.2.2.2.1.gr hg).trans he.2 (fun b hb _ => hb), by have := h.2.2.2.2.2; omega⟩
/-- d is the place below p that comes first. -/
def Kid (k : Int → Int) (L : List Int) (p d : Nat) : Prop := (d = 2 * p + 1 ∨ d = 2 * p + 2) ∧ d < L.length ∧ ∀ x, x = 2 * p + 1 ∨ x = 2 * p + 2 → x < L.length → k (L.getD d 0) ≤ k (L.getD x 0)
set_option maxRecDepth 20000 in set_option maxHeartbeats 2000000 in
theorem sink_any {f : Nat} {k : Int → Int} (hO : Ordr f k) (base t g c : Nat) (L : List Int) (q i : Nat) (w : World) (h : Hs w base t f (.slice (Option.some ⟨g, 0, none⟩) L.length c) L) (hgt : g ≠ t) (hi : i < L.length) (hu : HpDown k q i L) (hq : q ≤ i) (hn : L.length ≤ 1000) :
    Calls Try.prog 22 #[.pointer (Option.some ⟨t, 0, none⟩), .int .i64 i] w fun e w' => e = .returned (.tuple #[]) ∧ WayR (HpF k q) w base t f g c L w' := by
  have h0 : Hid (DownR k w base t f g c q L i w L) := ⟨h, List.Perm.refl _, hu, hi, Wr.refl _ _, hq⟩
  obtain ⟨n, hn'⟩ : ∃ n, L.length = n := ⟨_, rfl⟩
  have HN : Hid (L.length = n ∧ n ≤ 1000) := ⟨hn', by omega⟩
  clear h hi hu hn hn' hq
  go_enter Try.func22, Try.ntmps22
  go_wp2_with fail
  go_loopg [1] (n - i) (fun r p1 wr => ∃ (p : Nat) (L' : List Int), p1 = .int .i64 p ∧ r = n - p ∧ Hid (DownR k w base t f g c q L p wr L'))
  case atStart => exact ⟨i, L, rfl, rfl, h0⟩
  case round =>
    clear h0
    obtain ⟨p, L', rfl, hr, H⟩ := hrel
    have hlen : p < n ∧ L'.length = n ∧ n ≤ 1000 := by have h1 := H.out.2.2.2.1; have h2 := H.out.2.1.length_eq; have h3 := HN.out; omega
    obtain ⟨hpn, hL, hn3⟩ := hlen
    have HL : Hid (L'.length = n) := hL
    have c1 := H.out.1.hb.c1
    rw [hL] at c1
    have e1 : IntKind.i64.wrap (2 * (p : Int)) = 2 * (p : Int) := by rw [IntKind.wrap_i64]; omega
    obtain ⟨a, ha⟩ : ∃ a, 2 * p + 1 = a := ⟨_, rfl⟩
    obtain ⟨b, hb⟩ : ∃ b, 2 * p + 2 = b := ⟨_, rfl⟩
    have e2 : IntKind.i64.wrap (2 * (p : Int) + 1) = (a : Int) := by rw [IntKind.wrap_i64]; omega
    have e3 : IntKind.i64.wrap ((a : Int) + 1) = (b : Int) := by rw [IntKind.wrap_i64]; omega
    have HA : Hid (2 * p + 1 = a) := ha
    have HB : Hid (2 * p + 2 = b) := hb
    by_cases h1 : a < n
    · have hx1 : ¬ (n : Int) ≤ (a : Int) := by omega
      have h1' : (a : Int) < n := by omega
      have BA := fun w' hg hk => behind_yes hO base t g c L' a b w' (H.out.1.gr hg) (by omega) hk
      have BB := fun w' hg hk => behind_no hO base t g c L' a b w' (H.out.1.gr hg) (by omega) hk
      by_cases h2 : b < n
      · have h2' : (b : Int) < n := by omega
        by_cases hk : k (L'.getD b 0) < k (L'.getD a 0)
        · have HK : Hid (Kid k L' p b) := ⟨Or.inr hb.symm, by omega, fun x hx hxl => by rcases hx with rfl | rfl; (rw [ha]; omega); (rw [hb]; exact Int.le_refl _)⟩
          have B := fun w' hg => BA w' hg (by omega) hk
          clear BA BB hk ha hb
          go_wp2_with fail
          refine (B _ (IsGr.refl _)).mono ?_
          rintro e w1 ⟨rfl, hg1⟩
          by_cases hk : k (L'.getD b 0) < k (L'.getD p 0)
          · have HD : Hid (k (L'.getD b 0) < k (L'.getD p 0)) := hk
            have B2 := fun w' hg => behind_yes hO base t g c L' p b w' (H.out.1.gr hg) (by omega) (by omega) hk
            have E := fun w' hg => exch_any base t f g c L' p b w' (H.out.1.gr hg) hgt (by omega) (by omega)
            have hpd : p < b := by have := HA.out; have := HB.out; omega
            clear hk
            go_wp2_with fail
            refine (B2 _ hg1).mono ?_
            rintro e w2 ⟨rfl, hg2⟩
            go_wp2_with fail
            refine (E _ (hg1.trans hg2)).mono ?_
            rintro e w3 ⟨rfl, he⟩
            go_wp2_with fail
            go_roundg (n - b)
            case measure => omega
            case rel => exact ⟨b, _, rfl, rfl, H.out.step HK.out.1 HK.out.2.1 (Int.le_of_lt HD.out) HK.out.2.2 (hg1.trans hg2) he⟩
          · have HD : Hid (k (L'.getD p 0) ≤ k (L'.getD b 0)) := Int.not_lt.1 hk
            have B2 := fun w' hg => behind_no hO base t g c L' p b w' (H.out.1.gr hg) (by omega) (by omega) hk
            clear hk
            go_wp2_with fail
            refine (B2 _ hg1).mono ?_
            rintro e w2 ⟨rfl, hg2⟩
            go_wp2_with fail
            refine bodyPost_ret (v := .tuple #[]) (by simp [results, Try.results22, go_sem]) rfl ⟨rfl, H.out.fin (H.out.2.2.1.done (fun x hx hxl => Int.le_trans HD.out (HK.out.2.2 x hx hxl))) (hg1.trans hg2)⟩
        · have HK : Hid (Kid k L' p a) := ⟨Or.inl ha.symm, by omega, fun x hx hxl => by rcases hx with rfl | rfl; (rw [ha]; exact Int.le_refl _); (rw [hb]; omega)⟩
          have B := fun w' hg => BB w' hg (by omega) hk
          clear BA BB hk ha hb
          go_wp2_with fail
          refine (B _ (IsGr.refl _)).mono ?_
          rintro e w1 ⟨rfl, hg1⟩
          by_cases hk : k (L'.getD a 0) < k (L'.getD p 0)
          · have HD : Hid (k (L'.getD a 0) < k (L'.getD p 0)) := hk
            have B2 := fun w' hg => behind_yes hO base t g c L' p a w' (H.out.1.gr hg) (by omega) (by omega) hk
            have E := fun w' hg => exch_any base t f g c L' p a w' (H.out.1.gr hg) hgt (by omega) (by omega)
            have hpd : p < a := by have := HA.out; have := HB.out; omega
            clear hk
            go_wp2_with fail
            refine (B2 _ hg1).mono ?_
            rintro e w2 ⟨rfl, hg2⟩
            go_wp2_with fail
            refine (E _ (hg1.trans hg2)).mono ?_
            rintro e w3 ⟨rfl, he⟩
            go_wp2_with fail
            go_roundg (n - a)
            case measure => omega
            case rel => exact ⟨a, _, rfl, rfl, H.out.step HK.out.1 HK.out.2.1 (Int.le_of_lt HD.out) HK.out.2.2 (hg1.trans hg2) he⟩
          · have HD : Hid (k (L'.getD p 0) ≤ k (L'.getD a 0)) := Int.not_lt.1 hk
            have B2 := fun w' hg => behind_no hO base t g c L' p a w' (H.out.1.gr hg) (by omega) (by omega) hk
            clear hk
            go_wp2_with fail
            refine (B2 _ hg1).mono ?_
            rintro e w2 ⟨rfl, hg2⟩
            go_wp2_with fail
            refine bodyPost_ret (v := .tuple #[]) (by simp [results, Try.results22, go_sem]) rfl ⟨rfl, H.out.fin (H.out.2.2.1.done (fun x hx hxl => Int.le_trans HD.out (HK.out.2.2 x hx hxl))) (hg1.trans hg2)⟩
      · have h2' : ¬ (b : Int) < n := by omega
        have HK : Hid (Kid k L' p a) := ⟨Or.inl ha.symm, by omega, fun x hx hxl => by rcases hx with rfl | rfl; (rw [ha]; exact Int.le_refl _); (rw [hb] at hxl; omega)⟩
        clear BA BB ha hb
        by_cases hk : k (L'.getD a 0) < k (L'.getD p 0)
        · have HD : Hid (k (L'.getD a 0) < k (L'.getD p 0)) := hk
          have B2 := fun w' hg => behind_yes hO base t g c L' p a w' (H.out.1.gr hg) (by omega) (by omega) hk
          have E := fun w' hg => exch_any base t f g c L' p a w' (H.out.1.gr hg) hgt (by omega) (by omega)
          have hpd : p < a := by have := HA.out; have := HB.out; omega
          clear hk
          go_wp2_with fail
          refine (B2 _ (IsGr.refl _)).mono ?_
          rintro e w2 ⟨rfl, hg2⟩
          go_wp2_with fail
          refine (E _ hg2).mono ?_
          rintro e w3 ⟨rfl, he⟩
          go_wp2_with fail
          go_roundg (n - a)
          case measure => omega
          case rel => exact ⟨a, _, rfl, rfl, H.out.step HK.out.1 HK.out.2.1 (Int.le_of_lt HD.out) HK.out.2.2 hg2 he⟩
        · have HD : Hid (k (L'.getD p 0) ≤ k (L'.getD a 0)) := Int.not_lt.1 hk
          have B2 := fun w' hg => behind_no hO base t g c L' p a w' (H.out.1.gr hg) (by omega) (by omega) hk
          clear hk
          go_wp2_with fail
          refine (B2 _ (IsGr.refl _)).mono ?_
          rintro e w2 ⟨rfl, hg2⟩
          go_wp2_with fail
          refine bodyPost_ret (v := .tuple #[]) (by simp [results, Try.results22, go_sem]) rfl ⟨rfl, H.out.fin (H.out.2.2.1.done (fun x hx hxl => Int.le_trans HD.out (HK.out.2.2 x hx hxl))) hg2⟩
    · have hx1 : (n : Int) ≤ (a : Int) := by omega
      clear ha hb
      go_wp2_with fail
      refine bodyPost_ret (v := .tuple #[]) (by simp [results, Try.results22, go_sem]) rfl ⟨rfl, H.out.fin (H.out.2.2.1.done ?_) (by first | exact IsGr.refl _ | exact (IsGr.refl _).drew)⟩
      intro d hd hdl
      have h1 := HL.out
      have h2 := HA.out
      omega
set_option maxRecDepth 20000 in set_option maxHeartbeats 2000000 in
theorem sink_none (base t f : Nat) (v : Value) (w : World) (h : Hs w base t f v []) : Calls Try.prog 22 #[.pointer (Option.some ⟨t, 0, none⟩), .int .i64 0] w fun e w' => e = .returned (.tuple #[]) ∧ w' = w := by
  obtain ⟨a, c, rfl, _⟩ := h.lst.form
  have c1 := h.hb.c1
  clear h
  go_enter Try.func22, Try.ntmps22
  go_wp2_with fail
  go_loopg [1] 0 (fun r p1 wr => p1 = .int .i64 0 ∧ wr = w)
  case atStart => exact ⟨rfl, rfl⟩
  case round =>
    obtain ⟨rfl, rfl⟩ := hrel
    go_wp2_with fail
    exact bodyPost_ret (v := .tuple #[]) (by simp [results, Try.results22, go_sem]) rfl ⟨rfl, rfl⟩
end Go.Proofs.Ytdffpgfmodccgaa
