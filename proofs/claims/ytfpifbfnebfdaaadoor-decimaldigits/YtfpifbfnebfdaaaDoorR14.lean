/- Numbers of decimal digits of package gromaref01: a nought alone. -/
import Derived.Test.YtfpifbfnebfdaaaDoorR12a
namespace Go.Proofs.YtfpifbfnebfdaaaDoor
open Go.RowKit
attribute [local go_sem] Gr.size Gr.cell? Gr.frozen? Gr.setCell Gr.drew Gr.drewN Gr.of_drew Gr.of_drewN Gr.gr Gr.lt_of1 Gr.le_of1 Gr.lt_of2 Gr.le_of2 Gr.lt_of3 Gr.le_of3 Gr.lt_of4 Gr.le_of4 Gr.lt_of5 Gr.le_of5 Gr.lt_of6 Gr.le_of6 Gr.lt_of7 Gr.le_of7 Gr.lt_of8 Gr.le_of8


set_option maxHeartbeats 4000000 in
theorem Digits_z (s : ByteArray) (w : World) (_hs2 : s.size ≤ 120) (h0 : 0 < s.size) (q : Option Int) (Hq : Hid (dval ((nums s).drop 0) 0 = q)) (h45 : (((s[0]'h0).toNat : Int) == 45) = false) (h48 : (((s[0]'h0).toNat : Int) == 48) = true) (h1 : s.size = 1) :
    Calls Tryd.prog 21 #[.string s] w fun e w' => DgP false q w e w' := by
  have CT := fun w => BigOf_any 10 (by omega) (by omega) w
  have hsz0 : ((s.size : Int) == 0) = false := by rw [beq_eq_false_iff_ne]; omega
  have hsz1 : decide (1 < (s.size : Int)) = false := by simp; omega
  go_enter Tryd.func21, Tryd.ntmps21
  go_wp2
  go_loopw [6] (fun t6 wr => ∃ (i k : Nat) (Z : Int) (bs : Bool) (ba : Option Addr) (bn bc : Nat) (os : Array Obj) (d : Nat), i ≤ s.size ∧ t6 = .int .i64 i ∧ Dl (nums s) q i k Z ∧ IsBig wr (.agg #[.bool bs, .slice ba bn bc]) Z ∧
      wr = Gr ((w.alloc (.cells #[.bool false, .slice none 0 0] 29)).alloc (.cells #[.bool bs, .slice ba bn bc] 29)) os d) (fun t6 _ => (s.size - intOf t6).toNat)
  case atStart => exact ⟨0, 0, 0, false, none, 0, 0, #[], w.drawn, by omega, rfl, ⟨by omega, by simp, by omega, Hq.out⟩, IsBig.zero _, Gr.nil _⟩
  case round =>
    obtain ⟨i, k, Z, bs, ba, bn, bc, os, d, hi, rfl, HD, hb, rfl⟩ := hrel
    by_cases hlt : i < s.size
    · have hat := nums_at s i hlt
      have HAT : Hid ((nums s).drop i = ((s[i]'hlt).toNat : Int) :: (nums s).drop (i + 1)) := hat
      clear hat
      by_cases hc1 : ((s[i]'hlt).toNat : Int) < 48
      · have HN : Hid (q = none) := HD.bad HAT.out (Or.inl hc1)
        clear HD hb HAT
        go_wp2
        refine bodyPost_ret (v := .tuple #[.agg #[.bool false, .slice none 0 0], .bool false]) (by simp [results, Tryd.results21, go_sem]) rfl (DgP.no HN.out (by with_reducible repeat (first | exact IsGr.refl _ | refine IsGr.gr ?_ _ _ | refine IsGr.alloc ?_ _ | refine IsGr.drew ?_ | refine IsGr.drewN ?_ _)))
      · by_cases hc2 : 57 < ((s[i]'hlt).toNat : Int)
        · have HN : Hid (q = none) := HD.bad HAT.out (Or.inr hc2)
          clear HD hb HAT
          go_wp2
          refine bodyPost_ret (v := .tuple #[.agg #[.bool false, .slice none 0 0], .bool false]) (by simp [results, Tryd.results21, go_sem]) rfl (DgP.no HN.out (by with_reducible repeat (first | exact IsGr.refl _ | refine IsGr.gr ?_ _ _ | refine IsGr.alloc ?_ _ | refine IsGr.drew ?_ | refine IsGr.drewN ?_ _)))
        · have hsm := HD.sm (by have := HD.2.2.1; omega)
          have HS := HD.step HAT.out (by omega) (by omega)
          have HS' : Hid (Dl (nums s) q (i + 1) (k + 1) (Z * 10 + (((s[i]'hlt).toNat : Int) - 48))) := HS
          clear HD HS HAT
          have hcb : 0 ≤ ((s[i]'hlt).toNat : Int) ∧ ((s[i]'hlt).toNat : Int) < 256 := by omega
          have hwr : IntKind.u8.wrap (((s[i]'hlt).toNat : Int) - 48) = ((s[i]'hlt).toNat : Int) - 48 := by rw [IntKind.wrap_u8]; omega
          have hwr2 : IntKind.i64.wrap (((s[i]'hlt).toNat : Int) - 48) = ((s[i]'hlt).toNat : Int) - 48 := by rw [IntKind.wrap_i64]; omega
          have CD := fun w => BigOf_any (((s[i]'hlt).toNat : Int) - 48) (by omega) (by omega) w
          have sd : Sm (((s[i]'hlt).toNat : Int) - 48) := by unfold Sm; omega
          have st : Sm 10 := by unfold Sm; omega
          have sp : Sm (Z * 10) := by have h1 := HS'.out.2.1; have h0 := HS'.out.1; have h3 := HS'.out.sm (by have := HS'.out.2.2.1; omega); unfold Sm at h3 ⊢; omega
          have hbg := fun w1 (hg : IsGr (Gr ((w.alloc (.cells #[.bool false, .slice none 0 0] 29)).alloc (.cells #[.bool bs, .slice ba bn bc] 29)) os d) w1) => hb.gr hg
          have tok1 : True := trivial
          go_upto_region 12 with fail
          go_region_with (first | (go_at_call 12; have _t := tok1; refine (CT _).mono ?_; rintro e w1 ⟨t, rfl, ht, os1, d1, rfl⟩; obtain ⟨ts, ta, tn, tc, rfl⟩ := ht.shape; clear tok1) | (go_at_call 13; refine (BigMul_any _ _ Z 10 _ (hbg _ ?_) ?_ hsm st).mono ?_; exact IsGr.app _ _ _ _ _; (rw [Gr.gr] at ht; exact ht); rintro e w1 ⟨p, rfl, hp, os2, d2, rfl⟩; obtain ⟨ps, pa, pn, pc, rfl⟩ := hp.shape) | (go_at_call 12; refine (CD _).mono ?_; rintro e w1 ⟨u, rfl, hu, os3, d3, rfl⟩; obtain ⟨us, ua, un, uc, rfl⟩ := hu.shape) | (go_at_call 25; refine (BigAdd_any _ _ (Z * 10) (((s[i]'hlt).toNat : Int) - 48) _ (hp.gr ?_) ?_ sp sd).mono ?_; exact ⟨os3, d3, by simp only [Gr.gr, Array.append_assoc]⟩; (simpa only [Gr.gr, Gr.of_drew, Array.append_assoc] using hu); rintro e w1 ⟨r, rfl, hr, os4, d4, rfl⟩; obtain ⟨rs, ra, rn, rc, rfl⟩ := hr.shape))
          all_goals
            go_wp2
            go_roundw
            case rel =>
              simp only [Gr.gr, Array.append_assoc] at hr
              exact ⟨i + 1, k + 1, Z * 10 + (((s[i]'hlt).toNat : Int) - 48), rs, ra, rn, rc, _, _, by omega, by go_num, HS'.out, IsBig.ret hr, rfl⟩
            case measure => simp [intOf]; omega
    · obtain rfl : i = s.size := by omega
      have HF : Hid (q = some Z) := HD.fin (by rw [nums_len]; omega)
      have hsm := HD.sm (by have := HD.2.2.1; omega)
      clear HD
      go_wp2
      refine bodyPost_ret (v := .tuple #[.agg #[.bool bs, .slice ba bn bc], .bool true]) (by simp [results, Tryd.results21, go_sem]) rfl (DgP.yes HF.out ?_ (by with_reducible repeat (first | exact IsGr.refl _ | refine IsGr.gr ?_ _ _ | refine IsGr.alloc ?_ _ | refine IsGr.drew ?_ | refine IsGr.drewN ?_ _)))
      refine hb.kb ?_
      with_reducible repeat (first | exact Kb.refl _ | refine Kb.gr ?_ (by first | (simp; done) | simp [Gr.size]) _ _ _ | refine Kb.gr_app ?_ (by first | (simp; done) | simp [Gr.size]) _ _ _ _ | refine Kb.box ?_ (by first | (simp; done) | simp [Gr.size]) _ _ _ _ _ _ _ _ _ | refine Kb.alloc ?_ (by first | (simp; done) | simp [Gr.size]) _ | refine Kb.drew_l ?_ | refine Kb.drew_r ?_ | refine Kb.lay ?_ _ | refine Kb.grow ?_ _ _)
end Go.Proofs.YtfpifbfnebfdaaaDoor
