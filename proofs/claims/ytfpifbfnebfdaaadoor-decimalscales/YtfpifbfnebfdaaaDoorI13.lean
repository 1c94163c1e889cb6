/- gromalaw10.DecimalScales at every text, given what package decimal answers. -/
import Derived.Test.YtfpifbfnebfdaaaDoorI12
namespace Go.Proofs.YtfpifbfnebfdaaaDoor
open Go.RowKit Go.Shelf
theorem law_scales (C : DecC) (s : ByteArray) (fine : Int) (hi : I64 fine) (w : World) (HTB : TabW w) : Calls Tryd.prog 3 #[.string s, .int .i64 fine] w fun e w' => e = .returned (.bool true) ∧ IsGr w w' := by
  by_cases hs : s.size ≤ 3000
  · cases hr : rgtB (bts s) with
    | false => exact scales_wrong C s fine w hs hi hr HTB
    | true =>
      obtain ⟨M, E, hN⟩ := num_of hr
      by_cases h0 : fine < 0
      · exact scales_less C s fine w hs hi M E hN hr h0 HTB
      · by_cases h9 : 9 < fine
        · exact scales_more C s fine w hs hi M E hN hr h9 HTB
        · have hf : 0 ≤ fine ∧ fine ≤ 9 := by omega
          have CS := C.scale s fine w M E hs hi hN
          obtain ⟨neg, sg, l1, dt, l2, ep, p, hspl, hM, hE⟩ := hN
          subst hM hE
          obtain ⟨X, Y, hxy⟩ := SclI.make (sgI neg (dvl (l1 ++ l2))) (p - (l2.length : Nat) + fine)
          by_cases hk : ∃ k, UnitIs (sgI neg (dvl (l1 ++ l2))) (p - (l2.length : Nat) + fine) k
          · obtain ⟨k, hk⟩ := hk
            by_cases hb : -MxU ≤ k ∧ k ≤ MxU
            · have CS' : Calls Tryd.prog 8 #[.string s, .int .i64 fine] w fun e w' => e = .returned (.tuple #[.int .i64 k, .int .i64 0]) ∧ IsGr w w' := CS.mono (by
                rintro e w' ⟨n, er, rfl, hsc, hg⟩
                obtain ⟨rfl, rfl⟩ := hsc.ok hf hk hb.1 hb.2
                exact ⟨rfl, hg⟩)
              cases hp : plB (bts s) with
              | true => exact scales_ok C s fine w neg sg l1 dt l2 ep p k X Y hspl hf.1 hf.2 hp hxy hk hb.1 hb.2 CS' HTB
              | false => exact scales_np_o C s fine w k hs hr hf.1 hf.2 hp CS' HTB
            · have CS' : Calls Tryd.prog 8 #[.string s, .int .i64 fine] w fun e w' => e = .returned (.tuple #[.int .i64 0, .int .i64 23]) ∧ IsGr w w' := CS.mono (by
                rintro e w' ⟨n, er, rfl, hsc, hg⟩
                obtain ⟨rfl, rfl⟩ := hsc.far hf hk (by omega)
                exact ⟨rfl, hg⟩)
              cases hp : plB (bts s) with
              | true =>
                by_cases hb2 : MxU < k
                · exact scales_farp C s fine w neg sg l1 dt l2 ep p k X Y hspl hf.1 hf.2 hp hxy hk hb2 CS' HTB
                · exact scales_farn C s fine w neg sg l1 dt l2 ep p k X Y hspl hf.1 hf.2 hp hxy hk (by omega) CS' HTB
              | false => exact scales_np_f C s fine w hs hr hf.1 hf.2 hp CS' HTB
          · have hk' : ∀ k, ¬ UnitIs (sgI neg (dvl (l1 ++ l2))) (p - (l2.length : Nat) + fine) k := fun k h => hk ⟨k, h⟩
            have CS' : Calls Tryd.prog 8 #[.string s, .int .i64 fine] w fun e w' => e = .returned (.tuple #[.int .i64 0, .int .i64 22]) ∧ IsGr w w' := CS.mono (by
              rintro e w' ⟨n, er, rfl, hsc, hg⟩
              obtain ⟨rfl, rfl⟩ := hsc.fine hf hk'
              exact ⟨rfl, hg⟩)
            cases hp : plB (bts s) with
            | true => exact scales_prec C s fine w neg sg l1 dt l2 ep p X Y hspl hf.1 hf.2 hp hxy hk' CS' HTB
            | false => exact scales_np_p C s fine w hs hr hf.1 hf.2 hp CS' HTB
  · exact scales_big C s fine w hs HTB
end Go.Proofs.YtfpifbfnebfdaaaDoor
