/- What package decimal answers, proved. -/
import Derived.Test.YtfpifbfnebfdaaaDoorJ7
namespace Go.Proofs.YtfpifbfnebfdaaaDoor
theorem decC : DecC where
  scale s fine w M E hs _ hN := by
    by_cases hf : 0 ≤ fine ∧ fine ≤ 9
    · exact dscale_in s fine w M E hs hN hf
    · exact dscale_out s fine w M E hs hN hf
  scaleNo s fine w hs _ hr := dscale_no s fine w hs hr
  text n fine w ht hn _ := by
    by_cases hf : 0 ≤ fine ∧ fine ≤ 9
    · exact dtext_in n fine w ht hn hf
    · exact dtext_out n fine w hf
  digits s w M E hs hN := ddigits_ok s w M E hs hN
  digitsNo s w hs hr := ddigits_no s w hs hr
end Go.Proofs.YtfpifbfnebfdaaaDoor
