/- gromalaw02.RatioCounts: for every two fractions the law answers true. -/
import Derived.Test.YtecohcgcffhlnaaL17n
import Derived.Test.YtecohcgcffhlnaaL17y
namespace Go.Proofs.Ytecohcgcffhlnaa
theorem law_rcounts (n0 n1 n2 n3 n d0 d1 d2 d3 d q0 q1 q2 q3 q c0 c1 c2 c3 c : Int) (hn : IsI n0 n1 n2 n3 n) (hd : IsI d0 d1 d2 d3 d) (hm : IsI q0 q1 q2 q3 q) (hc : IsI c0 c1 c2 c3 c) (w : World) :
    Calls Try.prog 4 #[.agg #[.int .u64 n0, .int .u64 n1, .int .u64 n2, .int .u64 n3, .int .u64 d0, .int .u64 d1, .int .u64 d2, .int .u64 d3], .agg #[.int .u64 q0, .int .u64 q1, .int .u64 q2, .int .u64 q3, .int .u64 c0, .int .u64 c1, .int .u64 c2, .int .u64 c3]] w fun e w' => e = .returned (.bool true) ∧ IsGr w w' := by
  by_cases h : addOk n d q c
  · exact law_rcounts_y n0 n1 n2 n3 n d0 d1 d2 d3 d q0 q1 q2 q3 q c0 c1 c2 c3 c hn hd hm hc h w
  · exact law_rcounts_n n0 n1 n2 n3 n d0 d1 d2 d3 d q0 q1 q2 q3 q c0 c1 c2 c3 c hn hd hm hc h w
end Go.Proofs.Ytecohcgcffhlnaa
