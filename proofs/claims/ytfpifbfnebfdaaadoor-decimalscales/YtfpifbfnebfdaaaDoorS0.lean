/- The type int: its nought, its size. -/
import Derived.Test.YtfpifbfnebfdaaaDoorProg
import Derived.Test.YtfpifbfnebfdaaaDoorG1
namespace Go.Proofs.YtfpifbfnebfdaaaDoor
open Go.RowKit
theorem info_int : (Tryd.prog.info? 3).map (fun i => (i.zero, i.size, i.bytes)) = some (some (.int .i64 0), 1, 8) := by kernel_rfl
end Go.Proofs.YtfpifbfnebfdaaaDoor
