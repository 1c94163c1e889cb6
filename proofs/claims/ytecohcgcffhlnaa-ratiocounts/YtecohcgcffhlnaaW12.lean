/- Contracts of package wide over the loaded program: the digits of an Int. -/
import Derived.Test.YtecohcgcffhlnaaW9
import Derived.Test.YtecohcgcffhlnaaM6
namespace Go.Proofs.Ytecohcgcffhlnaa
open Go.RowKit Go.Shelf
attribute [local go_sem] Gr.size Gr.cell? Gr.frozen? Gr.setCell Gr.drew Gr.drewN Gr.of_drew Gr.of_drewN Gr.gr Gr.lt_of1 Gr.le_of1 Gr.lt_of2 Gr.le_of2 Gr.lt_of3 Gr.le_of3 Gr.lt_of4 Gr.le_of4 Gr.lt_of5 Gr.le_of5 Gr.lt_of6 Gr.le_of6 Gr.lt_of7 Gr.le_of7 Gr.lt_of8 Gr.le_of8

attribute [local go_sem] U8.set

end Go.Proofs.Ytecohcgcffhlnaa
