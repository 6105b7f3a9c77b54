/- The walk of the law SeriesAdds, over the program's own Exp, Atanh and Ln2. -/
import Derived.Test.YtngldpmnbdgkiaaDoorSrAddsW
import Derived.Test.YtngldpmnbdgkiaaDoorSrMeet
namespace Go.Proofs.YtngldpmnbdgkiaaDoor
open Go.RowKit
theorem walk_seriesAdds (a b s : Int) (w : World) (hT : Tab w) (ha1 : 0 ≤ a) (ha2 : a ≤ 4294967295) (hb1 : 0 ≤ b) (hb2 : b ≤ 4294967295) (hs1 : 0 ≤ s) (hs2 : s ≤ 255) :
    Calls Tryd.prog 6 #[.int .u32 a, .int .u32 b, .int .u8 s] w fun e w' => e = .returned (.bool true) ∧ Below w.heap.size w w' :=
  walk_seriesAdds' exp_meets atanh_meets ln2_meets a b s w hT ha1 ha2 hb1 hb2 hs1 hs2
end Go.Proofs.YtngldpmnbdgkiaaDoor
