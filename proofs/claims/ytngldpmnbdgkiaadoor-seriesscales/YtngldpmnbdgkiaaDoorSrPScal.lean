/- The walk of the law SeriesScales, over the program's own Atanh, Ln2 and Within. -/
import Derived.Test.YtngldpmnbdgkiaaDoorSrScalW
import Derived.Test.YtngldpmnbdgkiaaDoorSrMeet
import Derived.Test.YtngldpmnbdgkiaaDoorSrWith
namespace Go.Proofs.YtngldpmnbdgkiaaDoor
open Go.RowKit
theorem walk_seriesScales (x y s t : Int) (g : Bool) (w : World) (hT : Tab w) (hx1 : 0 ≤ x) (hx2 : x ≤ 4294967295) (hy1 : 0 ≤ y) (hy2 : y ≤ 4294967295) (hs1 : 0 ≤ s) (hs2 : s ≤ 255) (ht1 : 0 ≤ t) (ht2 : t ≤ 255) :
    Calls Tryd.prog 5 #[.int .u32 x, .int .u32 y, .int .u8 s, .int .u8 t, .bool g] w fun e w' => e = .returned (.bool true) ∧ Below w.heap.size w w' :=
  walk_seriesScales' atanh_meets ln2_meets within_meets x y s t g w hT hx1 hx2 hy1 hy2 hs1 hs2 ht1 ht2
end Go.Proofs.YtngldpmnbdgkiaaDoor
