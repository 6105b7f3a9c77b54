/- The walk of the law ExactSo, over the program's own Power and Is. -/
import Derived.Test.YtmmeejofepmgaaaDoorExSo
import Derived.Test.YtmmeejofepmgaaaDoorExOf
namespace Go.Proofs.YtmmeejofepmgaaaDoor
open Go.RowKit
theorem walk_exactSo (r ei mi ki ti : Int) (w : World) (hT : Tab w) (hr1 : 0 ≤ r) (hr2 : r ≤ 4294967295) (he1 : -32768 ≤ ei) (he2 : ei ≤ 32767) (hm1 : -128 ≤ mi) (hm2 : mi ≤ 127) (hk1 : 0 ≤ ki) (hk2 : ki ≤ 255) (ht1 : 0 ≤ ti) (ht2 : ti ≤ 255) :
    Calls Tryd.prog 4 #[.int .u32 r, .int .i16 ei, .int .i8 mi, .int .u8 ki, .int .u8 ti] w fun e w' => e = .returned (.bool true) ∧ Below w.heap.size w w' :=
  walk_exactSo' power_meets is_meets r ei mi ki ti w hT hr1 hr2 he1 he2 hm1 hm2 hk1 hk2 ht1 ht2
end Go.Proofs.YtmmeejofepmgaaaDoor
