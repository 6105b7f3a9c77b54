/- The walk of the law ExactOnce, over the program's own Power. -/
import Derived.Test.YtmmeejofepmgaaaDoorExOnce
import Derived.Test.YtmmeejofepmgaaaDoorExPwr
namespace Go.Proofs.YtmmeejofepmgaaaDoor
open Go.RowKit
theorem walk_exactOnce (g : Bool) (A : Option Addr) (n c : Nat) (xs : List Nat) (e0 ki ei : Int) (w : World) (hT : Tab w) (hA : Lim w A n c xs) (hk1 : -32768 ≤ ki) (hk2 : ki ≤ 32767) (he1 : -32768 ≤ ei) (he2 : ei ≤ 32767) :
    Calls Tryd.prog 5 #[.agg #[.bool g, .slice A n c, .int .i64 e0], .int .i16 ki, .int .i16 ei] w fun e w' => e = .returned (.bool true) ∧ Below w.heap.size w w' :=
  walk_exactOnce' power_meets g A n c xs e0 ki ei w hT hA hk1 hk2 he1 he2
end Go.Proofs.YtmmeejofepmgaaaDoor
