/- The walk of the law ExactTells, over the program's own Power. -/
import Derived.Test.YtmmeejofepmgaaaGreatDoorExTells
import Derived.Test.YtmmeejofepmgaaaGreatDoorExPwr
namespace Go.Proofs.YtmmeejofepmgaaaGreatDoor
open Go.RowKit
theorem walk_exactTells (g : Bool) (A : Option Addr) (n c : Nat) (xs : List Nat) (e0 M K : Int) (w : World) (hT : Tab w) (hA : Lim w A n c xs) (hi1 : -9223372036854775808 ≤ M) (hi2 : M ≤ 9223372036854775807) (hj1 : -9223372036854775808 ≤ K) (hj2 : K ≤ 9223372036854775807) :
    Calls Tryz.prog 3 #[.agg #[.bool g, .slice A n c, .int .i64 e0], .agg #[.int .i64 M, .int .i64 K]] w fun e w' => e = .returned (.bool true) ∧ Below w.heap.size w w' :=
  walk_exactTells' power_meets g A n c xs e0 M K w hT hA hi1 hi2 hj1 hj2
end Go.Proofs.YtmmeejofepmgaaaGreatDoor
