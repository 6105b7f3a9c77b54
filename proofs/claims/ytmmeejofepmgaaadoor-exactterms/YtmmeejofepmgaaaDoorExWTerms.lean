/- The walk of the law ExactTerms, over the program's own Power, Of and Low. -/
import Derived.Test.YtmmeejofepmgaaaDoorExTerms
import Derived.Test.YtmmeejofepmgaaaDoorExOf
namespace Go.Proofs.YtmmeejofepmgaaaDoor
open Go.RowKit
theorem low_meets : LowMeets := fun M K w h1 h2 h3 h4 => (elow_l M K w h1 h2 h3 h4).mono fun _ _ ⟨a, b, c, q1, q2, q3⟩ => ⟨a, b, c, q1, q2, q3⟩
theorem walk_exactTerms (g : Bool) (A : Option Addr) (n c : Nat) (xs : List Nat) (e0 M0 K0 : Int) (w : World) (hT : Tab w) (hA : Lim w A n c xs) (hi1 : -9223372036854775808 ≤ M0) (hi2 : M0 ≤ 9223372036854775807) (hj1 : -9223372036854775808 ≤ K0) (hj2 : K0 ≤ 9223372036854775807) :
    Calls Tryd.prog 3 #[.agg #[.bool g, .slice A n c, .int .i64 e0], .agg #[.int .i64 M0, .int .i64 K0]] w fun e w' => e = .returned (.bool true) ∧ Below w.heap.size w w' :=
  walk_exactTerms' power_meets of_meets low_meets g A n c xs e0 M0 K0 w hT hA hi1 hi2 hj1 hj2
end Go.Proofs.YtmmeejofepmgaaaDoor
