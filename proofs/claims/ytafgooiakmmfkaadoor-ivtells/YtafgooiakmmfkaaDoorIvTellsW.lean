/- The walk of IvTells as its card wants it. -/
import Derived.Test.YtafgooiakmmfkaaDoorIvTells
import Derived.Test.YtafgooiakmmfkaaDoorIvOpen
namespace Go.Proofs.YtafgooiakmmfkaaDoor
open Go.RowKit

theorem walk_ivTells (g1 : Bool) (A1 : Option Addr) (n1 c1 : Nat) (xs1 : List Nat) (e1 : Int) (g2 : Bool) (A2 : Option Addr) (n2 c2 : Nat) (xs2 : List Nat) (e2 : Int) (g3 : Bool) (A3 : Option Addr) (n3 c3 : Nat) (xs3 : List Nat) (e3 : Int) (g4 : Bool) (A4 : Option Addr) (n4 c4 : Nat) (xs4 : List Nat) (e4 : Int) (g5 : Bool) (A5 : Option Addr) (n5 c5 : Nat) (xs5 : List Nat) (e5 : Int) (w : World) (hT : Tab w) (l1 : Lim w A1 n1 c1 xs1) (l2 : Lim w A2 n2 c2 xs2) (l3 : Lim w A3 n3 c3 xs3) (l4 : Lim w A4 n4 c4 xs4) (l5 : Lim w A5 n5 c5 xs5) :
    Calls Tryd.prog 3 #[.agg #[.bool g1, .slice A1 n1 c1, .int .i64 e1, .bool g2, .slice A2 n2 c2, .int .i64 e2], .agg #[.bool g3, .slice A3 n3 c3, .int .i64 e3, .bool g4, .slice A4 n4 c4, .int .i64 e4], .agg #[.bool g5, .slice A5 n5 c5, .int .i64 e5]] w fun e w' => e = .returned (.bool true) ∧ Below w.heap.size w w' :=
  ivtells_any g1 A1 n1 c1 xs1 e1 g2 A2 n2 c2 xs2 e2 g3 A3 n3 c3 xs3 e3 g4 A4 n4 c4 xs4 e4 g5 A5 n5 c5 xs5 e5 w l1 l2 l3 l4 l5 hT
end Go.Proofs.YtafgooiakmmfkaaDoor
