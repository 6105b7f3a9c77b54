/- The walk of the law SeriesAtanh, over the program's own Atanh and Ln2. -/
import Derived.Test.YtngldpmnbdgkiaaDoorSrAtanh
import Derived.Test.YtngldpmnbdgkiaaDoorSrMeet
namespace Go.Proofs.YtngldpmnbdgkiaaDoor
open Go.RowKit
theorem walk_seriesAtanh (A : Option Addr) (n c : Nat) (xs : List Nat) (B : Option Addr) (m d : Nat) (ys : List Nat) (s : Int) (w : World) (hT : Tab w) (hA : Lim w A n c xs) (_ : n ≤ 9223372036854775807) (hB : Lim w B m d ys) (_ : m ≤ 9223372036854775807) (hs1 : -9223372036854775808 ≤ s) (hs2 : s ≤ 9223372036854775807) :
    Calls Tryd.prog 3 #[.slice A n c, .slice B m d, .int .i64 s] w fun e w' => e = .returned (.bool true) ∧ Below w.heap.size w w' :=
  walk_seriesAtanh' atanh_meets ln2_meets A n c xs B m d ys s w hT hA hB hs1 hs2
end Go.Proofs.YtngldpmnbdgkiaaDoor
