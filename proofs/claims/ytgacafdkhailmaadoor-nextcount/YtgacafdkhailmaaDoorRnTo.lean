/- The walks of round.cut, count, laid. -/
import Derived.Test.YtgacafdkhailmaaDoorRnCut
namespace Go.Proofs.YtgacafdkhailmaaDoor
open Go.RowKit

theorem quiet_one {P : Program} {f : FuncId} {args : Array Value} {w : World} {n : Nat} {v : Value}
    (h : Calls P f args (w.drewN n) fun e w' => e = .returned v ∧ w.drewN n = w') : Calls P f args (w.drewN n) fun e w'' => e = .returned v ∧ ∃ m, w'' = w.drewN m :=
  h.mono fun _ _ ⟨he, hm⟩ => ⟨he, n, hm.symm⟩
/-- A number and two values. -/
def TellsC (w : World) (V L : Nat) (p q : Bool) (e : Ending) (w' : World) : Prop :=
  ∃ A m c zs, e = .returned (.tuple #[.slice A m c, .bool p, .bool q]) ∧ m ≤ L ∧ Lim w' A m c zs ∧ Bare zs ∧ val zs = V ∧ Below w.heap.size w w'



end Go.Proofs.YtgacafdkhailmaaDoor
