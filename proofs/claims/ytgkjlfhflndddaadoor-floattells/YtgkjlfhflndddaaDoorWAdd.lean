/- The walk of nat.Add: the sum of any two numbers. -/
import Derived.Test.YtgkjlfhflndddaaDoorWCmp
import Derived.Test.YtgkjlfhflndddaaDoorWBits
namespace Go.Proofs.YtgkjlfhflndddaaDoor
open Go.RowKit

theorem info64 : (Tryd.prog.info? 22).map (fun i => (i.zero, i.size, i.bytes)) = some (some (.int .u64 0), 1, 8) := by kernel_rfl

theorem add_step {x y cn s t k X Y Z : Nat} (hs : s + 18446744073709551616 * t = x + y + cn) (h : Z + pw k * cn = X + Y) : Z + pw k * s + pw (k + 1) * t = X + pw k * x + (Y + pw k * y) := by
  have e : pw (k + 1) * t = pw k * (18446744073709551616 * t) := by rw [pw_succ, Nat.mul_assoc, ← Nat.mul_assoc, ← Nat.mul_assoc, Nat.mul_comm (pw k)]
  have e2 : pw k * (s + 18446744073709551616 * t) = pw k * (x + y + cn) := by rw [hs]
  rw [Nat.mul_add, Nat.mul_add, Nat.mul_add] at e2
  omega




end Go.Proofs.YtgkjlfhflndddaaDoor
