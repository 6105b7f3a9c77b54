/- math/bits.Add64, Sub64 (the model's own entries), TrailingZeros64, Len64 (walked). -/
import Derived.Test.YtimajgbkmblfmaaMem
import Derived.Test.YtimajgbkmblfmaaProg
import Derived.WalkKit
import Derived.Laws.Externs
import Derived.Laws.Bits64b
import Derived.Lib.TrailingZeros
import Derived.Shelf.Spec.BitsCarry
import Derived.Shelf.Spec.TrailingZeros
import Derived.Test.YtimajgbkmblfmaaWLen
namespace Go.Proofs.Ytimajgbkmblfmaa
open Go.RowKit

/-- x + y + c, the limb and the carry, each a letter. -/
theorem add64 (x y c s t : Nat) (hc : c ≤ 1) (hs : Hid (s + 18446744073709551616 * t = x + y + c)) (hs' : s < 18446744073709551616) (w : World) :
    (callFunc 33 #[.int .u64 (x : Int), .int .u64 (y : Int), .int .u64 (c : Int)]).run Try.prog w = .ok (.value (.tuple #[.int .u64 (s : Int), .int .u64 (t : Int)])) w := by
  rw [run_callFunc_extern Try.func33 (by kernel_rfl) (by kernel_rfl) (by kernel_rfl) (e := add64Entry) (by kernel_rfl), run_add64 x y c (by omega) (by omega) (by omega) (by omega)]
  simp only [Result.andThen]
  have := hs.out
  have e1 : ((x : Int) + y + c) % 18446744073709551616 = s := by omega
  have e2 : ((x : Int) + y + c) / 18446744073709551616 = t := by omega
  rw [e1, e2]





end Go.Proofs.Ytimajgbkmblfmaa
