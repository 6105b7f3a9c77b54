/- The walk of planimeterlaw02.alive; products and powers by their lengths. -/
import Derived.Test.YtgacafdkhailmaaDoorPPow
import Derived.Test.YtgacafdkhailmaaDoorLaws
namespace Go.Proofs.YtgacafdkhailmaaDoor
open Go.RowKit

theorem blen_two_pow (k : Nat) : blen (2 ^ k) = k + 1 := by
  apply blen_eq
  · exact Nat.pow_le_pow_right (by decide) (by omega)
  · exact Nat.pow_lt_pow_right (by decide) (by omega)
  · omega
theorem long_two (k : Nat) (hk : 65536 ≤ k) : 65536 < blen (val [2] ^ k) := by
  rw [show val [2] = 2 from by decide, blen_two_pow]; omega
theorem Lim.blen_le {w : World} {A : Option Addr} {n c : Nat} {xs : List Nat} (h : Lim w A n c xs) : blen (val xs) ≤ 64 * n := by
  have := tl_of_blen h.words
  have := h.tl_le
  omega




end Go.Proofs.YtgacafdkhailmaaDoor
