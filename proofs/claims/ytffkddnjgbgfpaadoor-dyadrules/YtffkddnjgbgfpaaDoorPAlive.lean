/- The walk of planimeterlaw02.alive; products and powers by their lengths. -/
import Derived.Test.YtffkddnjgbgfpaaDoorPPow
import Derived.Test.YtffkddnjgbgfpaaDoorLaws
namespace Go.Proofs.YtffkddnjgbgfpaaDoor
open Go.RowKit

theorem blen_two_pow (k : Nat) : blen (2 ^ k) = k + 1 := by
  apply blen_eq
  · exact Nat.pow_le_pow_right (by decide) (by omega)
  · exact Nat.pow_lt_pow_right (by decide) (by omega)
  · omega
theorem long_two (k : Nat) (hk : 65536 ≤ k) : 65536 < blen (val [2] ^ k) := by
  rw [show val [2] = 2 from by decide, blen_two_pow]; omega
theorem Lim.blen_le {w : World} {A : Option Addr} {n c : Nat} {xs : List Nat} (h : Lim w A n c xs) : blen (val xs) ≤ 64 * n := by
  have := tl_of_blen h.words
  have := h.tl_le
  omega

/-- Mul where both are short. -/
theorem mul_len (A : Option Addr) (n c : Nat) (xs : List Nat) (B : Option Addr) (m d : Nat) (ys : List Nat) (w : World) (hA : Lim w A n c xs) (hB : Lim w B m d ys) (hn : n + m ≤ 1024) :
    Calls Tryd.prog 22 #[.slice A n c, .slice B m d] w (Tells2 w (val xs * val ys) (n + m) (.int .i64 0)) :=
  mul_any A n c xs B m d ys w hA hB (by omega) (by omega) (Or.inr (Or.inr (by have := hA.blen_le; have := hB.blen_le; omega)))



end Go.Proofs.YtffkddnjgbgfpaaDoor
