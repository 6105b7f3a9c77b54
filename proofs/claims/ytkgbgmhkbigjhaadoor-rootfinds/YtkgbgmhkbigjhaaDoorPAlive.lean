/- The walk of planimeterlaw02.alive; products and powers by their lengths. -/
import Derived.Test.YtkgbgmhkbigjhaaDoorPPow
import Derived.Test.YtkgbgmhkbigjhaaDoorLaws
namespace Go.Proofs.YtkgbgmhkbigjhaaDoor
open Go.RowKit

theorem blen_two_pow (k : Nat) : blen (2 ^ k) = k + 1 := by
  apply blen_eq
  · exact Nat.pow_le_pow_right (by decide) (by omega)
  · exact Nat.pow_lt_pow_right (by decide) (by omega)
  · omega
theorem long_two (k : Nat) (hk : 65536 ≤ k) : 65536 < blen (val [2] ^ k) := by
  rw [show val [2] = 2 from by decide, blen_two_pow]; omega
theorem Lim.blen_le {w : World} {A : Option Addr} {n c : Nat} {xs : List Nat} (h : Lim w A n c xs) : blen (val xs) ≤ 64 * n := by
  have := tl_of_blen h.words
  have := h.tl_le
  omega

/-- Mul where both are short. -/
theorem mul_len (A : Option Addr) (n c : Nat) (xs : List Nat) (B : Option Addr) (m d : Nat) (ys : List Nat) (w : World) (hA : Lim w A n c xs) (hB : Lim w B m d ys) (hn : n + m ≤ 1024) :
    Calls Tryd.prog 54 #[.slice A n c, .slice B m d] w (Tells2 w (val xs * val ys) (n + m) (.int .i64 0)) :=
  mul_any A n c xs B m d ys w hA hB (by omega) (by omega) (Or.inr (Or.inr (by have := hA.blen_le; have := hB.blen_le; omega)))

/-- Pow of a short number and a small exponent. -/
theorem pow_len (N K : Nat) (A : Option Addr) (n c : Nat) (xs : List Nat) (k : Nat) (w : World) (hA : Lim w A n c xs) (hn : n ≤ N) (hk : k ≤ K) (hNK : N * K ≤ 1024) (hN : N ≤ 1000000) (hK : K ≤ 1000000) :
    Calls Tryd.prog 20 #[.slice A n c, .int .i64 (k : Int)] w (Tells2 w (val xs ^ k) (N * K + 1) (.int .i64 0)) := by
  have hb : blen (val xs ^ k) ≤ 64 * (N * K) + 1 := by
    by_cases h0 : k = 0
    · rw [h0, Nat.pow_zero]
      have : blen 1 = 1 := by decide
      omega
    · have h1 := blen_pow_le (val xs) k (by omega)
      have h2 : k * blen (val xs) ≤ K * (64 * N) := Nat.mul_le_mul hk (by have := hA.blen_le; omega)
      rw [Nat.mul_comm K, Nat.mul_assoc] at h2
      omega
  have hb2 : blen (val xs ^ k) ≤ 65536 := by
    by_cases h0 : k = 0
    · rw [h0, Nat.pow_zero]
      have : blen 1 = 1 := by decide
      omega
    · have h1 := blen_pow_le (val xs) k (by omega)
      have h2 : k * blen (val xs) ≤ K * (64 * N) := Nat.mul_le_mul hk (by have := hA.blen_le; omega)
      rw [Nat.mul_comm K, Nat.mul_assoc] at h2
      omega
  refine (pow_ok A n c xs k w hA (by omega) (by omega) hb2).mono ?_
  rintro e w' ⟨A1, m1, c1, zs, h1, h2, h3, h4, h5, h6⟩
  refine ⟨A1, m1, c1, zs, h1, ?_, h3, h4, h5, h6⟩
  have := len_of_blen h3.words h4 (show blen (val zs) ≤ 64 * (N * K) + 1 by rw [h5]; exact hb) (L := N * K + 1) (by omega)
  rw [h3.len] at this
  exact this


end Go.Proofs.YtkgbgmhkbigjhaaDoor
