/- The walk of planimeterlaw02.alive; products and powers by their lengths. -/
import Derived.Test.YtimajgbkmblfmaaPPow
import Derived.Test.YtimajgbkmblfmaaLaws
namespace Go.Proofs.Ytimajgbkmblfmaa
open Go.RowKit

theorem blen_two_pow (k : Nat) : blen (2 ^ k) = k + 1 := by
  apply blen_eq
  · exact Nat.pow_le_pow_right (by decide) (by omega)
  · exact Nat.pow_lt_pow_right (by decide) (by omega)
  · omega
theorem long_two (k : Nat) (hk : 65536 ≤ k) : 65536 < blen (val [2] ^ k) := by
  rw [show val [2] = 2 from by decide, blen_two_pow]; omega
theorem Lim.blen_le {w : World} {A : Option Addr} {n c : Nat} {xs : List Nat} (h : Lim w A n c xs) : blen (val xs) ≤ 64 * n := by
  have := tl_of_blen h.words
  have := h.tl_le
  omega

/-- Mul where both are short. -/
theorem mul_len (A : Option Addr) (n c : Nat) (xs : List Nat) (B : Option Addr) (m d : Nat) (ys : List Nat) (w : World) (hA : Lim w A n c xs) (hB : Lim w B m d ys) (hn : n + m ≤ 1024) :
    Calls Try.prog 9 #[.slice A n c, .slice B m d] w (Tells2 w (val xs * val ys) (n + m) (.int .i64 0)) :=
  mul_any A n c xs B m d ys w hA hB (by omega) (by omega) (Or.inr (Or.inr (by have := hA.blen_le; have := hB.blen_le; omega)))

/-- Pow of a short number and a small exponent. -/
theorem pow_len (N K : Nat) (A : Option Addr) (n c : Nat) (xs : List Nat) (k : Nat) (w : World) (hA : Lim w A n c xs) (hn : n ≤ N) (hk : k ≤ K) (hNK : N * K ≤ 1024) (hN : N ≤ 1000000) (hK : K ≤ 1000000) :
    Calls Try.prog 17 #[.slice A n c, .int .i64 (k : Int)] w (Tells2 w (val xs ^ k) (N * K + 1) (.int .i64 0)) := by
  have hb : blen (val xs ^ k) ≤ 64 * (N * K) + 1 := by
    by_cases h0 : k = 0
    · rw [h0, Nat.pow_zero]
      have : blen 1 = 1 := by decide
      omega
    · have h1 := blen_pow_le (val xs) k (by omega)
      have h2 : k * blen (val xs) ≤ K * (64 * N) := Nat.mul_le_mul hk (by have := hA.blen_le; omega)
      rw [Nat.mul_comm K, Nat.mul_assoc] at h2
      omega
  have hb2 : blen (val xs ^ k) ≤ 65536 := by
    by_cases h0 : k = 0
    · rw [h0, Nat.pow_zero]
      have : blen 1 = 1 := by decide
      omega
    · have h1 := blen_pow_le (val xs) k (by omega)
      have h2 : k * blen (val xs) ≤ K * (64 * N) := Nat.mul_le_mul hk (by have := hA.blen_le; omega)
      rw [Nat.mul_comm K, Nat.mul_assoc] at h2
      omega
  refine (pow_ok A n c xs k w hA (by omega) (by omega) hb2).mono ?_
  rintro e w' ⟨A1, m1, c1, zs, h1, h2, h3, h4, h5, h6⟩
  refine ⟨A1, m1, c1, zs, h1, ?_, h3, h4, h5, h6⟩
  have := len_of_blen h3.words h4 (show blen (val zs) ≤ 64 * (N * K) + 1 by rw [h5]; exact hb) (L := N * K + 1) (by omega)
  rw [h3.len] at this
  exact this

set_option maxHeartbeats 2000000 in
theorem alive_any (w : World) : Calls Try.prog 7 #[] w fun e w' => e = .returned (.bool true) ∧ Below w.heap.size w w' := by
  go_enter Try.func7, Try.ntmps7
  go_wp2_with fail
  have hb0 : Below w.heap.size w (w.alloc (.cells #[.int .u64 3] 23)) := (Below.refl _ _).alloc (Nat.le_refl _) _
  have h1 := pow_len 1 4 _ 1 1 [3] 4 _ (lim_new1 w 23 3 3 rfl (by decide)) (by decide) (by decide) (by decide) (by decide) (by decide)
  rw [show val [3] ^ 4 = 81 from by decide, show ((4 : Nat) : Int) = 4 from rfl] at h1
  have H1 := Lib.hid h1
  clear h1
  refine H1.out.mono ?_
  rintro e w1 ⟨A, m, c, zs, rfl, hm, hl, hbare, hval, hb⟩
  obtain rfl : zs = [81] := bare_eq hl.words (Words.one (by decide)) hbare (bare_one (by decide)) (hval.trans (by decide))
  obtain rfl : m = 1 := hl.len.symm
  have hb1 := hb0.trans (hb.mono (by simp))
  have Hl := Lib.hid hl
  have Hb1 := Lib.hid hb1
  clear hm hbare hval hb hb0 hl hb1
  go_wp2_with fail
  refine (pow_neg _ 1 1 (-1) _ (by decide)).mono ?_
  rintro e w2 ⟨rfl, hw2⟩
  have hb2 : Below w1.heap.size w1 w2 := by rw [← hw2]; exact (Below.refl _ _).alloc (Nat.le_refl _) _
  have Hl2 := Lib.hid (Hl.out.below hb2)
  have Hb2 := Lib.hid (Hb1.out.trans (hb2.mono Hb1.out.size))
  clear hw2 hb2 Hl Hb1
  go_wp2_with fail
  have h3 := pow_long _ 1 1 [2] 65536 _ (lim_new1 w2 23 2 2 rfl (by decide)) (by decide) (by decide) (long_two 65536 (by decide))
  rw [show ((65536 : Nat) : Int) = 65536 from rfl] at h3
  have H3 := Lib.hid h3
  clear h3
  refine H3.out.mono ?_
  rintro e w3 ⟨rfl, hb⟩
  have hb3 : Below w2.heap.size w2 w3 := ((Below.refl _ _).alloc (Nat.le_refl _) _).trans (hb.mono (by simp))
  have Hl3 := Lib.hid (Hl2.out.below hb3)
  have Hb3 := Lib.hid (Hb2.out.trans (hb3.mono Hb2.out.size))
  clear hb hb3 Hl2 Hb2 H3
  go_wp2_with fail
  have H4 := Lib.hid (same_yes A 1 c [81] _ 1 _ (Hl3.out.alloc (.cells #[.int .u64 81] 23)) (lim_new1 w3 23 81 81 rfl (by decide)) (by decide))
  refine H4.out.mono ?_
  rintro e w4 ⟨rfl, q', hw4⟩
  have Hb4 : Hid (Below w.heap.size w w4) := by
    rw [hw4]
    exact below_drewN (Hb3.out.alloc Hb3.out.size _) q'
  clear hw4 Hl3 Hb3 H4
  go_wp2
  go_ret
  exact ⟨rfl, Hb4.out⟩
end Go.Proofs.Ytimajgbkmblfmaa
