/- The walk of nat.Sub: the difference of any two numbers. -/
import Derived.Test.YtgkjlfhflndddaaDoorWAdd
namespace Go.Proofs.YtgkjlfhflndddaaDoor
open Go.RowKit

theorem sub_step {x y bn s t k X Y Z : Nat} (hs : s + y + bn = x + 18446744073709551616 * t) (h : Z + Y = X + pw k * bn) : Z + pw k * s + (Y + pw k * y) = X + pw k * x + pw (k + 1) * t := by
  have e : pw (k + 1) * t = pw k * (18446744073709551616 * t) := by rw [pw_succ, Nat.mul_assoc, ← Nat.mul_assoc, ← Nat.mul_assoc, Nat.mul_comm (pw k)]
  have e2 : pw k * (s + y + bn) = pw k * (x + 18446744073709551616 * t) := by rw [hs]
  rw [Nat.mul_add, Nat.mul_add, Nat.mul_add] at e2
  omega

theorem cmpZ_nonneg {x y : Nat} (h : y ≤ x) : 0 ≤ cmpZ x y := by
  rcases Nat.lt_or_ge y x with h' | h'
  · rw [cmpZ_gt h']; decide
  · rw [cmpZ_eq (by omega)]; decide

theorem sub_end {X Y Z bn k : Nat} (h : Z + Y = X + pw k * bn) (hb : bn ≤ 1) (hz : Z < pw k) (hle : Y ≤ X) : Z = X - Y := by
  have : bn = 0 ∨ bn = 1 := by omega
  rcases this with rfl | rfl
  · simp at h; omega
  · simp at h; omega



end Go.Proofs.YtgkjlfhflndddaaDoor
