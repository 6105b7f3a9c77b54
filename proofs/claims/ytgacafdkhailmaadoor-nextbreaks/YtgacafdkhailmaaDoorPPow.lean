/- The walks of prod.squares and prod.Pow: any power of any number. -/
import Derived.Test.YtgacafdkhailmaaDoorPMul
import Derived.Test.YtgacafdkhailmaaDoorWRCmp
namespace Go.Proofs.YtgacafdkhailmaaDoor
open Go.RowKit

theorem half_bit (k p : Nat) : k / 2 ^ p = 2 * (k / 2 ^ (p + 1)) + k / 2 ^ p % 2 := by
  rw [Nat.pow_succ, ← Nat.div_div_eq_div_mul]
  omega
theorem top_one {k : Nat} (hk : 1 ≤ k) : k / 2 ^ (blen k - 1) = 1 := by
  have h1 := blen_le (show k ≠ 0 by omega)
  have h2 := lt_blen k
  have h3 := blen_pos (show k ≠ 0 by omega)
  have h4 : 2 ^ blen k = 2 * 2 ^ (blen k - 1) := by
    rw [Nat.mul_comm, ← Nat.pow_succ]
    congr 1
    omega
  rw [h4] at h2
  apply Nat.div_eq_of_lt_le
  · omega
  · omega
theorem pow_le_of {X j k : Nat} (hX : 1 ≤ X) (h : j ≤ k) : X ^ j ≤ X ^ k := Nat.pow_le_pow_right hX h

theorem bits_and_i64_nat (a b : Nat) (ha : a < 9223372036854775808) (hb : b < 9223372036854775808) : bits .and .i64 (a : Int) (b : Int) = ((a &&& b : Nat) : Int) := by
  have hx : a &&& b < 2 ^ 63 := Nat.and_lt_two_pow _ (by omega)
  have h1 : (BitVec.ofInt 64 (a : Int)).toNat = a := by
    rw [BitVec.ofInt_natCast, BitVec.toNat_ofNat]; exact Nat.mod_eq_of_lt (by omega)
  have h2 : (BitVec.ofInt 64 (b : Int)).toNat = b := by
    rw [BitVec.ofInt_natCast, BitVec.toNat_ofNat]; exact Nat.mod_eq_of_lt (by omega)
  show IntKind.i64.wrap ((BitVec.ofInt 64 (a : Int) &&& BitVec.ofInt 64 (b : Int)).toNat : Int) = _
  rw [BitVec.toNat_and, h1, h2, IntKind.wrap_i64]
  omega
theorem and_one_i64 (k p : Nat) (hk : k < 9223372036854775808) : bits BinOp.and IntKind.i64 ((k : Int) / 2 ^ p) 1 = ((k / 2 ^ p % 2 : Nat) : Int) := by
  have h1 : k / 2 ^ p ≤ k := Nat.div_le_self _ _
  have h := bits_and_i64_nat (k / 2 ^ p) 1 (by omega) (by decide)
  rw [Nat.and_one_is_mod] at h
  rw [← h]
  congr 1

/-- What squares and Pow tell: the power, or that it is too long. -/
def PowTells (w : World) (V : Nat) (e : Ending) (w' : World) : Prop :=
  (blen V ≤ 65536 ∧ Tells2 w V 1024 (.int .i64 0) e w') ∨ (65536 < blen V ∧ e = .returned (.tuple #[.slice none 0 0, .int .i64 2]) ∧ Below w.heap.size w w')






end Go.Proofs.YtgacafdkhailmaaDoor
