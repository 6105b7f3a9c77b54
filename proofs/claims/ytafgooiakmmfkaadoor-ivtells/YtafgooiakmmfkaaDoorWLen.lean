/- The walk of math/bits.Len64 (over the library's names for its tables, without the larger kit). -/
import Derived.Test.YtafgooiakmmfkaaDoorProg
import Derived.Test.YtafgooiakmmfkaaDoorLimbs
import Derived.Lib.Strings
import Derived.Lib.Slices
import Derived.Lib.Small
import Derived.Lib.Walk
import Derived.Lib.BitFns
import Derived.Lib.ItoaNum
namespace Go.Proofs.YtafgooiakmmfkaaDoor

theorem bitLen_blen (x : Nat) (hx : x < 18446744073709551616) : Lib.bitLen x = blen x := by
  by_cases h0 : x = 0
  · subst h0; rfl
  · obtain ⟨h1, h2, h3⟩ := Lib.bitLenAux_bounds 64 x hx h0
    exact (blen_eq h2 h3 h1).symm

theorem len_wrap (k b : Nat) (hk : k ≤ 56) (hb : b ≤ 8) (l : Int) (hl : l = b) :
    ((k : Int) + ((l + 9223372036854775808) % 18446744073709551616 - 9223372036854775808) + 9223372036854775808) % 18446744073709551616 - 9223372036854775808 = ((k + b : Nat) : Int) := by
  omega
theorem len_shift (x : Int) (k q : Nat) (hq : 2 ^ k = q) (hx : q ≤ x.toNat) (h1 : x.toNat < 18446744073709551616) : Lib.bitLen x.toNat = k + Lib.bitLen (x.toNat / q) := by
  have s := Lib.bitLen_shift k x.toNat (by rw [hq]; exact hx) h1
  rw [hq] at s
  exact s
/-- A byte's length out of the table, with k bits below it. -/
theorem len_step (x y : Int) (k q : Nat) (hq : 2 ^ k = q) (hk : k ≤ 56) (h0 : 0 ≤ y) (hy : y < 256) (hx : q ≤ x.toNat) (h1 : x.toNat < 18446744073709551616) (e : y.toNat = x.toNat / q) :
    ((k : Int) + ((Lib.len8 (y % 256) + 9223372036854775808) % 18446744073709551616 - 9223372036854775808) + 9223372036854775808) % 18446744073709551616 - 9223372036854775808 = (Lib.bitLen x.toNat : Int) := by
  have ey : y % 256 = y := by omega
  have l := Lib.bitLen_le8' y h0 (by omega)
  rw [len_shift x k q hq hx h1, ← e, ey, Lib.len8_of y h0 (by omega)]
  exact len_wrap k _ hk l _ rfl

set_option maxHeartbeats 4000000 in
set_option maxRecDepth 100000 in
theorem len_walk (x : Int) (w : World) (h0 : 0 ≤ x) (h1 : x ≤ 18446744073709551615) :
    Calls Tryd.prog 88 #[.int .u64 x] w fun e w' => e = .returned (.int .i64 (Lib.bitLen x.toNat)) ∧ w' = w := by
  go_enter Tryd.func88, Tryd.ntmps88
  go_wp2
  all_goals (go_ret; refine ⟨congrArg Ending.returned (congrArg (Value.int IntKind.i64) ?_), rfl⟩)
  · exact len_step x _ 56 72057594037927936 (by decide) (by decide) (by omega) (by omega) (by omega) (by omega) (by omega)
  · exact len_step x _ 48 281474976710656 (by decide) (by decide) (by omega) (by omega) (by omega) (by omega) (by omega)
  · exact len_step x _ 40 1099511627776 (by decide) (by decide) (by omega) (by omega) (by omega) (by omega) (by omega)
  · exact len_step x _ 32 4294967296 (by decide) (by decide) (by omega) (by omega) (by omega) (by omega) (by omega)
  · exact len_step x _ 24 16777216 (by decide) (by decide) (by omega) (by omega) (by omega) (by omega) (by omega)
  · exact len_step x _ 16 65536 (by decide) (by decide) (by omega) (by omega) (by omega) (by omega) (by omega)
  · exact len_step x _ 8 256 (by decide) (by decide) (by omega) (by omega) (by omega) (by omega) (by omega)
  · have ey : x % 256 = x := by omega
    have l := Lib.bitLen_le8' x h0 (by omega)
    rw [ey, Lib.len8_of x h0 (by omega)]
    omega

theorem len_any (x : Nat) (w : World) (hx : x < 18446744073709551616) :
    Calls Tryd.prog 88 #[.int .u64 (x : Int)] w fun e w' => e = .returned (.int .i64 (blen x : Int)) ∧ w = w' := by
  rw [← bitLen_blen x hx]
  exact (len_walk x w (by omega) (by omega)).mono fun _ _ ⟨he, hw⟩ => ⟨he, hw.symm⟩
end Go.Proofs.YtafgooiakmmfkaaDoor
