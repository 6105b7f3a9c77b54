/- The walks of math/bits.Mul64 and of prod.bare. -/
import Derived.Test.YtffkddnjgbgfpaaDoorWSmall
import Derived.Test.YtffkddnjgbgfpaaDoorPMath
import Derived.Lib.Mul64
namespace Go.Proofs.YtffkddnjgbgfpaaDoor
open Go.RowKit

theorem maskN (a : Nat) (ha : a < 18446744073709551616) : bits .and .u64 (a : Int) 4294967295 = ((a % 4294967296 : Nat) : Int) := by
  have h := bits_and_u64_nat a 4294967295 ha (by omega)
  have e : a &&& 4294967295 = a % 4294967296 := Nat.and_two_pow_sub_one_eq_mod a 32
  rw [e] at h
  exact h
theorem divN (a : Nat) : (a : Int) / 4294967296 = ((a / 4294967296 : Nat) : Int) := by omega
theorem mulN (a b : Nat) : (a : Int) * (b : Int) = ((a * b : Nat) : Int) := (Int.natCast_mul a b).symm
theorem addN (a b : Nat) : (a : Int) + (b : Int) = ((a + b : Nat) : Int) := (Int.natCast_add a b).symm
theorem wrapN (a : Nat) (ha : a < 18446744073709551616) : IntKind.u64.wrap (a : Int) = (a : Int) := by rw [IntKind.wrap_u64]; omega
theorem wrapM (a : Nat) : IntKind.u64.wrap (a : Int) = ((a % 18446744073709551616 : Nat) : Int) := by rw [IntKind.wrap_u64]; omega

set_option maxHeartbeats 1000000 in
theorem mul64_walk (x y : Nat) (hx : x < 18446744073709551616) (hy : y < 18446744073709551616) (w : World) :
    Calls Tryd.prog 46 #[.int .u64 (x : Int), .int .u64 (y : Int)] w fun e w' => e = .returned (.tuple #[.int .u64 ((x * y / 18446744073709551616 : Nat) : Int), .int .u64 ((x * y % 18446744073709551616 : Nat) : Int)]) ∧ w = w' := by
  obtain ⟨bd, bt, bw, hhi⟩ := Lib.mul64_hi x y hx hy
  have ba := Lib.half_mul_le (a := x / 4294967296) (b := y / 4294967296) (by omega) (by omega)
  have bb := Lib.half_mul_le (a := x / 4294967296) (b := y % 4294967296) (by omega) (by omega)
  have bc := Lib.half_mul_le (a := x % 4294967296) (b := y / 4294967296) (by omega) (by omega)
  have ba' : x / 4294967296 * (y / 4294967296) < 18446744073709551616 := by omega
  have bb' : x / 4294967296 * (y % 4294967296) < 18446744073709551616 := by omega
  have bc' : x % 4294967296 * (y / 4294967296) < 18446744073709551616 := by omega
  have bh1 : x / 4294967296 * (y / 4294967296) + (x / 4294967296 * (y % 4294967296) + x % 4294967296 * (y % 4294967296) / 4294967296) / 4294967296 < 18446744073709551616 := by omega
  have bh : x / 4294967296 * (y / 4294967296) + (x / 4294967296 * (y % 4294967296) + x % 4294967296 * (y % 4294967296) / 4294967296) / 4294967296 + ((x / 4294967296 * (y % 4294967296) + x % 4294967296 * (y % 4294967296) / 4294967296) % 4294967296 + x % 4294967296 * (y / 4294967296)) / 4294967296 < 18446744073709551616 := by omega
  go_enter Tryd.func46, Tryd.ntmps46
  go_wp2
  simp only [maskN x hx, maskN y hy, divN, mulN, addN, wrapN _ bd, wrapN _ bb', wrapN _ bt, maskN _ bt, wrapN _ bc', wrapN _ bw, wrapN _ ba', wrapN _ bh1, wrapN _ bh, wrapM (x * y)]
  rw [hhi]
  go_ret2
  exact ⟨rfl, rfl⟩

/-- x * y: the upper limb and the lower one, each a letter. -/
theorem mul64_any (x y h l : Nat) (hx : x < 18446744073709551616) (hy : y < 18446744073709551616) (hp : Hid (l + 18446744073709551616 * h = x * y)) (hl : l < 18446744073709551616) (w : World) :
    Calls Tryd.prog 46 #[.int .u64 (x : Int), .int .u64 (y : Int)] w fun e w' => e = .returned (.tuple #[.int .u64 (h : Int), .int .u64 (l : Int)]) ∧ w = w' := by
  have e1 : x * y / 18446744073709551616 = h := by have := hp.out; omega
  have e2 : x * y % 18446744073709551616 = l := by have := hp.out; omega
  have := mul64_walk x y hx hy w
  rw [e1, e2] at this
  exact this

set_option maxHeartbeats 1000000 in
/-- prod.bare: a's own memory, without leading noughts. -/
theorem pbare_any (l : Nat) (A : Option Addr) (n c : Nat) (xs : List Nat) (w : World) (hA : Lim w A n c xs) (hn : n ≤ 4398046511104) (hl : Hid (tl xs = l)) :
    Calls Tryd.prog 41 #[.slice A n c] w fun e w' => e = .returned (.slice A l c) ∧ w = w' := by
  have h1 := tl_of_blen hA.words
  have h2 := hA.tl_le
  have h3 := hA.le
  have hB := bits_any A n c xs w hA hn
  rw [hl.out] at h1 h2
  generalize blen (val xs) = b at h1 hB
  have HB := Lib.hid hB
  have e1 : ((b : Int) + 64 - 1) / 64 = (l : Int) := by omega
  have e2 : ((b : Int) + 63) / 64 = (l : Int) := by omega
  have hb : b ≤ 64 * 4398046511104 := by omega
  clear hB h1 hA
  go_enter Tryd.func41, Tryd.ntmps41
  go_wp2_with fail
  refine HB.out.mono ?_
  rintro e w' ⟨rfl, rfl⟩
  go_wp2
  go_ret
  exact ⟨rfl, rfl⟩
end Go.Proofs.YtffkddnjgbgfpaaDoor
