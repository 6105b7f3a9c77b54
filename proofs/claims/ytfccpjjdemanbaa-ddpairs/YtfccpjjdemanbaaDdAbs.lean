/- math.Abs; the words for a number that is laid into a new block. -/
import Derived.Test.YtfccpjjdemanbaaDdProdM
import Derived.Laws.BitsAllLaws
namespace Go.Proofs.Ytfccpjjdemanbaa
open Go.RowKit

theorem andNot_top (b : Nat) (hb : b < 18446744073709551616) : bits BinOp.andNot IntKind.u64 (b : Int) 9223372036854775808 = ((b % 9223372036854775808 : Nat) : Int) := by
  have h := u64_andNot_nat b 9223372036854775808 hb (by decide)
  rw [show (18446744073709551615 - 9223372036854775808 : Nat) = 2 ^ 63 - 1 by decide, Nat.and_two_pow_sub_one_eq_mod] at h
  exact h
theorem abs_w (b : Nat) (hb : b < 18446744073709551616) (w : World) : Calls Try.prog 23 #[.float .f64 b] w fun e w' => e = .returned (.float .f64 (b % 9223372036854775808)) ∧ w = w' := by
  have o1 := tobits_e b
  have o2 := frombits_e (b % 9223372036854775808)
  have e1 := andNot_top b hb
  generalize b % 9223372036854775808 = z at *
  go_enter Try.func23, Try.ntmps23
  go_wp2
  go_ret
  exact ⟨rfl, rfl⟩
/-- A size is a number without a sign. -/
theorem abs_facts {b : Nat} (h : Sf b) : Sf (b % 9223372036854775808) ∧ fvI (b % 9223372036854775808) = ((fvI b).natAbs : Int) := by
  have hs := sized_same (a := b % 9223372036854775808) (b := b) (by omega)
  have e1 : fex (b % 9223372036854775808) = fex b := by unfold fex; omega
  have e3 : fng (b % 9223372036854775808) = false := decide_eq_false (by omega)
  constructor
  · unfold Sf at *
    rw [hs.2.2.2.2, e1]
    exact h
  · rw [fvI_abs]
    unfold fvI
    rw [hs.1, hs.2.1, e3]
    rfl
end Go.Proofs.Ytfccpjjdemanbaa
