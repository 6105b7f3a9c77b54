/- How many terms are enough: numbers alone. -/
import Derived.Test.YtngldpmnbdgkiaaDoorSrMath
import Derived.Test.YtngldpmnbdgkiaaDoorSrAdd
namespace Go.Proofs.YtngldpmnbdgkiaaDoor

theorem eight_pow {y : Rat} (h0 : 0 ≤ y) (h1 : 9 * y ≤ 1) : ∀ c : Nat, ((8 ^ c : Nat) : Rat) * y ^ c ≤ 1 := by
  intro c
  induction c with
  | zero =>
    have e1 : ((8 ^ 0 : Nat) : Rat) = 1 := by exact_mod_cast rfl
    have e2 : y ^ 0 = 1 := Rat.pow_zero _
    rw [e1, e2]
    grind
  | succ c ih =>
    have e1 : ((8 ^ (c + 1) : Nat) : Rat) = ((8 ^ c : Nat) : Rat) * 8 := by rw [Nat.pow_succ]; exact_mod_cast rfl
    have e2 : y ^ (c + 1) = y ^ c * y := Rat.pow_succ _ _
    have p0 := rpow_nonneg h0 c
    have n0 := rnat_nonneg (8 ^ c)
    rw [e1, e2]
    generalize ((8 ^ c : Nat) : Rat) = P at *
    generalize y ^ c = Q at *
    have q0 : 0 ≤ P * Q := by
      have := rmul_le p0 n0
      grind
    have m1 := rmul_le h1 q0
    have m2 := rmul_le h0 q0
    grind
/-- atanh: a ninth each. -/
theorem at_tail {x : Rat} (h0 : 0 ≤ x) (h1 : 3 * x ≤ 1) (s : Nat) : ((2 ^ s : Nat) : Rat) * (x * x) ^ (s / 3 + 3) ≤ 1 := by
  obtain ⟨y0, y1⟩ := third h0 h1
  have h := eight_pow y0 y1 (s / 3 + 3)
  have p0 := rpow_nonneg y0 (s / 3 + 3)
  have hle : 2 ^ s ≤ 8 ^ (s / 3 + 3) := by
    rw [show (8 : Nat) = 2 ^ 3 from rfl, ← Nat.pow_mul]
    exact Nat.pow_le_pow_right (by decide) (by omega)
  have hle' : ((2 ^ s : Nat) : Rat) ≤ ((8 ^ (s / 3 + 3) : Nat) : Rat) := by exact_mod_cast hle
  generalize ((2 ^ s : Nat) : Rat) = P at *
  generalize ((8 ^ (s / 3 + 3) : Nat) : Rat) = Q at *
  generalize (x * x) ^ (s / 3 + 3) = R at *
  have := rmul_le hle' p0
  grind

def fac : Nat → Nat
  | 0 => 1
  | n + 1 => (n + 1) * fac n
theorem fac_pos : ∀ n, 0 < fac n
  | 0 => Nat.one_pos
  | n + 1 => Nat.mul_pos (Nat.succ_pos n) (fac_pos n)
theorem fac_tk {x : Rat} (h0 : 0 ≤ x) (h1 : x ≤ 1) : ∀ n : Nat, (fac n : Rat) * tk x n ≤ 1 := by
  intro n
  induction n with
  | zero =>
    have e1 : ((fac 0 : Nat) : Rat) = 1 := by exact_mod_cast rfl
    rw [e1, tk_zero]
    grind
  | succ n ih =>
    have e1 : ((fac (n + 1) : Nat) : Rat) = ((n + 1 : Nat) : Rat) * (fac n : Rat) := by rw [fac]; exact_mod_cast rfl
    have e2 := tk_succ x n
    have k0 := tk_nonneg h0 n
    have f0 := rnat_nonneg (fac n)
    rw [e1]
    generalize ((n + 1 : Nat) : Rat) = N at *
    generalize (fac n : Rat) = F at *
    generalize tk x (n + 1) = T1 at *
    generalize tk x n = T at *
    have q0 : 0 ≤ F * T := by
      have := rmul_le k0 f0
      grind
    have m := rmul_le h1 q0
    have e3 : N * F * T1 = F * (N * T1) := by grind
    rw [e3, e2]
    grind
/-- exp: the factorial. -/
theorem ex_tail {x : Rat} (h0 : 0 ≤ x) (h1 : x ≤ 1) {s n : Nat} (h : 2 ^ s ≤ fac n) : ((2 ^ s : Nat) : Rat) * tt x n 1 ≤ 1 := by
  have hle : ((2 ^ s : Nat) : Rat) ≤ (fac n : Rat) := by exact_mod_cast h
  have k0 : 0 ≤ tt x n 1 := tk_nonneg h0 n
  have hf : (fac n : Rat) * tt x n 1 ≤ 1 := fac_tk h0 h1 n
  generalize ((2 ^ s : Nat) : Rat) = P at *
  generalize (fac n : Rat) = F at *
  generalize tt x n 1 = T at *
  have := rmul_le hle k0
  grind
/-- One factor more. -/
theorem fac_bits {b n : Nat} (h : 2 ^ b ≤ fac n) : 2 ^ (b + (blen (n + 1) - 1)) ≤ fac (n + 1) := by
  have h1 : 2 ^ (blen (n + 1) - 1) ≤ n + 1 := Nat.le_of_not_lt fun h9 => by
    have := blen_le_iff.2 h9
    have := blen_pos (show n + 1 ≠ 0 by omega)
    omega
  rw [Nat.pow_add, fac, Nat.mul_comm]
  exact Nat.mul_le_mul h1 h
end Go.Proofs.YtngldpmnbdgkiaaDoor
