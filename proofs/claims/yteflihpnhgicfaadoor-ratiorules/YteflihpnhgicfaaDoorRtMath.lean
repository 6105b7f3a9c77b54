/- Powers held against each other, and one divided by a power: numbers alone. -/
import Derived.Test.YteflihpnhgicfaaDoorK3
namespace Go.Proofs.YteflihpnhgicfaaDoor

theorem cmpZ_pow {x y t : Nat} (ht : t ≠ 0) : cmpZ (x ^ t) (y ^ t) = cmpZ x y := by
  rcases Nat.lt_trichotomy x y with h | h | h
  · rw [cmpZ_lt h, cmpZ_lt (Nat.pow_lt_pow_left h ht)]
  · rw [cmpZ_eq h, cmpZ_eq (by rw [h])]
  · rw [cmpZ_gt h, cmpZ_gt (Nat.pow_lt_pow_left h ht)]
theorem cmpZ_flip (x y : Nat) : cmpZ y x = - cmpZ x y := by
  rcases Nat.lt_trichotomy x y with h | h | h
  · rw [cmpZ_gt h, cmpZ_lt h]; rfl
  · rw [cmpZ_eq h, cmpZ_eq h.symm]; rfl
  · rw [cmpZ_lt h, cmpZ_gt h]
/-- Against a greater one. -/
theorem cmpZ_anti2 {x y z : Nat} (h : y ≤ z) : cmpZ x z ≤ cmpZ x y := by
  rcases Nat.lt_trichotomy x z with h1 | h1 | h1
  · rw [cmpZ_lt h1]
    rcases Nat.lt_trichotomy x y with h2 | h2 | h2
    · rw [cmpZ_lt h2]; decide
    · rw [cmpZ_eq h2]; decide
    · rw [cmpZ_gt h2]; decide
  · rw [cmpZ_eq h1]
    rcases Nat.lt_trichotomy x y with h2 | h2 | h2
    · omega
    · rw [cmpZ_eq h2]; decide
    · rw [cmpZ_gt h2]; decide
  · rw [cmpZ_gt h1, cmpZ_gt (by omega)]; decide

/-- How V 2^e is to U 2^f. -/
def cq (V : Nat) (e : Int) (U : Nat) (f : Int) : Int := cmpZ (V * 2 ^ (e - f).toNat) (U * 2 ^ (f - e).toNat)
theorem cq_at {V U : Nat} {e f l : Int} (h1 : l ≤ e) (h2 : l ≤ f) : cq V e U f = cmpZ (V * 2 ^ (e - l).toNat) (U * 2 ^ (f - l).toNat) := by
  unfold cq
  rcases Int.le_total e f with h | h
  · rw [show (e - f).toNat = 0 by omega, show (f - l).toNat = (f - e).toNat + (e - l).toNat by omega, Nat.pow_zero, Nat.mul_one, Nat.pow_add, ← Nat.mul_assoc]
    exact (cmpZ_times (Nat.two_pow_pos _)).symm
  · rw [show (f - e).toNat = 0 by omega, show (e - l).toNat = (e - f).toNat + (f - l).toNat by omega, Nat.pow_zero, Nat.mul_one, Nat.pow_add, ← Nat.mul_assoc]
    exact (cmpZ_times (Nat.two_pow_pos _)).symm
theorem cq_flip (V U : Nat) (e f : Int) : cq U f V e = - cq V e U f := by unfold cq; exact cmpZ_flip _ _
theorem cq_bd (V U : Nat) (e f : Int) : -1 ≤ cq V e U f ∧ cq V e U f ≤ 1 := by
  unfold cq
  rcases Nat.lt_trichotomy (V * 2 ^ (e - f).toNat) (U * 2 ^ (f - e).toNat) with h | h | h
  · rw [cmpZ_lt h]; decide
  · rw [cmpZ_eq h]; decide
  · rw [cmpZ_gt h]; decide
theorem cq_self (V : Nat) (e : Int) : cq V e V e = 0 := by unfold cq; exact cmpZ_eq rfl
/-- Both to a power. -/
theorem cq_pow {V U t : Nat} {e f : Int} (ht : t ≠ 0) : cq (V ^ t) (e * t) (U ^ t) (f * t) = cq V e U f := by
  unfold cq
  have k : ∀ x y : Int, (x * t - y * t).toNat = (x - y).toNat * t := fun x y => by
    rw [← Int.sub_mul]
    rcases Int.le_total 0 (x - y) with h | h
    · obtain ⟨n, hn⟩ := Int.eq_ofNat_of_zero_le h
      rw [hn, ← Int.natCast_mul, Int.toNat_natCast, Int.toNat_natCast]
    · rw [Int.toNat_of_nonpos h, Nat.zero_mul]
      exact Int.toNat_of_nonpos (Int.mul_nonpos_of_nonpos_of_nonneg h (Int.natCast_nonneg t))
  rw [k, k, Nat.pow_mul, Nat.pow_mul, ← Nat.mul_pow, ← Nat.mul_pow]
  exact cmpZ_pow ht
/-- Both times one. -/
theorem cq_mul {V U W : Nat} {e f g : Int} (hW : 0 < W) : cq (V * W) (e + g) (U * W) (f + g) = cq V e U f := by
  unfold cq
  rw [show e + g - (f + g) = e - f by omega, show f + g - (e + g) = f - e by omega, Nat.mul_right_comm, Nat.mul_right_comm U]
  exact cmpZ_times hW
/-- Against a greater one. -/
theorem cq_anti {V U T : Nat} {e f g : Int} (h : cq U f T g ≤ 0) : cq V e T g ≤ cq V e U f := by
  obtain ⟨l, l1, l2, l3⟩ : ∃ l : Int, l ≤ e ∧ l ≤ f ∧ l ≤ g := ⟨min e (min f g), by omega, by omega, by omega⟩
  rw [cq_at l1 l3, cq_at l1 l2]
  rw [cq_at l2 l3] at h
  refine cmpZ_anti2 ?_
  rcases Nat.lt_or_ge (T * 2 ^ (g - l).toNat) (U * 2 ^ (f - l).toNat) with h9 | h9
  · rw [cmpZ_gt h9] at h
    exact absurd h (by decide)
  · exact h9
/-- Powers keep the order. -/
theorem cq_pow_le {U T t : Nat} {f g : Int} (h : cq U f T g ≤ 0) : cq (U ^ t) (f * t) (T ^ t) (g * t) ≤ 0 := by
  by_cases ht : t = 0
  · subst ht
    unfold cq
    simp [cmpZ_eq]
  · rw [cq_pow ht]; exact h
/-- By worths. -/
theorem cq_dw {V U : Nat} {e f : Int} (h1 : -1073741824 ≤ e) (h2 : e ≤ 1073741824) (h3 : -1073741824 ≤ f) (h4 : f ≤ 1073741824) : cmpI (dw false V e) (dw false U f) = cq V e U f := by
  have k1 := sh_eq h1 h2
  have k2 := sh_eq h3 h4
  rw [cq_at (l := -2147483648) (by omega) (by omega)]
  have e1 : (e - -2147483648).toNat = sh e := by omega
  have e2 : (f - -2147483648).toNat = sh f := by omega
  rw [e1, e2]
  show cmpI (sz V e : Int) (sz U f : Int) = cmpZ (sz V e) (sz U f)
  rcases Nat.lt_trichotomy (sz V e) (sz U f) with h | h | h
  · rw [cmpZ_lt h, cmpI_lt (by omega)]
  · rw [cmpZ_eq h, cmpI_eq (by omega)]
  · rw [cmpZ_gt h, cmpI_gt (by omega)]

/-- How V 2^e to the power m is to U 2^f to the power k; m below 0: one divided by it. -/
def ratC (V : Nat) (e m : Int) (U : Nat) (f : Int) (k : Nat) : Int :=
  if 0 ≤ m then cq (V ^ m.toNat) (e * m) (U ^ k) (f * k) else cq 1 0 (V ^ (-m).toNat * U ^ k) (e * -m + f * k)
theorem ratC_pos {V : Nat} {e : Int} {m U : Nat} {f : Int} {k : Nat} : ratC V e (m : Int) U f k = cq (V ^ m) (e * m) (U ^ k) (f * k) := by
  unfold ratC
  rw [if_pos (Int.natCast_nonneg m), Int.toNat_natCast]
theorem ratC_neg {V : Nat} {e : Int} {m U : Nat} {f : Int} {k : Nat} (hm : m ≠ 0) : ratC V e (-(m : Int)) U f k = cq 1 0 (V ^ m * U ^ k) (e * m + f * k) := by
  unfold ratC
  rw [if_neg (by omega), Int.neg_neg, Int.toNat_natCast]
/-- Both exponents times one number. -/
theorem ratC_times {V : Nat} {e m : Int} {U : Nat} {f : Int} {k t : Nat} (ht : t ≠ 0) : ratC V e (m * t) U f (k * t) = ratC V e m U f k := by
  rcases Int.le_total 0 m with h | h
  · obtain ⟨n, rfl⟩ := Int.eq_ofNat_of_zero_le h
    rw [← Int.natCast_mul, ratC_pos, ratC_pos, Nat.pow_mul, Nat.pow_mul, Int.natCast_mul, Int.natCast_mul, ← Int.mul_assoc, ← Int.mul_assoc]
    exact cq_pow ht
  · by_cases h0 : m = 0
    · subst h0
      rw [Int.zero_mul, show (0 : Int) = ((0 : Nat) : Int) from rfl, ratC_pos, ratC_pos, Nat.pow_mul, Int.natCast_mul, ← Int.mul_assoc]
      have := cq_pow (V := 1) (e := 0) (U := U ^ k) (f := f * k) ht
      rw [Nat.one_pow, Int.zero_mul] at this
      simpa using this
    · obtain ⟨n, hn⟩ : ∃ n : Nat, m = -(n : Int) := ⟨(-m).toNat, by omega⟩
      subst hn
      have n0 : n ≠ 0 := fun h9 => h0 (by rw [h9]; rfl)
      rw [Int.neg_mul, ← Int.natCast_mul, ratC_neg (Nat.mul_ne_zero n0 ht), ratC_neg n0, Nat.pow_mul, Nat.pow_mul, ← Nat.mul_pow, Int.natCast_mul, Int.natCast_mul, ← Int.mul_assoc, ← Int.mul_assoc, ← Int.add_mul]
      have := cq_pow (V := 1) (e := 0) (U := V ^ n * U ^ k) (f := e * n + f * k) ht
      rw [Nat.one_pow, Int.zero_mul] at this
      exact this
/-- Of a greater b the answer isn't greater. -/
theorem ratC_anti {V : Nat} {e m : Int} {U T : Nat} {f g : Int} {k : Nat} (hV : 0 < V) (h : cq U f T g ≤ 0) : ratC V e m T g k ≤ ratC V e m U f k := by
  have hk := cq_pow_le (t := k) h
  unfold ratC
  split
  · exact cq_anti hk
  · refine cq_anti ?_
    rw [Nat.mul_comm (V ^ _), Nat.mul_comm (V ^ _), Int.add_comm (e * -m), Int.add_comm (e * -m), cq_mul (Nat.pow_pos hV)]
    exact hk
/-- A power is held for itself. -/
theorem ratC_self (V : Nat) (e : Int) (k : Nat) : ratC V e (k : Int) (V ^ k) (e * k) 1 = 0 := by
  rw [ratC_pos, Nat.pow_one, show e * (k : Int) * ((1 : Nat) : Int) = e * k by simp]
  exact cq_self _ _
/-- Turned about. -/
theorem ratC_flip (V U : Nat) (e f : Int) (m k : Nat) : ratC U f (k : Int) V e m = - ratC V e (m : Int) U f k := by
  rw [ratC_pos, ratC_pos]
  exact cq_flip _ _ _ _
theorem ratC_both {V U : Nat} {e f : Int} {m k : Nat} (hm : m ≠ 0) (hk : k ≠ 0) : ratC V e (-(m : Int)) U f k = ratC U f (-(k : Int)) V e m := by
  rw [ratC_neg hm, ratC_neg hk, Nat.mul_comm, Int.add_comm]
/-- Against 1. -/
theorem ratC_one {V m : Nat} {e : Int} (hm : m ≠ 0) : ratC V e (m : Int) 1 0 1 = cq V e 1 0 := by
  rw [ratC_pos]
  have := cq_pow (V := V) (e := e) (U := 1) (f := 0) hm
  rw [Nat.one_pow, Int.zero_mul] at this
  simpa using this
theorem ratC_one_neg {V m : Nat} {e : Int} (hm : m ≠ 0) : ratC V e (-(m : Int)) 1 0 1 = - cq V e 1 0 := by
  rw [ratC_neg hm, Nat.one_pow, Nat.mul_one, Int.zero_mul, Int.add_zero]
  have := cq_pow (V := V) (e := e) (U := 1) (f := 0) hm
  rw [Nat.one_pow, Int.zero_mul] at this
  rw [← this]
  exact cq_flip _ _ _ _

/-- Powers of odd numbers are odd. -/
theorem odd_pow {V : Nat} (h : V % 2 = 1) (m : Nat) : V ^ m % 2 = 1 := by
  induction m with
  | zero => rfl
  | succ m ih => rw [Nat.pow_succ, Nat.mul_mod, ih, h]
theorem pow_bits (V m : Nat) : V ^ m ≤ 2 ^ (blen V * m) := by
  rw [Nat.pow_mul]
  exact Nat.pow_le_pow_left (Nat.le_of_lt (lt_blen V)) m
theorem low_odd {V : Nat} (h : V % 2 = 1) : low V = 0 := low_eq (m := V / 2) (by rw [Nat.pow_zero, Nat.one_mul]; omega)
/-- What a document's number is: odd, or 0. -/
theorem nO_is (g : Bool) (V : Nat) (e : Int) : (nO g V e).V = 0 ∨ (nO g V e).V % 2 = 1 := by
  by_cases h : V = 0
  · subst h; exact Or.inl rfl
  · refine Or.inr ?_
    rw [nO_pos _ _ h]
    obtain ⟨q, hq⟩ := low_spec (Nat.pos_of_ne_zero h)
    have h2 : V / 2 ^ low V = 2 * q + 1 := by
      have := Nat.mul_div_cancel_left (2 * q + 1) (Nat.two_pow_pos (low V))
      rw [← hq] at this
      exact this
    show V / 2 ^ low V % 2 = 1
    rw [h2]; omega
end Go.Proofs.YteflihpnhgicfaaDoor
