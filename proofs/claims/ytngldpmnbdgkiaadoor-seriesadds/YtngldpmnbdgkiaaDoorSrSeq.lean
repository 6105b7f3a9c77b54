/- The sums as the landed package reckons them, as sequences: powers of a fraction, each cut down or up. Between what they are, and how far apart: numbers alone. -/
import Derived.Test.YtngldpmnbdgkiaaDoorSrHold
import Derived.Test.YtngldpmnbdgkiaaDoorSrFwd
import Derived.Test.YtngldpmnbdgkiaaDoorK3
namespace Go.Proofs.YtngldpmnbdgkiaaDoor

/-- Divided, cut down or up. -/
def ov (g : Bool) (a b : Nat) : Nat := if g then upq a b else a / b
theorem ov_low (a b : Nat) : ov false a b * b ≤ a := Nat.div_mul_le_self a b
theorem ov_up {b : Nat} (hb : 0 < b) (a : Nat) : a ≤ ov true a b * b := by
  show a ≤ upq a b * b
  unfold upq
  have h := Nat.div_add_mod a b
  have h2 := Nat.mod_lt a hb
  split
  · rename_i h0
    rw [h0] at h
    rw [Nat.add_zero, Nat.mul_comm]
    omega
  · rw [Nat.add_mul, Nat.mul_comm (a / b)]
    omega
theorem ov_le (g : Bool) (a b : Nat) : ov g a b ≤ a / b + 1 := by
  cases g
  · exact Nat.le_succ _
  · show upq a b ≤ _
    unfold upq
    split <;> omega
theorem ov_ge (g : Bool) (a b : Nat) : a / b ≤ ov g a b := by
  cases g
  · exact Nat.le_refl _
  · exact Nat.le_add_right _ _
theorem ov_zero (g : Bool) (b : Nat) : ov g 0 b = 0 := by
  cases g
  · exact Nat.zero_div b
  · show upq 0 b = 0
    unfold upq
    rw [Nat.zero_div, Nat.zero_mod]
    rfl
/-- Cut up of what is at most so many times the divisor. -/
theorem ov_most {b : Nat} (hb : 0 < b) (g : Bool) {a q : Nat} (h : a ≤ q * b) : ov g a b ≤ q := by
  cases g
  · show a / b ≤ q
    exact Nat.div_le_of_le_mul (by rw [Nat.mul_comm]; exact h)
  · show upq a b ≤ q
    unfold upq
    have h1 := Nat.div_add_mod a b
    have h2 := Nat.mod_lt a hb
    split
    · have : a / b ≤ q := Nat.div_le_of_le_mul (by rw [Nat.mul_comm]; exact h)
      omega
    · rename_i h0
      have : a / b < q := by
        rw [Nat.div_lt_iff_lt_mul hb]
        rcases Nat.lt_or_ge a (q * b) with h3 | h3
        · exact h3
        · exfalso
          have h4 : a = q * b := Nat.le_antisymm h h3
          rw [h4, Nat.mul_mod_left] at h0
          exact h0 rfl
      omega
theorem add_div_le {a b d : Nat} (hd : 0 < d) (h : b ≤ d) : (a + b) / d ≤ a / d + 1 := by
  have h1 : (a + b) / d ≤ (a + d) / d := Nat.div_le_div_right (by omega)
  rw [Nat.add_div_right a hd] at h1
  exact h1

/-- A power after the other. -/
def pk (g : Bool) (U D p : Nat) : Nat → Nat
  | 0 => p
  | k + 1 => ov g (pk g U D p k * U) D
/-- .. divided by 1, 3, 5 .. -/
def tk1 (g : Bool) (U D p : Nat) (k : Nat) : Nat := ov g (pk g U D p k) (2 * k + 1)

theorem pk_lo {U D p : Nat} {y q : Rat} (hD : 0 < D) (hy : 0 ≤ y) (e : y * (D : Rat) = (U : Rat)) (h0 : (p : Rat) ≤ q) : ∀ k, (pk false U D p k : Rat) ≤ q * y ^ k := by
  intro k
  have d0 := rnat_pos hD
  induction k with
  | zero =>
    rw [Rat.pow_zero]
    show (p : Rat) ≤ _
    grind
  | succ k ih =>
    have h := ov_low (pk false U D p k * U) D
    have h' : ((pk false U D p (k + 1) : Nat) : Rat) * (D : Rat) ≤ (pk false U D p k : Rat) * (U : Rat) := by exact_mod_cast h
    have e2 : y ^ (k + 1) = y ^ k * y := Rat.pow_succ _ _
    rw [e2]
    generalize y ^ k = Q at *
    generalize (pk false U D p (k + 1) : Rat) = A at *
    generalize (pk false U D p k : Rat) = B at *
    have m := rmul_le ih hy
    have m2 := rmul_le m (Rat.le_of_lt d0)
    rw [← e] at h'
    refine rcancel (c := (D : Rat)) ?_ d0
    grind
theorem pk_hi {U D p : Nat} {y q : Rat} (hD : 0 < D) (hy : 0 ≤ y) (e : y * (D : Rat) = (U : Rat)) (h0 : q ≤ (p : Rat)) : ∀ k, q * y ^ k ≤ (pk true U D p k : Rat) := by
  intro k
  have d0 := rnat_pos hD
  induction k with
  | zero =>
    rw [Rat.pow_zero]
    show _ ≤ (p : Rat)
    grind
  | succ k ih =>
    have h := ov_up hD (pk true U D p k * U)
    have h' : (pk true U D p k : Rat) * (U : Rat) ≤ ((pk true U D p (k + 1) : Nat) : Rat) * (D : Rat) := by exact_mod_cast h
    have e2 : y ^ (k + 1) = y ^ k * y := Rat.pow_succ _ _
    rw [e2]
    generalize y ^ k = Q at *
    generalize (pk true U D p (k + 1) : Rat) = A at *
    generalize (pk true U D p k : Rat) = B at *
    have m := rmul_le ih hy
    have m2 := rmul_le m (Rat.le_of_lt d0)
    rw [← e] at h'
    refine rcancel (c := (D : Rat)) ?_ d0
    grind
theorem tk_lo {U D p : Nat} {x P : Rat} (hD : 0 < D) (hx : 0 ≤ x) (e : x * x * (D : Rat) = (U : Rat)) (h0 : (p : Rat) ≤ P * x) : ∀ c, (sn (tk1 false U D p) c : Rat) ≤ P * atS x c := by
  have y0 : 0 ≤ x * x := by have := rmul_le hx hx; grind
  have hk := pk_lo hD y0 e h0
  intro c
  induction c with
  | zero =>
    have e0 : ((sn (tk1 false U D p) 0 : Nat) : Rat) = 0 := by exact_mod_cast rfl
    rw [e0]
    unfold atS
    simp only [hh]
    grind
  | succ c ih =>
    rw [sn_cast, atS_succ]
    have h := ov_low (pk false U D p c) (2 * c + 1)
    have h' : ((tk1 false U D p c : Nat) : Rat) * ((2 * c + 1 : Nat) : Rat) ≤ (pk false U D p c : Rat) := by exact_mod_cast h
    have n0 := rnat_pos (show 0 < 2 * c + 1 by omega)
    have inv : ((2 * c + 1 : Nat) : Rat) * (1 / ((2 * c + 1 : Nat) : Rat)) = 1 := by
      rw [Rat.mul_comm]; exact Rat.div_mul_cancel (Rat.ne_of_gt n0)
    have hpk := hk c
    generalize ((2 * c + 1 : Nat) : Rat) = N at *
    generalize 1 / N = i at *
    generalize (pk false U D p c : Rat) = A at *
    generalize (tk1 false U D p c : Rat) = T at *
    generalize (x * x) ^ c = Q at *
    have key : T ≤ P * (x * Q * i) := by
      refine rcancel (c := N) ?_ n0
      have e2 : N * (P * (x * Q * i)) = P * x * Q * (N * i) := by grind
      rw [e2, inv]
      grind
    grind
theorem tk_hi {U D p : Nat} {x P : Rat} (hD : 0 < D) (hx : 0 ≤ x) (e : x * x * (D : Rat) = (U : Rat)) (h0 : P * x ≤ (p : Rat)) : ∀ c, P * atS x c ≤ (sn (tk1 true U D p) c : Rat) := by
  have y0 : 0 ≤ x * x := by have := rmul_le hx hx; grind
  have hk := pk_hi hD y0 e h0
  intro c
  induction c with
  | zero =>
    have e0 : ((sn (tk1 true U D p) 0 : Nat) : Rat) = 0 := by exact_mod_cast rfl
    rw [e0]
    unfold atS
    simp only [hh]
    grind
  | succ c ih =>
    rw [sn_cast, atS_succ]
    have h := ov_up (show 0 < 2 * c + 1 by omega) (pk true U D p c)
    have h' : (pk true U D p c : Rat) ≤ ((tk1 true U D p c : Nat) : Rat) * ((2 * c + 1 : Nat) : Rat) := by exact_mod_cast h
    have n0 := rnat_pos (show 0 < 2 * c + 1 by omega)
    have inv : ((2 * c + 1 : Nat) : Rat) * (1 / ((2 * c + 1 : Nat) : Rat)) = 1 := by
      rw [Rat.mul_comm]; exact Rat.div_mul_cancel (Rat.ne_of_gt n0)
    have hpk := hk c
    generalize ((2 * c + 1 : Nat) : Rat) = N at *
    generalize 1 / N = i at *
    generalize (pk true U D p c : Rat) = A at *
    generalize (tk1 true U D p c : Rat) = T at *
    generalize (x * x) ^ c = Q at *
    have key : P * (x * Q * i) ≤ T := by
      refine rcancel (c := N) ?_ n0
      have e2 : N * (P * (x * Q * i)) = P * x * Q * (N * i) := by grind
      rw [e2, inv]
      grind
    grind
/-- .. and twice the last power for what is left out. -/
theorem tk_all {U D p c : Nat} {x P : Rat} (hD : 0 < D) (hx : 0 ≤ x) (h3 : 3 * x ≤ 1) (hP : 0 ≤ P) (e : x * x * (D : Rat) = (U : Rat)) (h0 : P * x ≤ (p : Rat)) : ∀ M, P * atS x M ≤ ((sn (tk1 true U D p) c + (pk true U D p c + pk true U D p c) : Nat) : Rat) := by
  intro M
  have y0 : 0 ≤ x * x := by have := rmul_le hx hx; grind
  have s := tk_hi hD hx e h0 c
  have hk := pk_hi hD y0 e h0 c
  have e1 : ((sn (tk1 true U D p) c + (pk true U D p c + pk true U D p c) : Nat) : Rat) = (sn (tk1 true U D p) c : Rat) + ((pk true U D p c : Rat) + (pk true U D p c : Rat)) := by exact_mod_cast rfl
  rw [e1]
  have r0 := rnat_nonneg (pk true U D p c)
  rcases Nat.le_total M c with h | h
  · obtain ⟨k, rfl⟩ : ∃ k, c = M + k := ⟨c - M, by omega⟩
    have m := rmul_le (atS_mono hx h3 M k) hP
    grind
  · obtain ⟨d, rfl⟩ : ∃ d, M = c + d := ⟨M - c, by omega⟩
    have t1 := at_rest hx h3 c d
    have q0 := rpow_nonneg y0 c
    have n1 : (1 : Rat) ≤ ((2 * c + 1 : Nat) : Rat) := by exact_mod_cast (show 1 ≤ 2 * c + 1 by omega)
    generalize ((2 * c + 1 : Nat) : Rat) = N at *
    generalize atS x (c + d) = A at *
    generalize atS x c = B at *
    generalize (x * x) ^ c = Q at *
    have z0 : 0 ≤ x * Q := by have := rmul_le q0 hx; grind
    have key : 8 * A ≤ 8 * B + 9 * (x * Q) := by
      refine rcancel (c := N) ?_ (by grind)
      have m := rmul_le n1 z0
      grind
    have t2 := rmul_le key hP
    have hk2 : P * (x * Q) ≤ (pk true U D p c : Rat) := by grind
    grind

/-- Each is at most a ninth of the one ahead, and one more. -/
theorem pk_step (g : Bool) {U D p : Nat} (hD : 0 < D) (h9 : 9 * U ≤ D) (k : Nat) : pk g U D p (k + 1) ≤ pk g U D p k / 9 + 1 := by
  refine Nat.le_trans (ov_le g _ _) (Nat.succ_le_succ ?_)
  refine (Nat.le_div_iff_mul_le (by decide)).2 ?_
  have h1 := Nat.div_mul_le_self (pk g U D p k * U) D
  have h2 : pk g U D p k * U * 9 ≤ pk g U D p k * D := by
    rw [Nat.mul_assoc]
    exact Nat.mul_le_mul_left _ (by omega)
  generalize pk g U D p k = A at *
  generalize A * U / D = B at *
  refine Nat.le_of_mul_le_mul_right (c := D) ?_ hD
  calc B * 9 * D = B * D * 9 := by rw [Nat.mul_assoc, Nat.mul_comm 9 D, ← Nat.mul_assoc]
    _ ≤ A * U * 9 := Nat.mul_le_mul_right _ h1
    _ ≤ A * D := h2
theorem pk_zero (g : Bool) (U D : Nat) : ∀ k, pk g U D 0 k = 0
  | 0 => rfl
  | k + 1 => by
    show ov g (pk g U D 0 k * U) D = 0
    rw [pk_zero g U D k, Nat.zero_mul, ov_zero]
/-- So there are few. -/
theorem less_bits {v q w k : Nat} (h : v ≤ q / 9 + 1) (hq : 1 < q) (hc : k + blen (q - 1) ≤ w) : k + 1 + blen (v - 1) ≤ w := by
  have h1 : v - 1 ≤ (q - 1) / 2 := by omega
  have h2 := blen_mono h1
  have h3 := blen_half (x := q - 1) (by omega)
  omega
theorem ov_mono (g : Bool) {a b d : Nat} (hd : 0 < d) (h : a ≤ b) : ov g a d ≤ ov true b d := by
  refine ov_most hd g ?_
  exact Nat.le_trans h (ov_up hd b)
theorem pk_ord {U D p q : Nat} (hD : 0 < D) (h : p ≤ q) : ∀ k, pk false U D p k ≤ pk true U D q k
  | 0 => h
  | k + 1 => ov_mono false hD (Nat.mul_le_mul_right _ (pk_ord hD h k))
theorem pk_gap {U D p q : Nat} (hD : 0 < D) (h9 : 9 * U ≤ D) (h : q ≤ p + 2) : ∀ k, pk true U D q k ≤ pk false U D p k + 2
  | 0 => h
  | k + 1 => by
    have ih := pk_gap hD h9 h k
    refine Nat.le_trans (ov_le true _ _) ?_
    have h1 : pk true U D q k * U ≤ pk false U D p k * U + 2 * U := by
      rw [← Nat.add_mul]; exact Nat.mul_le_mul_right _ ih
    have h2 := Nat.le_trans (Nat.div_le_div_right (c := D) h1) (add_div_le hD (show 2 * U ≤ D by omega))
    show _ ≤ pk false U D p k * U / D + 2
    omega
theorem tk_gap {p q : Nat} (h : q ≤ p + 2) (k : Nat) : ov true q (2 * k + 1) ≤ ov false p (2 * k + 1) + 3 := by
  refine Nat.le_trans (ov_le true _ _) ?_
  show _ ≤ p / (2 * k + 1) + 3
  rcases Nat.eq_zero_or_pos k with h0 | h0
  · subst h0
    rw [show 2 * 0 + 1 = 1 from rfl, Nat.div_one, Nat.div_one]
    omega
  · have h1 := Nat.le_trans (Nat.div_le_div_right (c := 2 * k + 1) h) (add_div_le (show 0 < 2 * k + 1 by omega) (show 2 ≤ 2 * k + 1 by omega))
    omega
/-- Both sums, each ahead of its first power that is at most 1. -/
theorem sn_gap {U D p q c d : Nat} (hD : 0 < D) (h9 : 9 * U ≤ D) (hpq : p ≤ q) (hqp : q ≤ p + 2) (hc : pk false U D p c ≤ 1) (hc2 : ∀ j, j < c → 1 < pk false U D p j) (hd : pk true U D q d ≤ 1) :
    c ≤ d ∧ sn (tk1 true U D q) d ≤ sn (tk1 false U D p) c + 3 * d := by
  have hcd : c ≤ d := Nat.le_of_not_lt fun h => by
    have h1 := hc2 d h
    have h2 := pk_ord (U := U) hD hpq d
    omega
  have low : ∀ j, pk false U D p (c + j) ≤ 1 := by
    intro j
    induction j with
    | zero => exact hc
    | succ j ih =>
      have h1 : pk false U D p (c + j + 1) * D ≤ pk false U D p (c + j) * U := ov_low _ _
      have h2 : pk false U D p (c + j) * U ≤ 1 * D := Nat.mul_le_mul ih (by omega)
      exact Nat.le_of_mul_le_mul_right (Nat.le_trans h1 h2) hD
  have first : ∀ j, sn (tk1 true U D q) j ≤ sn (tk1 false U D p) j + 3 * j := by
    intro j
    induction j with
    | zero => exact Nat.le_refl _
    | succ j ih =>
      have := tk_gap (pk_gap (U := U) hD h9 hqp j) j
      show sn (tk1 true U D q) j + tk1 true U D q j ≤ sn (tk1 false U D p) j + tk1 false U D p j + 3 * (j + 1)
      unfold tk1 at *
      omega
  have rest : ∀ j, sn (tk1 true U D q) (c + j) ≤ sn (tk1 false U D p) c + 3 * (c + j) := by
    intro j
    induction j with
    | zero => exact first c
    | succ j ih =>
      have h1 := pk_gap (U := U) hD h9 hqp (c + j)
      have h2 := low j
      have h3 : tk1 true U D q (c + j) ≤ 3 := ov_most (by omega) true (by
        have : 3 * 1 ≤ 3 * (2 * (c + j) + 1) := Nat.mul_le_mul_left _ (by omega)
        omega)
      show sn (tk1 true U D q) (c + j) + tk1 true U D q (c + j) ≤ _
      omega
  refine ⟨hcd, ?_⟩
  have := rest (d - c)
  rw [show c + (d - c) = d by omega] at this
  exact this
end Go.Proofs.YtngldpmnbdgkiaaDoor
