/- What is in two intervals is in their products: whole numbers alone; a bare dyad is its worth. -/
import Derived.Test.YtafgooiakmmfkaaDoorK2
namespace Go.Proofs.YtafgooiakmmfkaaDoor

/-- Between, times a number. -/
theorem times_in {a b x y : Int} (h1 : a ≤ x) (h2 : x ≤ b) : min (a * y) (b * y) ≤ x * y ∧ x * y ≤ max (a * y) (b * y) := by
  rcases Int.lt_or_le y 0 with h | h
  · have k1 := Int.mul_le_mul_of_nonpos_right h1 (Int.le_of_lt h)
    have k2 := Int.mul_le_mul_of_nonpos_right h2 (Int.le_of_lt h)
    omega
  · have k1 := Int.mul_le_mul_of_nonneg_right h1 h
    have k2 := Int.mul_le_mul_of_nonneg_right h2 h
    omega
/-- The least and the greatest of four. -/
def lo4 (a b c d : Int) : Int := min (min (a * c) (a * d)) (min (b * c) (b * d))
def hi4 (a b c d : Int) : Int := max (max (a * c) (a * d)) (max (b * c) (b * d))
theorem four_has {a b c d x y : Int} (h1 : a ≤ x) (h2 : x ≤ b) (h3 : c ≤ y) (h4 : y ≤ d) : lo4 a b c d ≤ x * y ∧ x * y ≤ hi4 a b c d := by
  have k := times_in (y := y) h1 h2
  have p := times_in (y := a) h3 h4
  have q := times_in (y := b) h3 h4
  rw [Int.mul_comm c a, Int.mul_comm d a, Int.mul_comm y a] at p
  rw [Int.mul_comm c b, Int.mul_comm d b, Int.mul_comm y b] at q
  unfold lo4 hi4
  omega
theorem four_turn (a b c d : Int) : lo4 c d a b = lo4 a b c d ∧ hi4 c d a b = hi4 a b c d := by
  unfold lo4 hi4
  rw [Int.mul_comm c a, Int.mul_comm c b, Int.mul_comm d a, Int.mul_comm d b]
  omega
/-- Of an inner interval they are within. -/
theorem four_in {a b c d a' b' : Int} (h1 : a ≤ a') (h2 : a' ≤ b') (h3 : b' ≤ b) (h4 : c ≤ d) : lo4 a b c d ≤ lo4 a' b' c d ∧ hi4 a' b' c d ≤ hi4 a b c d := by
  have k1 := four_has (a := a) (b := b) (c := c) (d := d) (x := a') (y := c) h1 (by omega) (Int.le_refl _) h4
  have k2 := four_has (a := a) (b := b) (c := c) (d := d) (x := a') (y := d) h1 (by omega) h4 (Int.le_refl _)
  have k3 := four_has (a := a) (b := b) (c := c) (d := d) (x := b') (y := c) (by omega) h3 (Int.le_refl _) h4
  have k4 := four_has (a := a) (b := b) (c := c) (d := d) (x := b') (y := d) (by omega) h3 h4 (Int.le_refl _)
  have e1 : lo4 a' b' c d = min (min (a' * c) (a' * d)) (min (b' * c) (b' * d)) := rfl
  have e2 : hi4 a' b' c d = max (max (a' * c) (a' * d)) (max (b' * c) (b' * d)) := rfl
  rw [e1, e2]
  omega
theorem four_order {a b c d : Int} (h1 : a ≤ b) (h2 : c ≤ d) : lo4 a b c d ≤ hi4 a b c d := by
  have := four_has h1 (Int.le_refl b) (Int.le_refl c) h2
  omega
/-- A bare dyad is its worth. -/
theorem bare_same {a b : Dy} (ha : mk a.neg a.V a.e = some a) (hb : mk b.neg b.V b.e = some b) (h : dw a.neg a.V a.e = dw b.neg b.V b.e) : a = b := by
  have e : ∀ {g k : Bool} {V U : Nat} {e f : Int} {x y : Dy}, mk g V e = some x → mk k U f = some y → Fine x := fun h _ => (mk_fine h).1
  have fa := e ha hb
  have fb := e hb ha
  have oa : Odd a := by rw [← mk_is ha]; exact nO_odd a.neg a.V a.e
  have ob : Odd b := by rw [← mk_is hb]; exact nO_odd b.neg b.V b.e
  have absd : ∀ (g : Bool) (V : Nat) (e : Int), (dw g V e).natAbs = sz V e := fun g V e => by cases g <;> simp [dw]
  have es : sz a.V a.e = sz b.V b.e := by rw [← absd a.neg, ← absd b.neg, h]
  by_cases ha0 : a.V = 0
  · have hb0 : b.V = 0 := by
      refine Classical.byContradiction fun h0 => ?_
      have := sz_pos b.e h0
      rw [← es, ha0, sz_zero] at this
      omega
    have h1 := fa.2.2 ha0
    have h2 := fb.2.2 hb0
    obtain ⟨ga, Va, ea⟩ := a
    obtain ⟨gb, Vb, eb⟩ := b
    dsimp only at h1 h2 ha0 hb0
    rw [h1.1, h1.2, h2.1, h2.2, ha0, hb0]
  · have hb0 : b.V ≠ 0 := fun h0 => by
      have := sz_pos a.e ha0
      rw [es, h0, sz_zero] at this
      omega
    obtain ⟨m, hm⟩ := oa.resolve_right (fun h => ha0 (by rw [h]))
    obtain ⟨k, hk⟩ := ob.resolve_right (fun h => hb0 (by rw [h]))
    have sgn : a.neg = b.neg := by
      have pa := sz_pos a.e ha0
      have pb := sz_pos b.e hb0
      unfold dw at h
      revert h
      cases a.neg <;> cases b.neg <;> simp <;> omega
    have sa := sh_held a.e
    have sb := sh_held b.e
    rw [fa.held] at sa
    rw [fb.held] at sb
    unfold sz at es
    rw [hm, hk, Nat.mul_comm, Nat.mul_comm (2 * k + 1)] at es
    have e1 := pow_odd_unique es
    have e2 := pow_odd_unique es.symm
    have e3 : a.e = b.e := by omega
    have e4 : sh a.e = sh b.e := by rw [e3]
    rw [e4] at es
    have e5 : 2 * m + 1 = 2 * k + 1 := Nat.eq_of_mul_eq_mul_left (Nat.two_pow_pos _) es
    obtain ⟨ga, Va, ea⟩ := a
    obtain ⟨gb, Vb, eb⟩ := b
    dsimp only at hm hk e3 sgn
    rw [hm, hk, e5, e3, sgn]
end Go.Proofs.YtafgooiakmmfkaaDoor
