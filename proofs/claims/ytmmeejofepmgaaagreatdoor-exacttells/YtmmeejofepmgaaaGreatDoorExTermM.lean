/- What the law ExactTerms rests on: numbers alone; the contracts of exact.Of and exact.Low. -/
import Derived.Test.YtmmeejofepmgaaaGreatDoorExTells
import Derived.Test.YtmmeejofepmgaaaGreatDoorK5
namespace Go.Proofs.YtmmeejofepmgaaaGreatDoor
open Go.RowKit

/-- A dyad as an exponent: its number, what it is divided by (2 to the power s), and whether it can be told. -/
def ofS (d : Dy) : Nat × Nat × Bool :=
  if d.V = 0 then (0, 0, true) else if 0 ≤ d.e then (if (blen d.V : Int) + d.e ≤ 62 then (d.V * 2 ^ d.e.toNat, 0, true) else (0, 0, false)) else (if blen d.V ≤ 62 ∧ -62 ≤ d.e then (d.V, (-d.e).toNat, true) else (0, 0, false))
/-- What Of tells of what Bare tells. -/
def OfIs (o : Option Dy) (M K : Int) (b : Bool) : Prop :=
  match o with
  | none => M = 0 ∧ K = 0 ∧ b = false
  | some d => if (ofS d).2.2 = true then b = true ∧ M = (if d.neg then -((ofS d).1 : Int) else ((ofS d).1 : Int)) ∧ K = 2 ^ (ofS d).2.1 else M = 0 ∧ K = 0 ∧ b = false

/-- What Low tells. -/
def LowIs (M K LM LK r : Int) : Prop := (K < 1 ∧ LM = 0 ∧ LK = 0 ∧ r = 1) ∨ (1 ≤ K ∧ r = 0 ∧ ∃ q : Nat, 1 ≤ q ∧ M = LM * q ∧ K = LK * q ∧ 1 ≤ LK ∧ Nat.gcd LM.natAbs LK.natAbs = 1)
def LowMeets : Prop := ∀ (M K : Int) (w : World), -9223372036854775808 ≤ M → M ≤ 9223372036854775807 → -9223372036854775808 ≤ K → K ≤ 9223372036854775807 →
  Calls Tryz.prog 21 #[.agg #[.int .i64 M, .int .i64 K]] w fun e w' => ∃ LM LK r, e = .returned (.tuple #[.agg #[.int .i64 LM, .int .i64 LK], .int .i64 r]) ∧ Below w.heap.size w w' ∧ LowIs M K LM LK r

/-- What the law asks of it. -/
def mayB (f1 : Bool) (V : Nat) (E : Int) : Bool := f1 && (decide (-62 ≤ E) && (decide (V = 0) || (decide (rtop V E < 62) && decide (blen V ≤ 62))))
theorem may_is {g : Bool} {V : Nat} {E : Int} (ho : Odd ⟨g, V, E⟩) : mayB true V E = (ofS ⟨g, V, E⟩).2.2 := by
  unfold mayB ofS
  simp only [Bool.true_and]
  rcases ho with ⟨m, hm⟩ | ho
  · simp only at hm
    have hV : V ≠ 0 := by omega
    rw [if_neg hV, decide_eq_false hV, Bool.false_or]
    unfold rtop
    have hb : 1 ≤ blen V := by
      rcases Nat.eq_zero_or_pos (blen V) with h | h
      · exact absurd (blen_zero_iff.1 h) hV
      · exact h
    by_cases h0 : 0 ≤ E
    · rw [if_pos h0, decide_eq_true (show -62 ≤ E by omega), Bool.true_and]
      by_cases h1 : (blen V : Int) + E ≤ 62
      · rw [if_pos h1, decide_eq_true (show (blen V : Int) - 1 + E < 62 by omega), decide_eq_true (show blen V ≤ 62 by omega)]; rfl
      · rw [if_neg h1, decide_eq_false (show ¬ (blen V : Int) - 1 + E < 62 by omega)]; rfl
    · rw [if_neg h0]
      by_cases h1 : blen V ≤ 62 ∧ -62 ≤ E
      · rw [if_pos h1, decide_eq_true h1.2, decide_eq_true (show (blen V : Int) - 1 + E < 62 by omega), decide_eq_true h1.1]; rfl
      · rw [if_neg h1]
        by_cases h2 : -62 ≤ E
        · rw [decide_eq_true h2, decide_eq_false (show ¬ blen V ≤ 62 from fun h => h1 ⟨h, h2⟩)]; simp
        · rw [decide_eq_false h2]; rfl
  · injection ho with _ h2 h3
    subst h2
    subst h3
    rfl
/-- The number is worth what it was. -/
theorem of_worth {g : Bool} {V : Nat} {E : Int} (ho : Odd ⟨g, V, E⟩) (h : (ofS ⟨g, V, E⟩).2.2 = true) :
    (ofS ⟨g, V, E⟩).1 < 4611686018427387904 ∧ (ofS ⟨g, V, E⟩).2.1 ≤ 62 ∧ dw g (ofS ⟨g, V, E⟩).1 (-((ofS ⟨g, V, E⟩).2.1 : Int)) = dw g V E ∧ ((ofS ⟨g, V, E⟩).2.1 ≠ 0 → (ofS ⟨g, V, E⟩).1 % 2 = 1) ∧ ((ofS ⟨g, V, E⟩).1 = 0 → g = false ∧ V = 0) := by
  unfold ofS at h ⊢
  simp only at h ⊢
  rcases ho with ⟨m, hm⟩ | ho
  · simp only at hm
    have hV : V ≠ 0 := by omega
    rw [if_neg hV] at h ⊢
    by_cases h0 : 0 ≤ E
    · rw [if_pos h0] at h ⊢
      by_cases h1 : (blen V : Int) + E ≤ 62
      · rw [if_pos h1]
        refine ⟨?_, by show 0 ≤ 62; decide, ?_, fun h9 => absurd rfl h9, fun h9 => ?_⟩
        · have h2 := lt_blen V
          have h3 : V * 2 ^ E.toNat < 2 ^ (blen V + E.toNat) := by rw [Nat.pow_add]; exact Nat.mul_lt_mul_of_pos_right h2 (Nat.two_pow_pos _)
          have h4 : (2 : Nat) ^ (blen V + E.toNat) ≤ 2 ^ 62 := Nat.pow_le_pow_right (by decide) (by omega)
          show V * 2 ^ E.toNat < 2 ^ 62
          omega
        · show dw g (V * 2 ^ E.toNat) (-((0 : Nat) : Int)) = dw g V E
          refine (dw_shift g ?_).symm
          rw [held_id (by omega) (by omega), held_id (by decide) (by decide)]
          show E = 0 + (E.toNat : Int)
          omega
        · have := Nat.mul_pos (Nat.pos_of_ne_zero hV) (Nat.two_pow_pos E.toNat)
          simp only at h9
          omega
      · rw [if_neg h1] at h; exact absurd h (by decide)
    · rw [if_neg h0] at h ⊢
      by_cases h1 : blen V ≤ 62 ∧ -62 ≤ E
      · rw [if_pos h1]
        refine ⟨?_, by show (-E).toNat ≤ 62; omega, ?_, fun _ => by show V % 2 = 1; omega, fun h9 => absurd h9 hV⟩
        · have h2 := blen_le_iff.1 h1.1
          exact h2
        · show dw g V (-(((-E).toNat : Nat) : Int)) = dw g V E
          rw [show -(((-E).toNat : Nat) : Int) = E by omega]
      · rw [if_neg h1] at h; exact absurd h (by decide)
  · injection ho with h1 h2 h3
    subst h1
    subst h2
    subst h3
    exact ⟨by decide, by decide, rfl, fun h9 => absurd rfl h9, fun _ => ⟨rfl, rfl⟩⟩
/-- Nothing divides both. -/
theorem none_both {LM LK : Int} (h : Nat.gcd LM.natAbs LK.natAbs = 1) {t : Nat} (ht : 2 ≤ t) : ¬ ((t : Int) ∣ LM ∧ (t : Int) ∣ LK) := fun ⟨h1, h2⟩ => by
  have a1 : t ∣ LM.natAbs := Int.ofNat_dvd_left.1 h1
  have a2 : t ∣ LK.natAbs := Int.ofNat_dvd_left.1 h2
  have := Nat.dvd_gcd a1 a2
  rw [h] at this
  have := Nat.le_of_dvd (by decide) this
  omega
end Go.Proofs.YtmmeejofepmgaaaGreatDoor
