/- Signs turned, and float64 that are the same. -/
import Derived.Test.YtfccpjjdemanbaaDdMath
namespace Go.Proofs.Ytfccpjjdemanbaa

/-- The other sign. -/
def flq (b : Nat) : Nat := if fng b then b - 9223372036854775808 else b + 9223372036854775808
theorem flq_facts {b : Nat} (hb : b < 18446744073709551616) : flq b < 18446744073709551616 ∧ flq b % 9223372036854775808 = b % 9223372036854775808 ∧ fng (flq b) = !fng b ∧ flq (flq b) = b := by
  by_cases h : 9223372036854775808 ≤ b
  · have e1 : fng b = true := decide_eq_true h
    have e2 : flq b = b - 9223372036854775808 := by rw [flq, e1, if_pos rfl]
    have e3 : fng (flq b) = false := decide_eq_false (by omega)
    exact ⟨by omega, by omega, by rw [e3, e1]; rfl, by rw [flq, e3, if_neg (by decide)]; omega⟩
  · have e1 : fng b = false := decide_eq_false h
    have e2 : flq b = b + 9223372036854775808 := by rw [flq, e1, if_neg (by decide)]
    have e3 : fng (flq b) = true := decide_eq_true (by omega)
    exact ⟨by omega, by omega, by rw [e3, e1]; rfl, by rw [flq, e3, if_pos rfl]; omega⟩
theorem sized_same {a b : Nat} (h : a % 9223372036854775808 = b % 9223372036854775808) : fm a = fm b ∧ fE a = fE b ∧ fe a = fe b ∧ (Fnt a ↔ Fnt b) ∧ fkd a = fkd b := by
  have e1 : fex a = fex b := by unfold fex; omega
  have e2 : ffr a = ffr b := by unfold ffr; omega
  unfold fe fE fm Fnt fkd
  rw [e1, e2]
  exact ⟨rfl, rfl, rfl, Iff.rfl, rfl⟩
theorem xor_top (b : Nat) (h : b < 9223372036854775808) : b ^^^ 9223372036854775808 = b + 9223372036854775808 := by
  have h1 : b ^^^ 9223372036854775808 = b ||| 9223372036854775808 := by
    apply Nat.eq_of_testBit_eq
    intro i
    rw [Nat.testBit_xor, Nat.testBit_or]
    by_cases hi : i = 63
    · subst hi
      rw [Nat.testBit_lt_two_pow (show b < 2 ^ 63 from h)]
      rfl
    · have : (9223372036854775808 : Nat).testBit i = false := by
        rw [show (9223372036854775808 : Nat) = 2 ^ 63 from by decide, Nat.testBit_two_pow]
        exact decide_eq_false (fun h => hi h.symm)
      rw [this]; simp
  rw [h1]
  have := Nat.shiftLeft_add_eq_or_of_lt (i := 63) (b := b) (show b < 2 ^ 63 from h) 1
  rw [Nat.or_comm, Nat.add_comm]
  exact this.symm
theorem neg_bits {b : Nat} (hb : b < 18446744073709551616) : Op.negFloat .f64 b = flq b := by
  show b ^^^ 2 ^ 63 = flq b
  rw [show (2 : Nat) ^ 63 = 9223372036854775808 by decide]
  unfold flq
  by_cases h : 9223372036854775808 ≤ b
  · have e1 : fng b = true := decide_eq_true h
    rw [e1, if_pos rfl]
    have h3 := xor_top (b - 9223372036854775808) (by omega)
    have h4 : b - 9223372036854775808 + 9223372036854775808 = b := by omega
    rw [h4] at h3
    have h5 := congrArg (fun x => x ^^^ 9223372036854775808) h3
    simp only [Nat.xor_assoc, Nat.xor_self, Nat.xor_zero] at h5
    exact h5.symm
  · have e1 : fng b = false := decide_eq_false h
    rw [e1, if_neg (by decide)]
    exact xor_top b (by omega)
theorem nb_neg {k b : Nat} (h : Nb k b) : Nb k (flq b) ∧ fvI (flq b) = - fvI b := by
  obtain ⟨h1, h2, h3, _⟩ := flq_facts h.1
  obtain ⟨e1, e2, _, e4, _⟩ := sized_same h2
  have hv : fvI (flq b) = - fvI b := by
    unfold fvI
    rw [h3, e1, e2]
    cases fng b <;> simp
  exact ⟨⟨h1, e4.2 h.2.1, by rw [hv, Int.natAbs_neg]; exact h.2.2⟩, hv⟩

/-- Two of one worth are the same. -/
theorem ord_eq {x y : Nat} (hx : x < 18446744073709551616) (hy : y < 18446744073709551616) (fx : Fnt x) (fy : Fnt y) (h : fvI x = fvI y) : (FloatKind.f64.format.order x y == some .eq) = true := by
  have h9 : FloatKind.f64.format.order x y = some .eq := by
    show (Ieee.double.read x).order (Ieee.double.read y) = _
    rw [read_fin hx fx, read_fin hy fy]
    obtain ⟨b, hb⟩ : ∃ b : Nat, min (fe x) (fe y) + 1074 = (b : Int) := ⟨(min (fe x) (fe y) + 1074).toNat, by unfold fe; omega⟩
    obtain ⟨u, hu⟩ : ∃ u : Nat, (fe x - min (fe x) (fe y)).toNat = u := ⟨_, rfl⟩
    obtain ⟨v, hv⟩ : ∃ v : Nat, (fe y - min (fe x) (fe y)).toNat = v := ⟨_, rfl⟩
    have eI : fE x = u + b := by unfold fe at *; omega
    have eJ : fE y = v + b := by unfold fe at *; omega
    rw [fvI_sv, fvI_sv, eI, eJ, sv_up, sv_up] at h
    have h2 : sv (fng x) (fm x) u = sv (fng y) (fm y) v := Int.eq_of_mul_eq_mul_right (by have := Nat.two_pow_pos b; omega) h
    unfold Ieee.Datum.order
    simp only [hu, hv, signed_sv, h2]
    simp
  rw [h9]; rfl
/-- .. by what they are. -/
theorem nb_ord {k j x y : Nat} (hx : Nb k x) (hy : Nb j y) (h : fvI x = fvI y) : (FloatKind.f64.format.order x y == some .eq) = true := ord_eq hx.1 hy.1 hx.2.1 hy.2.1 h
end Go.Proofs.Ytfccpjjdemanbaa
