/- What DdProds rests on: the halves' bits, the product's worth and place. -/
import Derived.Test.YtfccpjjdemanbaaDdHold
import Derived.Test.YtfccpjjdemanbaaDdTurned
import Derived.Test.YtfccpjjdemanbaaDdMul
namespace Go.Proofs.Ytfccpjjdemanbaa
open Go.RowKit

theorem odd_bits {V j y f : Nat} (h : V * 2 ^ j = y * 2 ^ f) (hV : V = 0 ∨ V % 2 = 1) (hy : y ≤ 67108864) : blen V ≤ 26 := by
  refine blen_le_iff.2 ?_
  rw [show (2 : Nat) ^ 26 = 67108864 by decide]
  rcases Nat.le_total f j with hj | hj
  · obtain ⟨d, rfl⟩ : ∃ d, j = f + d := ⟨j - f, by omega⟩
    rw [Nat.pow_add, Nat.mul_comm (2 ^ f), ← Nat.mul_assoc] at h
    have h2 := Nat.eq_of_mul_eq_mul_right (Nat.two_pow_pos f) h
    have h3 : V ≤ V * 2 ^ d := Nat.le_mul_of_pos_right _ (Nat.two_pow_pos d)
    omega
  · obtain ⟨d, rfl⟩ : ∃ d, f = j + d := ⟨f - j, by omega⟩
    rw [Nat.pow_add, Nat.mul_comm (2 ^ j), ← Nat.mul_assoc] at h
    have h2 := Nat.eq_of_mul_eq_mul_right (Nat.two_pow_pos j) h
    cases d with
    | zero => rw [Nat.pow_zero, Nat.mul_one] at h2; omega
    | succ d => rw [Nat.pow_succ, ← Nat.mul_assoc] at h2; omega
/-- A number of the document that bits are worth: odd, at a place. -/
theorem fO_place {b : Nat} (hf : Fnt b) : ∃ j : Nat, (fvI b).natAbs = (fO b).V * 2 ^ j ∧ ((fO b).V = 0 ∨ ((fO b).V % 2 = 1 ∧ (fO b).e = (j : Int) - 1074)) := by
  have hbd := fe_bd hf
  rw [fvI_abs]
  by_cases h0 : fm b = 0
  · refine ⟨0, ?_, Or.inl ?_⟩
    · rw [fO_zero h0, h0]; simp
    · rw [fO_zero h0]
  · have e : fO b = ⟨fng b, fm b / 2 ^ low (fm b), fe b + low (fm b)⟩ := by unfold fO; rw [nO_pos _ _ h0, held_id (by omega) (by omega)]
    obtain ⟨q, hq⟩ := low_spec (Nat.pos_of_ne_zero h0)
    have hp := Nat.two_pow_pos (low (fm b))
    have h2 : fm b / 2 ^ low (fm b) = 2 * q + 1 := by
      have := Nat.mul_div_cancel_left (2 * q + 1) hp
      rw [← hq] at this
      exact this
    refine ⟨low (fm b) + fE b, ?_, Or.inr ⟨?_, ?_⟩⟩
    · rw [e]
      show _ = fm b / 2 ^ low (fm b) * _
      rw [h2, Nat.pow_add, ← Nat.mul_assoc, Nat.mul_comm (2 * q + 1), ← hq]
    · rw [e]
      show fm b / 2 ^ low (fm b) % 2 = 1
      rw [h2]; omega
    · rw [e]
      show fe b + (low (fm b) : Int) = _
      unfold fe
      omega
theorem half_bits {h y f : Nat} (hf : Fnt h) (hv : (fvI h).natAbs = y * 2 ^ f) (hy : y ≤ 67108864) : blen (fO h).V ≤ 26 := by
  obtain ⟨j, h1, h2⟩ := fO_place hf
  refine odd_bits (h1.symm.trans hv) ?_ hy
  rcases h2 with h2 | h2
  · exact Or.inl h2
  · exact Or.inr h2.1

theorem dw_prod (g1 g2 : Bool) (V1 V2 : Nat) (e1 e2 : Int) : dw g1 V1 e1 * dw g2 V2 e2 = if g1 ^^ g2 then -((sz V1 e1 * sz V2 e2 : Nat) : Int) else ((sz V1 e1 * sz V2 e2 : Nat) : Int) := by
  unfold dw
  rw [Int.natCast_mul]
  cases g1 <;> cases g2 <;> simp [Int.neg_mul, Int.mul_neg]
/-- The worth of a product. -/
theorem wu_mul {d1 d2 : Dy} {x y Q : Int} {u : Nat} (hu : u = 1074) (h1 : Wu d1 x) (h2 : Wu d2 y) (a1 : -10000 ≤ d1.e) (a2 : d1.e ≤ 10000) (b1 : -10000 ≤ d2.e) (b2 : d2.e ≤ 10000) (hQ : x * y = Q * ((2 ^ u : Nat) : Int)) : Wu ⟨d1.neg ^^ d2.neg, d1.V * d2.V, d1.e + d2.e⟩ Q := by
  have k1 := kb_sh (e := d1.e) (by omega) (by omega)
  have k2 := kb_sh (e := d2.e) (by omega) (by omega)
  have k3 := kb_sh (e := d1.e + d2.e) (by omega) (by omega)
  have hs : sz d1.V d1.e * sz d2.V d2.e = sz (d1.V * d2.V) (d1.e + d2.e) * 2 ^ (u + kb) := by
    unfold sz
    have e : sh d1.e + sh d2.e = sh (d1.e + d2.e) + (u + kb) := by omega
    have e2 : d1.V * 2 ^ sh d1.e * (d2.V * 2 ^ sh d2.e) = d1.V * d2.V * 2 ^ (sh d1.e + sh d2.e) := by rw [Nat.pow_add]; ac_rfl
    rw [e2, e, Nat.pow_add, ← Nat.mul_assoc]
  have hm := dw_prod d1.neg d2.neg d1.V d2.V d1.e d2.e
  unfold Wu at h1 h2 ⊢
  rw [h1, h2, hs] at hm
  show dw (d1.neg ^^ d2.neg) (d1.V * d2.V) (d1.e + d2.e) = _
  have hp : ((2 ^ (u + kb) : Nat) : Int) ≠ 0 := by have := Nat.two_pow_pos (u + kb); omega
  refine Int.eq_of_mul_eq_mul_right hp ?_
  have e3 : x * ((2 ^ kb : Nat) : Int) * (y * ((2 ^ kb : Nat) : Int)) = Q * ((2 ^ kb : Nat) : Int) * ((2 ^ (u + kb) : Nat) : Int) := by
    rw [show x * ((2 ^ kb : Nat) : Int) * (y * ((2 ^ kb : Nat) : Int)) = x * y * (((2 ^ kb : Nat) : Int) * ((2 ^ kb : Nat) : Int)) by ac_rfl, hQ, Nat.pow_add, Int.natCast_mul]
    ac_rfl
  rw [← e3, hm]
  unfold dw
  rw [Int.natCast_mul]
  cases d1.neg ^^ d2.neg
  · simp
  · simp [Int.neg_mul]
end Go.Proofs.Ytfccpjjdemanbaa
