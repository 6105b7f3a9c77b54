/- The document's numbers and float64's bits by one unit: what numbers are worth, which bits are the nearest. -/
import Derived.Test.YtfccpjjdemanbaaDdMath
import Derived.Test.YtfccpjjdemanbaaDdSafe
import Derived.Test.YtfccpjjdemanbaaJ4
namespace Go.Proofs.Ytfccpjjdemanbaa

/-- A number of the document is worth so many units of 2^-1074. -/
def Wu (d : Dy) (x : Int) : Prop := dw d.neg d.V d.e = x * ((2 ^ kb : Nat) : Int)
theorem kb_sh {e : Int} (h1 : -1073741824 ≤ e) (h2 : e ≤ 1073741824) : (sh e : Int) = e + 1074 + (kb : Int) := by
  have := sh_eq h1 h2
  have := kb_eq
  omega
theorem dw_abs (g : Bool) (V : Nat) (e : Int) : (dw g V e).natAbs = sz V e := by unfold dw; cases g <;> simp
theorem fO_wu {b : Nat} (hf : Fnt b) : Wu (fO b) (fvI b) := by
  have hbd := fe_bd hf
  unfold Wu
  by_cases h0 : fm b = 0
  · have e : fO b = ⟨false, 0, 0⟩ := by unfold fO; rw [h0, nO_zero]
    have e2 : fvI b = 0 := by unfold fvI; rw [h0, Nat.zero_mul]; split <;> rfl
    rw [e, e2, Int.zero_mul]
    exact dw_zero _ _
  · have e : fO b = ⟨fng b, fm b / 2 ^ low (fm b), fe b + low (fm b)⟩ := by unfold fO; rw [nO_pos _ _ h0, held_id (by omega) (by omega)]
    have h3 := (blen_low h0).1
    have h4 : blen (fm b) ≤ 53 := blen_le_iff.2 (by rw [p53]; exact (f_parts b).2.1)
    obtain ⟨q, hq⟩ := low_spec (Nat.pos_of_ne_zero h0)
    have h2 : fm b / 2 ^ low (fm b) * 2 ^ low (fm b) = fm b := Nat.div_mul_cancel ⟨_, hq⟩
    have hs : sz (fm b / 2 ^ low (fm b)) (fe b + low (fm b)) = fm b * 2 ^ fE b * 2 ^ kb := by
      rw [sz_shift (e := fe b) (k := low (fm b)) (by rw [held_id (by omega) (by omega), held_id (by omega) (by omega)]), h2]
      have h9 := kb_sh (e := fe b) (by omega) (by omega)
      have h8 : sh (fe b) = fE b + kb := by unfold fe at h9 ⊢; omega
      rw [sz, h8, Nat.pow_add, Nat.mul_assoc]
    rw [e]
    show (if fng b then -(sz (fm b / 2 ^ low (fm b)) (fe b + low (fm b)) : Int) else (sz (fm b / 2 ^ low (fm b)) (fe b + low (fm b)) : Int)) = _
    rw [hs]
    unfold fvI
    cases fng b
    · simp only [Bool.false_eq_true, if_false]; exact Int.natCast_mul _ _
    · simp only [if_true]; rw [Int.neg_mul, ← Int.natCast_mul]
/-- Its exponent. -/
theorem fO_exp {b : Nat} (hf : Fnt b) : -1074 ≤ (fO b).e ∧ (fO b).e ≤ 1024 := by
  have hbd := fe_bd hf
  have e : fO b = nO (fng b) (fm b) (fe b) := rfl
  by_cases h0 : fm b = 0
  · rw [e, h0, nO_zero]
    decide
  · rw [e, nO_pos _ _ h0, held_id (by omega) (by omega)]
    have h2 := (blen_low h0).1
    have h4 := blen_pos (blen_low h0).2
    have h3 : blen (fm b) ≤ 53 := blen_le_iff.2 (by rw [p53]; exact (f_parts b).2.1)
    show -1074 ≤ fe b + (low (fm b) : Int) ∧ fe b + (low (fm b) : Int) ≤ 1024
    omega

/-- The whole number behind a number: at a place below its exponent. -/
theorem wu_nat {d : Dy} {x : Int} {a b : Nat} (h : Wu d x) (h1 : -1073741824 ≤ d.e) (h2 : d.e ≤ 1073741824) (hab : d.e + 1074 = (b : Int) - a) : x.natAbs * 2 ^ a = d.V * 2 ^ b := by
  have h3 := congrArg Int.natAbs h
  rw [dw_abs, Int.natAbs_mul, Int.natAbs_natCast, sz] at h3
  have h4 := kb_sh h1 h2
  have h5 : sh d.e + a = b + kb := by omega
  have h6 : d.V * 2 ^ (sh d.e + a) = x.natAbs * 2 ^ kb * 2 ^ a := by rw [Nat.pow_add, ← Nat.mul_assoc, h3]
  rw [h5, Nat.pow_add, ← Nat.mul_assoc, Nat.mul_right_comm x.natAbs] at h6
  exact (Nat.eq_of_mul_eq_mul_right (Nat.two_pow_pos kb) h6).symm
theorem wu_sign {d : Dy} {x : Int} (h : Wu d x) (h0 : d.V ≠ 0) : d.neg = decide (x < 0) ∧ x ≠ 0 := by
  unfold Wu at h
  have hp : 0 < 2 ^ kb := Nat.two_pow_pos kb
  have hs := sz_pos d.e h0
  unfold dw at h
  constructor
  · cases hg : d.neg
    · rw [hg, if_neg (by decide)] at h
      refine (decide_eq_false (fun hx => ?_)).symm
      have := Int.mul_neg_of_neg_of_pos hx (show 0 < ((2 ^ kb : Nat) : Int) by omega)
      omega
    · rw [hg, if_pos rfl] at h
      refine (decide_eq_true ?_).symm
      rcases (show x < 0 ∨ 0 ≤ x by omega) with hx | hx
      · exact hx
      · have := Int.mul_nonneg hx (show 0 ≤ ((2 ^ kb : Nat) : Int) by omega)
        omega
  · intro hx
    rw [hx, Int.zero_mul] at h
    split at h <;> omega
/-- How many bits it has at most. -/
theorem wu_bits {d : Dy} {x : Int} {k q : Nat} (h : Wu d x) (h1 : -1073741824 ≤ d.e) (h2 : d.e ≤ 1073741824) (hk : x.natAbs ≤ 2 ^ k) (hq : -1074 - (q : Int) ≤ d.e) : d.V ≤ 2 ^ (k + q) := by
  rcases Int.le_total 0 (d.e + 1074) with h3 | h3
  · have h4 := wu_nat (a := 0) (b := (d.e + 1074).toNat) h h1 h2 (by omega)
    rw [Nat.pow_zero, Nat.mul_one] at h4
    have hp := Nat.two_pow_pos (d.e + 1074).toNat
    have h5 : d.V ≤ x.natAbs := by rw [h4]; exact Nat.le_mul_of_pos_right _ hp
    exact Nat.le_trans (Nat.le_trans h5 hk) (Nat.pow_le_pow_right (by decide) (by omega))
  · have h4 := wu_nat (a := (-(d.e + 1074)).toNat) (b := 0) h h1 h2 (by omega)
    rw [Nat.pow_zero, Nat.mul_one] at h4
    rw [← h4, Nat.pow_add]
    exact Nat.mul_le_mul hk (Nat.pow_le_pow_right (by decide) (by omega))
/-- Which bits are the nearest. -/
theorem near_bits {d : Dy} {x : Int} {c : Nat} (h : Wu d x) (h1 : -1073741824 ≤ d.e) (h2 : d.e ≤ 1073741824) (h0 : d.V ≠ 0) (hc : c < 18446744073709551616) (fc : Fnt c) (hv : fvI c = rn x) {k : Nat} (hk : k ≤ 2090) (hl : x.natAbs ≤ 2 ^ k) : (rndO d.neg d.V d.e false 0).1 = c := by
  obtain ⟨hs, hx0⟩ := wu_sign h h0
  obtain ⟨z, hz⟩ : ∃ z, z = 2098 := ⟨_, rfl⟩
  have hrn : ∀ N : Int, (rn N).natAbs = rN N.natAbs := fun N => by unfold rn; split <;> omega
  have hlt : rN x.natAbs < 2 ^ z := by
    rw [← hrn]
    exact Nat.lt_of_le_of_lt (rn_pow hl) (Nat.pow_lt_pow_right (by decide) (by omega))
  have key : ∀ a b : Nat, d.e + 1074 = (b : Int) - a → (rndO d.neg d.V d.e false 0).1 = c := fun a b hab => by
    obtain ⟨r, hr, k1, k2, k3, k4⟩ := nearest_val (M := x.natAbs) (a := a) (b := b) (mag := d.V) (place := d.e) d.neg hz h0 (wu_nat h h1 h2 hab) hab hlt
    rw [rnd_ieee _ h0 h1 h2, hr]
    have hv2 := rn_of hs k3 k4
    refine fvI_inj k1 hc k2 fc (hv2.trans hv.symm) ?_
    rw [hv2]
    have := rn_ge (x := x) (f := 1) ⟨1, 0, rfl, by decide⟩ (by omega)
    omega
  rcases Int.le_total 0 (d.e + 1074) with h3 | h3
  · exact key 0 (d.e + 1074).toNat (by omega)
  · exact key (-(d.e + 1074)).toNat 0 (by omega)
/-- Bits of no worth are noughts. -/
theorem nought_bits {c : Nat} (hc : c < 18446744073709551616) (hv : fvI c = 0) : c = 0 ∨ c = 9223372036854775808 := by
  have h1 := fvI_abs c
  rw [hv] at h1
  have hp := Nat.two_pow_pos (fE c)
  have h2 : fm c = 0 := by
    rcases Nat.eq_zero_or_pos (fm c) with h | h
    · exact h
    · have := Nat.mul_pos h hp
      have : Int.natAbs 0 = 0 := rfl
      omega
  have h3 := f_parts c
  have h4 : fE c = 0 := by
    rcases Nat.eq_zero_or_pos (fE c) with h | h
    · exact h
    · have := h3.2.2.1 h; omega
  have h5 := h3.1
  rw [h4, h2] at h5
  omega
/-- The sum of two. -/
theorem wu_add {d1 d2 o : Dy} {x y : Int} (h1 : Wu d1 x) (h2 : Wu d2 y) (h : dw o.neg o.V o.e = dw d1.neg d1.V d1.e + dw d2.neg d2.V d2.e) : Wu o (x + y) := by
  unfold Wu at *
  rw [h, h1, h2, Int.add_mul]
end Go.Proofs.Ytfccpjjdemanbaa
