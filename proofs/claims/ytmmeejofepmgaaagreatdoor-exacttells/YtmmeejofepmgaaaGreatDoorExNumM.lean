/- What exact.counts, number and breakpoint rest on: numbers alone. -/
import Derived.Test.YtmmeejofepmgaaaGreatDoorExTermM
import Derived.Test.YtmmeejofepmgaaaGreatDoorExSoM
import Derived.Test.YtmmeejofepmgaaaGreatDoorK5
namespace Go.Proofs.YtmmeejofepmgaaaGreatDoor

/-- A number without twos to the power M divided by K. -/
def NumIs (V : Nat) (M K : Int) (U : Nat) : Prop := ∃ r, V = r ^ K.toNat ∧ ((0 ≤ M ∧ U = r ^ M.toNat) ∨ (M < 0 ∧ r = 1 ∧ U = 1))

theorem odd_base {r k : Nat} (h : r ^ k % 2 = 1) (hk : k ≠ 0) : r % 2 = 1 := by
  rcases Nat.mod_two_eq_zero_or_one r with h0 | h0
  · obtain ⟨j, rfl⟩ : ∃ j, k = j + 1 := ⟨k - 1, by omega⟩
    rw [Nat.pow_succ, Nat.mul_mod, h0, Nat.mul_zero] at h
    exact absurd h (by decide)
  · exact h0

theorem brk_facts {U : Nat} {f : Int} (hU : U % 2 = 1) (h : brkO (some ⟨false, U, f⟩) = true) : -1075 ≤ f ∧ f ≤ 1024 ∧ blen U ≤ 54 := by
  have h0 := brk_e hU h
  have hb := blen_pos (show U ≠ 0 by omega)
  refine ⟨h0, ?_⟩
  unfold brkO at h
  simp only at h
  rw [if_neg (by omega)] at h
  unfold rtop ru rtop at h
  by_cases h1 : 1024 ≤ (blen U : Int) - 1 + f
  · rw [if_pos h1] at h
    have := of_decide_eq_true h
    omega
  · rw [if_neg h1] at h
    have := of_decide_eq_true h
    omega

theorem exn_parts {V : Nat} {E M K : Int} {U : Nat} {f : Int} (hV : V % 2 = 1) (hU : U % 2 = 1) (hK : 1 ≤ K) (hg : Nat.gcd M.natAbs K.toNat = 1) :
    ratC V E M U f K.toNat = 0 ↔ K ∣ E ∧ f = M * (E / K) ∧ NumIs V M K U := by
  obtain ⟨k, rfl⟩ := Int.eq_ofNat_of_zero_le (show 0 ≤ K by omega)
  rw [Int.toNat_natCast] at hg ⊢
  rw [Nat.gcd_comm] at hg
  rcases Int.lt_or_le M 0 with hM | hM
  · obtain ⟨m, rfl⟩ : ∃ m : Nat, M = -(m : Int) := ⟨(-M).toNat, by omega⟩
    rw [Int.natAbs_neg, Int.natAbs_natCast] at hg
    rw [exact_neg hV hU (by omega) (by omega) hg]
    unfold NumIs
    rw [Int.toNat_natCast]
    constructor
    · rintro ⟨h1, h2, h3, h4⟩
      exact ⟨h1, h2, 1, by rw [Nat.one_pow]; exact h3, Or.inr ⟨hM, rfl, h4⟩⟩
    · rintro ⟨h1, h2, r, h3, h4⟩
      rcases h4 with ⟨h5, _⟩ | ⟨_, h5, h6⟩
      · omega
      · subst h5
        rw [Nat.one_pow] at h3
        exact ⟨h1, h2, h3, h6⟩
  · obtain ⟨m, rfl⟩ := Int.eq_ofNat_of_zero_le hM
    rw [Int.natAbs_natCast] at hg
    rw [exact_pos hV hU (by omega) hg]
    unfold NumIs
    rw [Int.toNat_natCast, Int.toNat_natCast]
    constructor
    · rintro ⟨h1, h2, r, h3, h4⟩
      exact ⟨h1, h2, r, h3, Or.inl ⟨hM, h4⟩⟩
    · rintro ⟨h1, h2, r, h3, h4⟩
      rcases h4 with ⟨_, h5⟩ | ⟨h5, _⟩
      · exact ⟨h1, h2, r, h3, h5⟩
      · omega

/-- Whether a number of so many bits may have a root. -/
def cntB (c : Nat) (M K : Int) : Bool := if (c : Int) ≤ K then false else if 54 ≤ M then false else decide (((c : Int) - 1) * M < 54 * K)

theorem count_no {V : Nat} {M K : Int} {U : Nat} (hV : V % 2 = 1) (hV1 : V ≠ 1) (hM : 0 < M) (hK : 1 ≤ K) (hc : cntB (blen V) M K = false) (h : NumIs V M K U) : 54 < blen U := by
  obtain ⟨k, rfl⟩ := Int.eq_ofNat_of_zero_le (show 0 ≤ K by omega)
  obtain ⟨m, rfl⟩ := Int.eq_ofNat_of_zero_le (show 0 ≤ M by omega)
  obtain ⟨r, h1, h2⟩ := h
  rw [Int.toNat_natCast] at h1
  have h3 : U = r ^ m := by
    rcases h2 with ⟨_, h2⟩ | ⟨h2, _⟩
    · rw [Int.toNat_natCast] at h2; exact h2
    · omega
  have hk : k ≠ 0 := by omega
  have hr : r % 2 = 1 := odd_base (by rw [← h1]; exact hV) hk
  have hr1 : r ≠ 1 := fun h => hV1 (by rw [h1, h, Nat.one_pow])
  have hr2 : 2 ≤ r := by omega
  refine Nat.lt_of_not_le fun hlt => ?_
  have hU : U < 2 ^ 54 := blen_le_iff.1 hlt
  unfold cntB at hc
  by_cases q1 : (blen V : Int) ≤ k
  · have a1 : 2 ^ k ≤ r ^ k := Nat.pow_le_pow_left hr2 k
    have a2 := lt_blen V
    rw [← h1] at a1
    have a3 : 2 ^ k < 2 ^ blen V := Nat.lt_of_le_of_lt a1 a2
    have a4 := (Nat.pow_lt_pow_iff_right (by decide)).1 a3
    omega
  · rw [if_neg q1] at hc
    by_cases q2 : (54 : Int) ≤ m
    · have a1 : 2 ^ m ≤ r ^ m := Nat.pow_le_pow_left hr2 m
      rw [← h3] at a1
      have a3 : 2 ^ m < 2 ^ 54 := Nat.lt_of_le_of_lt a1 hU
      have a4 := (Nat.pow_lt_pow_iff_right (by decide)).1 a3
      omega
    · rw [if_neg q2] at hc
      have q3 := of_decide_eq_false hc
      obtain ⟨b, hb⟩ : ∃ b, blen V = b + 1 := ⟨blen V - 1, by have := blen_pos (show V ≠ 0 by omega); omega⟩
      rw [hb] at q3
      have q4 : 54 * k ≤ b * m := by
        have : ((b : Int) + 1 - 1) * m = ((b * m : Nat) : Int) := by rw [Int.add_sub_cancel, Int.natCast_mul]
        rw [Int.natCast_add, Int.natCast_one] at q3
        rw [this] at q3
        omega
      have a1 : 2 ^ b ≤ V := Nat.le_of_not_lt fun h => by have := blen_le_iff.2 h; omega
      have a2 : (2 ^ b) ^ m ≤ V ^ m := Nat.pow_le_pow_left a1 m
      have a3 : U ^ k < (2 ^ 54) ^ k := Nat.pow_lt_pow_left hU hk
      have a4 : V ^ m = U ^ k := by rw [h1, h3, ← Nat.pow_mul, ← Nat.pow_mul, Nat.mul_comm]
      rw [a4, ← Nat.pow_mul] at a2
      rw [← Nat.pow_mul] at a3
      have a5 := (Nat.pow_lt_pow_iff_right (by decide)).1 (Nat.lt_of_le_of_lt a2 a3)
      omega

theorem count_yes {V r m k : Nat} (h1 : V = r ^ k) (hV : V % 2 = 1) (hm : 0 < m) (hk : 1 ≤ k) (hc : cntB (blen V) m k = true) : blen r * m ≤ 108 := by
  unfold cntB at hc
  by_cases q1 : (blen V : Int) ≤ k
  · rw [if_pos q1] at hc; exact absurd hc (by decide)
  rw [if_neg q1] at hc
  by_cases q2 : (54 : Int) ≤ m
  · rw [if_pos q2] at hc; exact absurd hc (by decide)
  rw [if_neg q2] at hc
  have q3 := of_decide_eq_true hc
  have hr : r % 2 = 1 := odd_base (by rw [← h1]; exact hV) (by omega)
  obtain ⟨b, hb⟩ : ∃ b, blen V = b + 1 := ⟨blen V - 1, by have := blen_pos (show V ≠ 0 by omega); omega⟩
  obtain ⟨a, ha⟩ : ∃ a, blen r = a + 1 := ⟨blen r - 1, by have := blen_pos (show r ≠ 0 by omega); omega⟩
  rw [hb] at q3
  have q4 : b * m < 54 * k := by
    have : ((b : Int) + 1 - 1) * m = ((b * m : Nat) : Int) := by rw [Int.add_sub_cancel, Int.natCast_mul]
    rw [Int.natCast_add, Int.natCast_one] at q3
    rw [this] at q3
    omega
  have a1 : 2 ^ a ≤ r := Nat.le_of_not_lt fun h => by have := blen_le_iff.2 h; omega
  have a2 : (2 ^ a) ^ k ≤ V := by rw [h1]; exact Nat.pow_le_pow_left a1 k
  have a3 := lt_blen V
  rw [← Nat.pow_mul] at a2
  have a4 := (Nat.pow_lt_pow_iff_right (by decide)).1 (Nat.lt_of_le_of_lt a2 a3)
  have a5 : a * k ≤ b := by omega
  have a6 : a * k * m ≤ b * m := Nat.mul_le_mul_right m a5
  have a7 : a * m * k < 54 * k := by
    rw [Nat.mul_right_comm] at a6
    omega
  have a8 : a * m < 54 := Nat.lt_of_mul_lt_mul_right a7
  rw [ha, Nat.add_mul]
  omega

theorem pow_small {r m : Nat} (hr : r % 2 = 1) (h : blen r * m ≤ 108) : powR (mk false r 0) (m : Int) = (⟨false, r ^ m, 0⟩, 0) := by
  have m1 := mk_odd_self (d := ⟨false, r, 0⟩) (Or.inl ⟨r / 2, by show r = _; omega⟩) (by show (-1073741824 : Int) ≤ 0; decide) (by show (0 : Int) ≤ 1073741824; decide)
  simp only at m1
  rw [m1]
  unfold powR
  simp only
  rw [if_neg (by omega)]
  have hf : fitB r 0 (m : Int) = true := by
    unfold fitB
    rw [Int.natAbs_natCast, Bool.and_eq_true]
    exact ⟨decide_eq_true (by omega), decide_eq_true (by simp)⟩
  rw [if_pos hf, Int.toNat_natCast]
  unfold powD
  simp
end Go.Proofs.YtmmeejofepmgaaaGreatDoor
