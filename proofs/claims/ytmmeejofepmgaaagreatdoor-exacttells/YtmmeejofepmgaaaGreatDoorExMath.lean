/- Which powers with fractions for exponents are dyads: numbers alone. -/
import Derived.Test.YtmmeejofepmgaaaGreatDoorK5
namespace Go.Proofs.YtmmeejofepmgaaaGreatDoor

/-- Of two powers that are the same, with exponents that nothing divides both of: both are powers of one number. -/
theorem pow_parts : ∀ (s K M V o : Nat), K + M ≤ s → Nat.gcd K M = 1 → 0 < V → 0 < o → V ^ K = o ^ M → ∃ r, o = r ^ K ∧ V = r ^ M := by
  intro s
  induction s with
  | zero =>
    intro K M V o hs hg
    rw [show K = 0 by omega, show M = 0 by omega] at hg
    exact absurd hg (by decide)
  | succ s ih =>
    intro K M V o hs hg hV ho h
    by_cases hK : K = 0
    · subst hK
      rw [Nat.gcd_zero_left] at hg
      subst hg
      rw [Nat.pow_zero, Nat.pow_one] at h
      exact ⟨V, by rw [Nat.pow_zero]; exact h.symm, by rw [Nat.pow_one]⟩
    · by_cases hM : M = 0
      · subst hM
        rw [Nat.gcd_zero_right] at hg
        subst hg
        rw [Nat.pow_zero, Nat.pow_one] at h
        exact ⟨o, by rw [Nat.pow_one], by rw [Nat.pow_zero]; exact h⟩
      · rcases Nat.le_total K M with hle | hle
        · obtain ⟨D, rfl⟩ : ∃ D, M = K + D := ⟨M - K, by omega⟩
          have hd : o ^ K ∣ V ^ K := by rw [h, Nat.pow_add]; exact ⟨_, rfl⟩
          obtain ⟨V', rfl⟩ := (Nat.pow_dvd_pow_iff hK).1 hd
          rw [Nat.mul_pow, Nat.pow_add] at h
          have h2 := Nat.eq_of_mul_eq_mul_left (Nat.pow_pos ho) h
          have hV' : 0 < V' := Nat.pos_of_mul_pos_left hV
          obtain ⟨r, r1, r2⟩ := ih K D V' o (by omega) (by rw [Nat.gcd_self_add_right] at hg; exact hg) hV' ho h2
          exact ⟨r, r1, by rw [Nat.pow_add, ← r1, ← r2]⟩
        · obtain ⟨D, rfl⟩ : ∃ D, K = M + D := ⟨K - M, by omega⟩
          have hd : V ^ M ∣ o ^ M := by rw [← h, Nat.pow_add]; exact ⟨_, rfl⟩
          obtain ⟨o', rfl⟩ := (Nat.pow_dvd_pow_iff hM).1 hd
          rw [Nat.mul_pow, Nat.pow_add] at h
          have h2 := Nat.eq_of_mul_eq_mul_left (Nat.pow_pos hV) h
          have ho' : 0 < o' := Nat.pos_of_mul_pos_left ho
          obtain ⟨r, r1, r2⟩ := ih D M V o' (by omega) (by rw [Nat.gcd_self_add_left] at hg; exact hg) hV ho' h2
          exact ⟨r, by rw [Nat.pow_add, ← r1, ← r2], r2⟩

theorem cmpZ_zero_iff {x y : Nat} : cmpZ x y = 0 ↔ x = y := by
  rcases Nat.lt_trichotomy x y with h | h | h
  · rw [cmpZ_lt h]; omega
  · rw [cmpZ_eq h]; simp [h]
  · rw [cmpZ_gt h]; omega
/-- Odd numbers at their places are the same only as they are. -/
theorem cq_odd {V U : Nat} {e f : Int} (hV : V % 2 = 1) (hU : U % 2 = 1) : cq V e U f = 0 ↔ V = U ∧ e = f := by
  unfold cq
  rw [cmpZ_zero_iff]
  constructor
  · intro h
    have key : ∀ (x y n : Nat), x % 2 = 1 → y % 2 = 1 → x * 2 ^ n = y → n = 0 := fun x y n hx hy hh => by
      cases n with
      | zero => rfl
      | succ n => rw [Nat.pow_succ, ← Nat.mul_assoc] at hh; omega
    rcases Int.le_total e f with h1 | h1
    · rw [show (e - f).toNat = 0 by omega, Nat.pow_zero, Nat.mul_one] at h
      have := key _ _ _ hU hV h.symm
      rw [this, Nat.pow_zero, Nat.mul_one] at h
      exact ⟨h, by omega⟩
    · rw [show (f - e).toNat = 0 by omega, Nat.pow_zero, Nat.mul_one] at h
      have := key _ _ _ hV hU h
      rw [this, Nat.pow_zero, Nat.mul_one] at h
      exact ⟨h, by omega⟩
  · rintro ⟨rfl, rfl⟩
    rfl
theorem pow_one_of {x n : Nat} (hn : n ≠ 0) (h : x ^ n = 1) : x = 1 := by
  have := (Nat.pow_left_inj (a := x) (b := 1) hn).1 (by rw [h, Nat.one_pow])
  exact this
/-- What the exponent divides. -/
theorem div_exp {K m : Nat} {E f : Int} (hK : 0 < K) (hg : Nat.gcd K m = 1) (h : E * m = f * K) : (K : Int) ∣ E ∧ f = m * (E / K) := by
  have h1 : K ∣ E.natAbs * m := by
    refine ⟨f.natAbs, ?_⟩
    have := congrArg Int.natAbs h
    rw [Int.natAbs_mul, Int.natAbs_mul, Int.natAbs_natCast, Int.natAbs_natCast] at this
    rw [this, Nat.mul_comm]
  have h2 : K ∣ E.natAbs := Nat.Coprime.dvd_of_dvd_mul_right hg h1
  have h3 : (K : Int) ∣ E := Int.ofNat_dvd_left.2 h2
  refine ⟨h3, ?_⟩
  obtain ⟨q, rfl⟩ := h3
  have hK0 : (K : Int) ≠ 0 := by omega
  rw [Int.mul_ediv_cancel_left _ hK0]
  have h4 : (K : Int) * (q * m) = K * f := by rw [← Int.mul_assoc, h, Int.mul_comm]
  have h5 := Int.eq_of_mul_eq_mul_left hK0 h4
  rw [← h5, Int.mul_comm]
/-- Which dyad a power is, the exponent above or at 0. -/
theorem exact_pos {o V K m : Nat} {E f : Int} (ho : o % 2 = 1) (hV : V % 2 = 1) (hK : 0 < K) (hg : Nat.gcd K m = 1) :
    ratC o E (m : Int) V f K = 0 ↔ (K : Int) ∣ E ∧ f = m * (E / K) ∧ ∃ r, o = r ^ K ∧ V = r ^ m := by
  rw [ratC_pos, cq_odd (odd_pow ho m) (odd_pow hV K)]
  constructor
  · rintro ⟨h1, h2⟩
    obtain ⟨q1, q2⟩ := div_exp hK hg h2
    exact ⟨q1, q2, pow_parts (K + m) K m V o (Nat.le_refl _) hg (by omega) (by omega) h1.symm⟩
  · rintro ⟨⟨q, rfl⟩, h2, r, rfl, rfl⟩
    have hK0 : (K : Int) ≠ 0 := by omega
    rw [Int.mul_ediv_cancel_left _ hK0] at h2
    refine ⟨by rw [← Nat.pow_mul, ← Nat.pow_mul, Nat.mul_comm], ?_⟩
    rw [h2]
    ac_rfl
/-- .. below 0. -/
theorem exact_neg {o V K m : Nat} {E f : Int} (ho : o % 2 = 1) (hV : V % 2 = 1) (hK : 0 < K) (hm : m ≠ 0) (hg : Nat.gcd K m = 1) :
    ratC o E (-(m : Int)) V f K = 0 ↔ (K : Int) ∣ E ∧ f = -(m : Int) * (E / K) ∧ o = 1 ∧ V = 1 := by
  have hodd : o ^ m * V ^ K % 2 = 1 := by rw [Nat.mul_mod, odd_pow ho m, odd_pow hV K]
  rw [ratC_neg hm, cq_odd (by decide) hodd]
  constructor
  · rintro ⟨h1, h2⟩
    have h3 : o ^ m = 1 ∧ V ^ K = 1 := ⟨Nat.eq_one_of_mul_eq_one_right h1.symm, Nat.eq_one_of_mul_eq_one_left h1.symm⟩
    obtain ⟨q1, q2⟩ := div_exp (E := E) (f := -f) hK hg (by rw [Int.neg_mul]; omega)
    exact ⟨q1, by rw [Int.neg_mul, ← q2, Int.neg_neg], pow_one_of hm h3.1, pow_one_of (by omega) h3.2⟩
  · rintro ⟨⟨q, rfl⟩, h2, rfl, rfl⟩
    have hK0 : (K : Int) ≠ 0 := by omega
    rw [Int.mul_ediv_cancel_left _ hK0] at h2
    refine ⟨by rw [Nat.one_pow, Nat.one_pow], ?_⟩
    have e : (K : Int) * q * m = m * q * K := by ac_rfl
    rw [h2, Int.neg_mul, Int.neg_mul, e]
    omega
end Go.Proofs.YtmmeejofepmgaaaGreatDoor
