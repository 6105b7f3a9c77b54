/- How often ln 2 is split off, and what that leaves. Numbers alone. -/
import Derived.Test.YtijhdlkfihjbiaaGreatDoorEpAt
import Derived.Test.YtijhdlkfihjbiaaGreatDoorK6
namespace Go.Proofs.YtijhdlkfihjbiaaGreatDoor

/-- ln 2 is between a half and three fourths. -/
theorem ln2_third {s c d : Nat} (h1 : AtV false 1 3 (s + 1) c) (h2 : AtV true 1 3 (s + 1) d) : 4 * c ≤ 3 * 2 ^ s ∧ 2 ^ s ≤ 2 * d ∧ c ≤ d ∧ d ≤ c + 2 := by
  obtain ⟨hB, hcd, hdc⟩ := ln2_both h1 h2
  have p0 := rnat_pos (Nat.two_pow_pos s)
  obtain ⟨a, ha⟩ := parts_ex s (c : Int)
  obtain ⟨b, hb⟩ := parts_ex s (d : Int)
  have ec : (((c : Nat) : Int) : Rat) = (c : Rat) := by exact_mod_cast rfl
  have ed : (((d : Nat) : Int) : Rat) = (d : Rat) := by exact_mod_cast rfl
  rw [ec] at ha
  rw [ed] at hb
  obtain ⟨e1, e2⟩ := two_ends hB ha hb
  have g1 : LnLe 2 (3 / 4) := ep_lo (c := 2) (by grind) (by grind) (by
    show (2 : Rat) ≤ ge_ (3 / 4) 2 1
    simp only [ge_]
    have e1 : ((1 : Nat) : Rat) = 1 := by exact_mod_cast rfl
    have e2 : ((2 : Nat) : Rat) = 2 := by exact_mod_cast rfl
    have e3 : ((1 + 1 : Nat) : Rat) = 2 := by exact_mod_cast rfl
    grind)
  have g2 : LnGe 2 (1 / 2) := ep_hi (by grind) (fun N => by
    have := eS_little (h := 1 / 2) (by grind) (by grind) N
    grind)
  have o1 := ln_order (X := 2) (by grind) Rat.le_refl e1 g1
  have o2 := ln_order (X := 2) (by grind) Rat.le_refl g2 e2
  have m1 := rmul_le o1 (Rat.le_of_lt p0)
  have m2 := rmul_le o2 (Rat.le_of_lt p0)
  refine ⟨cast_le ?_, cast_le ?_, hcd, hdc⟩
  · have q1 : ((4 * c : Nat) : Rat) = 4 * (c : Rat) := by exact_mod_cast rfl
    have q2 : ((3 * 2 ^ s : Nat) : Rat) = 3 * ((2 ^ s : Nat) : Rat) := by exact_mod_cast rfl
    rw [q1, q2]
    grind
  · have q1 : ((2 * d : Nat) : Rat) = 2 * (d : Rat) := by exact_mod_cast rfl
    rw [q1]
    grind
/-- The document's k. -/
def spK (L : Int) (c d : Nat) : Int := if 0 ≤ L then L / (d : Int) else -(((L.natAbs + c - 1) / c : Nat) : Int)
theorem spK_sg (L : Int) {c : Nat} (d : Nat) (hc : 0 < c) : spK L c d < 0 ↔ L < 0 := by
  unfold spK
  by_cases h : 0 ≤ L
  · rw [if_pos h]
    have : 0 ≤ L / (d : Int) := Int.ediv_nonneg h (by omega)
    omega
  · rw [if_neg h]
    have : 0 < (L.natAbs + c - 1) / c := Nat.div_pos (by omega) hc
    omega
theorem sp_at {L H : Int} {c d : Nat} (hc : 0 < c) (hcd : c ≤ d) (hLH : L ≤ H) :
    ∃ a b : Nat, SplitV (spK L c d) L H a b c d ∧ a < (if L < 0 then c else d) ∧ (b : Int) = (a : Int) + (H - L) + ((spK L c d).natAbs * (d - c) : Nat) ∧ (spK L c d).natAbs * c < L.natAbs + c := by
  by_cases h : 0 ≤ L
  · obtain ⟨n, rfl⟩ := Int.eq_ofNat_of_zero_le h
    have ek : spK (n : Int) c d = ((n / d : Nat) : Int) := by unfold spK; rw [if_pos h]; exact (Int.natCast_ediv n d).symm
    have e1 := Nat.div_add_mod n d
    have l1 := Nat.mod_lt n (show d > 0 by omega)
    obtain ⟨q, hq⟩ : ∃ q, n / d = q := ⟨_, rfl⟩
    obtain ⟨r, hr⟩ : ∃ r, n % d = r := ⟨_, rfl⟩
    rw [hq, hr] at e1
    rw [hr] at l1
    rw [ek, hq]
    obtain ⟨m, rfl⟩ : ∃ m : Nat, d = c + m := ⟨d - c, by omega⟩
    have e2 : (c + m) * q = q * c + q * m := by rw [Nat.mul_comm, Nat.mul_add]
    have e3 : (c + m - c) = m := by omega
    have e4 : (((q : Nat) : Int)).natAbs = q := Int.natAbs_natCast q
    have e5 : (q : Int) * ((c + m : Nat) : Int) = ((q * c : Nat) : Int) + ((q * m : Nat) : Int) := by rw [← Int.natCast_mul, Nat.mul_add]; omega
    have e6 : (q : Int) * (c : Int) = ((q * c : Nat) : Int) := (Int.natCast_mul q c).symm
    rw [e3, e4]
    refine ⟨r, (r + (H - n).toNat + q * m), ⟨?_, ?_⟩, ?_, ?_, ?_⟩
    · rw [if_pos (by omega), e5]; omega
    · rw [if_pos (by omega), e6]; omega
    · rw [if_neg (by omega)]; exact l1
    · omega
    · omega
  · obtain ⟨n, hn⟩ : ∃ n : Nat, L = -(n : Int) := ⟨L.natAbs, by omega⟩
    subst hn
    have ek : spK (-(n : Int)) c d = -(((n + c - 1) / c : Nat) : Int) := by
      unfold spK
      rw [if_neg h, show (-(n : Int)).natAbs = n by omega]
    have e1 := Nat.div_add_mod (n + c - 1) c
    have l1 := Nat.mod_lt (n + c - 1) (show c > 0 by omega)
    obtain ⟨q, hq⟩ : ∃ q, (n + c - 1) / c = q := ⟨_, rfl⟩
    obtain ⟨r, hr⟩ : ∃ r, (n + c - 1) % c = r := ⟨_, rfl⟩
    rw [hq, hr] at e1
    rw [hr] at l1
    have q0 : 0 < q := by rw [← hq]; exact Nat.div_pos (by omega) hc
    rw [ek, hq]
    obtain ⟨m, rfl⟩ : ∃ m : Nat, d = c + m := ⟨d - c, by omega⟩
    have e2 : c * q = q * c := Nat.mul_comm ..
    have e3 : (c + m - c) = m := by omega
    have e4 : (-((q : Nat) : Int)).natAbs = q := by omega
    have e5 : -(q : Int) * ((c + m : Nat) : Int) = -(((q * c : Nat) : Int) + ((q * m : Nat) : Int)) := by rw [Int.neg_mul, ← Int.natCast_mul, Nat.mul_add]; omega
    have e6 : -(q : Int) * (c : Int) = -((q * c : Nat) : Int) := by rw [Int.neg_mul, ← Int.natCast_mul]
    rw [e3, e4]
    refine ⟨q * c - n, (q * c - n + (H + n).toNat + q * m), ⟨?_, ?_⟩, ?_, ?_, ?_⟩
    · rw [if_neg (by omega), e6]; omega
    · rw [if_neg (by omega), e5]; omega
    · rw [if_pos (by omega)]; omega
    · omega
    · omega
end Go.Proofs.YtijhdlkfihjbiaaGreatDoor
