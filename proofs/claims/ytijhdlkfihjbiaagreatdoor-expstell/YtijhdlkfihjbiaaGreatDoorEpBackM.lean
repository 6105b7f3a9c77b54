/- What ExpsBack asks, of dyads: numbers alone. -/
import Derived.Test.YtijhdlkfihjbiaaGreatDoorEpLaw
namespace Go.Proofs.YtijhdlkfihjbiaaGreatDoor

/-- A point isn't too wide from the scale 40 on; nor its interval. -/
theorem point_fits {n : Dy} {s : Nat} {k : Int} {a b c d : Nat} (hs : 40 ≤ s) (hs9 : s ≤ 8900) (hf : Fine n) (hm : Mid n) (hw : EpW s n n k a b c d) : b ≤ 2 ^ s := by
  have hW : 2 ^ 40 ≤ 2 ^ s := Nat.pow_le_pow_right (by decide) hs
  have e40 : (2 : Nat) ^ 40 = 1099511627776 := rfl
  rw [e40] at hW
  have h1 := mid_far (s := s) hf hm (by omega)
  have h2 := cl_fl s n
  exact epw_fits (n := 4097) (by omega) hw (Int.le_refl _) (by omega) (by omega)
theorem point_thin {n : Dy} {s : Nat} {k : Int} {a b c d p q : Nat} (hs : 8 ≤ s) (hs9 : s ≤ 8900) (hw : EpW s n n k a b c d) (hb : b ≤ 2 ^ s) (v1 : ExV false a s p) (v2 : ExV true b s q) : p ≤ q ∧ q ≤ p + (8 * s + 131 + 3 * k.natAbs * (2 * s + 128)) ∧ q ≤ 4 * 2 ^ s + 16 + 32 * k.natAbs := by
  obtain ⟨_, _, g2, g3, _⟩ := epw_at hs hw (Int.le_refl _)
  have h2 := cl_fl s n
  have h3 := fl_cl (s := s) (a := n) (b := n) (Int.le_refl _)
  have h4 : k.natAbs * (d - c) ≤ k.natAbs * 2 := Nat.mul_le_mul_left _ g3
  obtain ⟨_, hpq, _⟩ := ex_both (show a ≤ b by omega) hb v1 v2
  obtain ⟨w1, w2⟩ := ex_wide (show a ≤ b by omega) hb (by omega) hs v1 v2
  have h5 : 3 * k.natAbs * 144 ≤ 3 * k.natAbs * (2 * s + 128) := Nat.mul_le_mul_left _ (by omega)
  refine ⟨hpq, by omega, by omega⟩
end Go.Proofs.YtijhdlkfihjbiaaGreatDoor
