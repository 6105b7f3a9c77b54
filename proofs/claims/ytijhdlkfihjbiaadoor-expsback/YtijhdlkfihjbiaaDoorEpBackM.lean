/- What ExpsBack asks, of dyads: numbers alone. -/
import Derived.Test.YtijhdlkfihjbiaaDoorEpLaw
namespace Go.Proofs.YtijhdlkfihjbiaaDoor

/-- The interval of a logarithm may be split, and isn't too wide. -/
theorem back_first {d lo hi : Dy} {z : Nat} {L H : Int} (hz1 : 32 ≤ z) (hz2 : z ≤ 287) (hd : LogD d) (hv : LogV d z L H) (ul : Un z L lo) (uh : Un z H hi) (h1 : -1064 ≤ (blen d.V : Int) - 1 + d.e) (h2 : (blen d.V : Int) - 1 + d.e ≤ 1064) :
    Mid lo ∧ Mid hi ∧ dw lo.neg lo.V lo.e ≤ dw hi.neg hi.V hi.e ∧ L.natAbs ≤ 2400 * 2 ^ z ∧ H.natAbs ≤ 2400 * 2 ^ z ∧ ∀ k a b c d', EpW z lo hi k a b c d' → b ≤ 2 ^ z := by
  obtain ⟨n1, n2⟩ := log_nearer (n := 1064) hd (by omega) (by omega) (by omega) (by omega) hv
  have hW : 2 ^ 32 ≤ 2 ^ z := Nat.pow_le_pow_right (by decide) hz1
  have e32 : (2 : Nat) ^ 32 = 4294967296 := rfl
  rw [e32] at hW
  have e12 : 2 ^ (z + 12) = 2 ^ z * 4096 := Nat.pow_add ..
  have m1 : L.natAbs ≤ 2400 * 2 ^ z := by omega
  have m2 : H.natAbs ≤ 2400 * 2 ^ z := by omega
  have hle : dw lo.neg lo.V lo.e ≤ dw hi.neg hi.V hi.e := by
    rw [ul.2.2, uh.2.2]
    exact Int.mul_le_mul_of_nonneg_right (log_order hd hv) (by omega)
  obtain ⟨t, ht⟩ : ∃ t : Nat, (t : Int) = max ((blen d.V : Int) - 1 + d.e) (-((blen d.V : Int) - 1 + d.e)) := ⟨(max ((blen d.V : Int) - 1 + d.e) (-((blen d.V : Int) - 1 + d.e))).toNat, by omega⟩
  have w := log_wide hd hv ht
  have w2 : ((t : Int) + 2) * (2 * (z : Int) + 128) ≤ 1066 * (2 * (z : Int) + 128) := Int.mul_le_mul_of_nonneg_right (by omega) (by omega)
  refine ⟨un_mid ul (by omega) (by omega), un_mid uh (by omega) (by omega), hle, m1, m2, fun k a b c d' hw => ?_⟩
  refine epw_fits (n := 2400) (by omega) hw hle (by rw [flU_un ul]; exact m1) ?_
  rw [flU_un ul, clU_un uh]
  omega
/-- A little more. -/
theorem back_more {hi : Dy} {z : Nat} {H : Int} (hz1 : 32 ≤ z) (hz2 : z ≤ 287) (uh : Un z H hi) (hH : H.natAbs ≤ 2400 * 2 ^ z) {n : Nat} (hn : n < 4096) :
    ∃ m, addO (mk hi.neg hi.V hi.e) (mk false n (-12)) = some m ∧ Fine m ∧ Mid m ∧ dw hi.neg hi.V hi.e ≤ dw m.neg m.V m.e ∧ (∃ M : Int, Un z M m ∧ M.natAbs < 2 ^ (z + 12)) ∧ ∀ k a b c d', EpW z m m k a b c d' → b ≤ 2 ^ z := by
  obtain ⟨j, hj⟩ : ∃ j, z = 12 + j := ⟨z - 12, by omega⟩
  have hW : 2 ^ 32 ≤ 2 ^ z := Nat.pow_le_pow_right (by decide) hz1
  have e32 : (2 : Nat) ^ 32 = 4294967296 := rfl
  rw [e32] at hW
  have e12 : 2 ^ (z + 12) = 2 ^ z * 4096 := Nat.pow_add ..
  have e64 : 2 ^ (z + 64) = 2 ^ z * 18446744073709551616 := Nat.pow_add ..
  have ej : 2 ^ z = 4096 * 2 ^ j := by rw [hj, Nat.pow_add]
  have hnb : blen n ≤ 12 := blen_le_iff.2 hn
  obtain ⟨a, ha⟩ := mk_some (g := false) (V := n) (e := -12) (by omega) (by omega) (fun _ => by omega)
  obtain ⟨k1, k2, k3, _⟩ := mk_fine ha
  have hP : ((n * 2 ^ j : Nat) : Int) = (n : Int) * ((2 ^ j : Nat) : Int) := Int.natCast_mul _ _
  have un : Un z ((n * 2 ^ j : Nat) : Int) a := by
    refine ⟨k1, ?_, ?_⟩
    · rcases mk_low ha (by omega) (by omega) with h | h
      · exact Or.inl h
      · exact Or.inr (by omega)
    · rw [k2, dw_shift (k := j) (e := -(z : Int)) false (by rw [held_id (by omega) (by omega), held_id (by omega) (by omega)]; omega), dw_us]
      rfl
  have hnj : n * 2 ^ j ≤ 2 ^ z := by
    rw [ej]
    exact Nat.mul_le_mul_right _ (by omega)
  obtain ⟨N, hN⟩ : ∃ N, n * 2 ^ j = N := ⟨_, rfl⟩
  rw [hN] at un hnj
  obtain ⟨h', hh⟩ := un_mkd uh (by omega) (by omega) hi.neg
  obtain ⟨m, hm, um⟩ := un_addB (un_made uh hh) un (by omega) (by omega) (by omega)
  have hadd : addO (mk hi.neg hi.V hi.e) (mk false n (-12)) = some m := by
    rw [hh, ha]
    exact hm
  have hle : dw hi.neg hi.V hi.e ≤ dw m.neg m.V m.e := by
    rw [uh.2.2, um.2.2]
    exact Int.mul_le_mul_of_nonneg_right (by omega) (by omega)
  have hM : (H + (N : Int)).natAbs ≤ 2401 * 2 ^ z := by omega
  refine ⟨m, hadd, um.1, un_mid um (by omega) (by omega), hle, ⟨_, um, by omega⟩, fun k a b c d' hw => ?_⟩
  refine epw_fits (n := 2401) (by omega) hw (Int.le_refl _) (by rw [flU_un um]; exact hM) ?_
  rw [flU_un um, clU_un um]
  omega
/-- A point isn't too wide from the scale 40 on; nor its interval. -/
theorem point_fits {n : Dy} {s : Nat} {k : Int} {a b c d : Nat} (hs : 40 ≤ s) (hs9 : s ≤ 8900) (hf : Fine n) (hm : Mid n) (hw : EpW s n n k a b c d) : b ≤ 2 ^ s := by
  have hW : 2 ^ 40 ≤ 2 ^ s := Nat.pow_le_pow_right (by decide) hs
  have e40 : (2 : Nat) ^ 40 = 1099511627776 := rfl
  rw [e40] at hW
  have h1 := mid_far (s := s) hf hm (by omega)
  have h2 := cl_fl s n
  exact epw_fits (n := 4097) (by omega) hw (Int.le_refl _) (by omega) (by omega)
theorem point_thin {n : Dy} {s : Nat} {k : Int} {a b c d p q : Nat} (hs : 8 ≤ s) (hs9 : s ≤ 8900) (hw : EpW s n n k a b c d) (hb : b ≤ 2 ^ s) (v1 : ExV false a s p) (v2 : ExV true b s q) : p ≤ q ∧ q ≤ p + (8 * s + 131 + 3 * k.natAbs * (2 * s + 128)) ∧ q ≤ 4 * 2 ^ s + 16 + 32 * k.natAbs := by
  obtain ⟨_, _, g2, g3, _⟩ := epw_at hs hw (Int.le_refl _)
  have h2 := cl_fl s n
  have h3 := fl_cl (s := s) (a := n) (b := n) (Int.le_refl _)
  have h4 : k.natAbs * (d - c) ≤ k.natAbs * 2 := Nat.mul_le_mul_left _ g3
  obtain ⟨_, hpq, _⟩ := ex_both (show a ≤ b by omega) hb v1 v2
  obtain ⟨w1, w2⟩ := ex_wide (show a ≤ b by omega) hb (by omega) hs v1 v2
  have h5 : 3 * k.natAbs * 144 ≤ 3 * k.natAbs * (2 * s + 128) := Nat.mul_le_mul_left _ (by omega)
  refine ⟨hpq, by omega, by omega⟩
end Go.Proofs.YtijhdlkfihjbiaaDoor
