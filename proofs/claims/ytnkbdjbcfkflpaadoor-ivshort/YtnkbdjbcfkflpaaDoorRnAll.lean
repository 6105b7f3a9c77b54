/- The walks of round.laid, checked, To. -/
import Derived.Test.YtnkbdjbcfkflpaaDoorK3
namespace Go.Proofs.YtnkbdjbcfkflpaaDoor
open Go.RowKit

theorem nO_shift (g : Bool) {V k : Nat} {e : Int} (h1 : -1073741824 ≤ e) (h2 : e + k ≤ 1073741824) (hV : V ≠ 0) : nO g (V * 2 ^ k) e = nO g V (e + k) := by
  have hV2 : V * 2 ^ k ≠ 0 := Nat.mul_ne_zero hV (Nat.pos_iff_ne_zero.1 (Nat.two_pow_pos _))
  obtain ⟨m, hm⟩ := low_spec (Nat.pos_of_ne_zero hV)
  have hl : low (V * 2 ^ k) = low V + k := low_eq (m := m) (by
    generalize low V = l at hm
    rw [hm, Nat.pow_add, Nat.mul_assoc, Nat.mul_comm (2 * m + 1), ← Nat.mul_assoc])
  rw [nO_pos g _ hV2, nO_pos g _ hV, held_id h1 (by omega), held_id (by omega) h2, hl, Nat.pow_add, Nat.mul_div_mul_right _ _ (Nat.two_pow_pos _)]
  congr 1
  omega
/-- So many units, as bits. -/
theorem ex_round {L U : Nat} {u : Int} (hu : u = (L : Int) - 1074) (hL : L ≤ 2045) (hU : U ≤ 9007199254740992) (h2 : 0 < L → 4503599627370496 ≤ U) :
    exD (nO false U u) = if L * 4503599627370496 + U = 9218868437227405312 then (0, false) else (L * 4503599627370496 + U, true) := by
  have own : ∀ (L' U' : Nat), L' ≤ 2045 → U' < 9007199254740992 → (0 < L' → 4503599627370496 ≤ U') → exD (nO false U' ((L' : Int) - 1074)) = (L' * 4503599627370496 + U', true) := by
    intro L' U' hL' hU' h2'
    obtain ⟨f1, f2, f3, f4, f5⟩ := f_of (L := L') (M := U') false (X := L' * 4503599627370496 + U') hU' h2' hL' (by simp)
    have hb := exD_back f1 f2
    unfold fO at hb
    rw [f3, f5, fe, f4] at hb
    rw [hb]
    split
    · rename_i h0
      have : L' = 0 := by
        rcases Nat.eq_zero_or_pos L' with h | h
        · exact h
        · have := h2' h; omega
      rw [h0, this]
    · rfl
  rcases Nat.lt_or_ge U 9007199254740992 with h | h
  · rw [if_neg (by omega), hu]
    exact own L U hL h h2
  · have e0 : U = 9007199254740992 := by omega
    subst e0
    have e1 : nO false 9007199254740992 u = nO false 4503599627370496 (((L + 1 : Nat) : Int) - 1074) := by
      have := nO_shift false (V := 4503599627370496) (k := 1) (e := u) (by omega) (by omega) (by decide)
      rw [show (4503599627370496 : Nat) * 2 ^ 1 = 9007199254740992 from by decide] at this
      rw [this]
      congr 1
      omega
    rcases Nat.lt_or_ge L 2045 with hL' | hL'
    · rw [if_neg (by omega), e1, own (L + 1) 4503599627370496 (by omega) (by decide) (fun _ => Nat.le_refl _), show (L + 1) * 4503599627370496 + 4503599627370496 = L * 4503599627370496 + 9007199254740992 by omega]
    · have e2 : L = 2045 := by omega
      subst e2
      rw [if_pos (by decide), e1]
      have e3 := nO_shift false (V := 1) (k := 52) (e := ((2045 + 1 : Nat) : Int) - 1074) (by decide) (by decide) (by decide)
      rw [show 1 * 2 ^ 52 = 4503599627370496 from by decide] at e3
      rw [e3]
      decide
theorem mk_units {U : Nat} {u : Int} (h1 : -1074 ≤ u) (h2 : u ≤ 971) (hU : U ≤ 9007199254740992) : mk false U u = some (nO false U u) := by
  rw [mk_nO]
  by_cases h0 : U = 0
  · subst h0; rfl
  · have hl := low_le_blen U
    have hb : blen U ≤ 54 := (blen_le_iff (k := 54)).2 (by omega)
    have hh : held u = u := held_id (by omega) (by omega)
    have hV : U / 2 ^ low U ≠ 0 := fun h => h0 (odd_part_zero.1 h)
    rw [nO_pos false u h0]
    show toldD false (U / 2 ^ low U) (held u + low U) = _
    rw [toldD, if_neg hV, if_neg (by omega)]
theorem nO_bd (U : Nat) (u : Int) (h1 : -1074 ≤ u) (h2 : u ≤ 971) (hU : U ≤ 9007199254740992) : nO (nO false U u).neg (nO false U u).V (nO false U u).e = nO false U u := by
  have hf := (mk_fine (mk_units h1 h2 hU)).1
  exact nO_self (nO_odd false U u) (by have := hf.1; omega) (by have := hf.2.1; omega)

/-- The units' place and number. -/
theorem ru_facts {V : Nat} {e : Int} (hV : V ≠ 0) (h1 : -1073741824 ≤ e) (h2 : e ≤ 1073741824) (ht : rtop V e ≤ 1023) :
    ∃ L : Nat, (ru V e + 1074).toNat = L ∧ ru V e = (L : Int) - 1074 ∧ L ≤ 2045 ∧ e ≤ ru V e + 63 ∧ rU V e (ru V e) < 9007199254740992 ∧ (0 < L → 4503599627370496 ≤ rU V e (ru V e)) := by
  obtain ⟨a, b, c, _, _⟩ := rnd_low hV h1 h2 ht
  have hB := blen_pos hV
  have hr : ru V e = max (rtop V e - 52) (-1074) := rfl
  have hrt : rtop V e = (blen V : Int) - 1 + e := rfl
  refine ⟨(ru V e + 1074).toNat, rfl, by omega, by omega, by omega, ?_⟩
  have hlt := lt_blen V
  have hge := blen_le hV
  generalize ru V e = u at hr ⊢
  rw [hrt] at hr ht
  clear a b c hrt
  by_cases hue : u ≤ e
  · obtain ⟨k, hk⟩ : ∃ k, (e - u).toNat = k := ⟨_, rfl⟩
    rw [rU, if_pos hue, hk]
    have hbl := blen_shl (n := k) hV
    refine ⟨(blen_le_iff (k := 53)).1 (by rw [hbl]; omega), fun h => ?_⟩
    have h5 : blen (V * 2 ^ k) = 53 := by rw [hbl]; omega
    have h6 := blen_le (x := V * 2 ^ k) (fun h0 => by rw [h0] at h5; cases h5)
    rw [h5] at h6
    exact h6
  · obtain ⟨k, hk⟩ : ∃ k, (u - e - 1).toNat = k := ⟨_, rfl⟩
    rw [rU, if_neg hue, hk, Nat.div_div_eq_div_mul, ← Nat.pow_succ]
    constructor
    · rw [Nat.div_lt_iff_lt_mul (Nat.two_pow_pos _), show (9007199254740992 : Nat) = 2 ^ 53 from by decide, ← Nat.pow_add]
      exact blen_le_iff.1 (by omega)
    · intro h
      rw [Nat.le_div_iff_mul_le (Nat.two_pow_pos _), show (4503599627370496 : Nat) = 2 ^ 52 from by decide, ← Nat.pow_add, show 52 + (k + 1) = blen V - 1 by omega]
      exact hge


end Go.Proofs.YtnkbdjbcfkflpaaDoor
