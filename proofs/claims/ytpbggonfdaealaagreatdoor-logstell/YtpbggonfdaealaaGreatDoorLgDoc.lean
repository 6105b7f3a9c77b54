/- What Log tells against the document's own logarithm, 80 bits further: numbers alone. -/
import Derived.Test.YtpbggonfdaealaaGreatDoorLgLog
namespace Go.Proofs.YtpbggonfdaealaaGreatDoor

/-- The document's numerator and denominator: (M - 1) divided by (M + 1). -/
def dnX (V : Nat) : Nat := V - 2 ^ (blen V - 1)
def dnY (V : Nat) : Nat := V + 2 ^ (blen V - 1)
theorem dn_facts {V : Nat} (h : V ≠ 0) : 2 ^ (blen V - 1) ≤ V ∧ V < 2 * 2 ^ (blen V - 1) ∧ 3 * dnX V ≤ dnY V ∧ dnY V ≠ 0 := by
  have hb := blen_pos h
  have h1 : V < 2 ^ blen V := blen_le_iff.1 (Nat.le_refl _)
  have e : 2 ^ blen V = 2 * 2 ^ (blen V - 1) := by
    rw [show blen V = blen V - 1 + 1 by omega, Nat.pow_succ, Nat.mul_comm]
    rfl
  have h2 : 2 ^ (blen V - 1) ≤ V := by
    rcases Nat.lt_or_ge V (2 ^ (blen V - 1)) with h3 | h3
    · have := blen_le_iff.2 h3
      omega
    · exact h3
  rw [e] at h1
  unfold dnX dnY
  omega
/-- The document's logarithm, in parts of 2^-m; and how far off it may be. -/
def docV (A T : Nat) (t : Int) : Int := (2 * (A : Int)) + (if t < 0 then -((2 * (T : Int)) * (t.natAbs : Int)) else (2 * (T : Int)) * (t.natAbs : Int))
def docW (t : Int) : Nat := 1048576 * (2 * t.natAbs + 4)
theorem us_more {s : Nat} (hs : s ≤ 8000) : us s = us (s + 80) * 2 ^ 80 := by
  have h1 := us_ub (s := s) (by omega)
  have h2 := us_ub (s := s + 80) (by omega)
  have h3 : us s * 2 ^ s = us (s + 80) * 2 ^ 80 * 2 ^ s := by
    rw [h1, Nat.mul_assoc, ← Nat.pow_add, Nat.add_comm 80 s, h2]
  exact Nat.eq_of_mul_eq_mul_right (Nat.two_pow_pos s) h3
theorem tell_holds {d : Dy} {s : Nat} {L H t : Int} (hd : LogD d) (h : LogV d s L H) (ht : t = (blen d.V : Int) - 1 + d.e) (A T : Nat) (hA : dA (2 ^ (s + 80)) (dnX d.V) (dnY d.V) ((s + 80) / 3 + 3) = A) (hT : dA (2 ^ (s + 80)) 1 3 ((s + 80) / 3 + 3) = T) (Z : Nat) (hZ : 2 ^ 80 = Z) :
    L * (Z : Int) ≤ docV A T t + docW t ∧ docV A T t - docW t ≤ H * (Z : Int) := by
  have hb := blen_pos hd.2.2.1
  obtain ⟨f1, f2, f3, f4⟩ := dn_facts hd.2.2.1
  obtain ⟨b, hbb⟩ : ∃ b, blen d.V - 1 = b := ⟨_, rfl⟩
  obtain ⟨p, hp⟩ : ∃ p, 2 ^ b = p := ⟨_, rfl⟩
  have eX : dnX d.V = d.V - p := by unfold dnX; rw [hbb, hp]
  have eY : dnY d.V = d.V + p := by unfold dnY; rw [hbb, hp]
  rw [hbb, hp] at f1 f2
  have p0 : 0 < p := by rw [← hp]; exact Nat.two_pow_pos b
  have P8 : 8 ≤ 2 ^ (s + 80) := by
    have : 2 ^ 3 ≤ 2 ^ (s + 80) := Nat.pow_le_pow_right (by decide) (by omega)
    omega
  -- the fraction
  obtain ⟨r, hr⟩ := frac_of (X := dnX d.V) f4
  obtain ⟨r0, r1⟩ := frac_bd f4 f3 hr
  obtain ⟨q, hq⟩ := frac_of (X := d.V) (Y := p) (by omega)
  have pp := rnat_pos p0
  have vv := rnat_pos (Nat.pos_of_ne_zero hd.2.2.1)
  have q0 : 0 < q := by
    refine Classical.byContradiction fun h9 => ?_
    have h8 : q ≤ 0 := by grind
    have := rmul_le h8 (Rat.le_of_lt pp)
    grind
  have cY : ((dnY d.V : Nat) : Rat) = (d.V : Rat) + (p : Rat) := by rw [eY]; exact_mod_cast rfl
  have cX : ((dnX d.V : Nat) : Rat) + (p : Rat) = (d.V : Rat) := by
    have : dnX d.V + p = d.V := by omega
    exact_mod_cast congrArg (fun n : Nat => (n : Rat)) this
  have hq1 : (1 - r) * q = 1 + r := by
    refine rat_eq_of (c := (p : Rat) * (dnY d.V : Rat)) (Rat.mul_pos pp (rnat_pos (Nat.pos_of_ne_zero f4))) ?_
    rw [cY] at hr ⊢
    have e1 : (p : Rat) * ((d.V : Rat) + p) * ((1 - r) * q) = (((d.V : Rat) + p) - r * ((d.V : Rat) + p)) * (q * p) := by grind
    have e2 : (p : Rat) * ((d.V : Rat) + p) * (1 + r) = p * (((d.V : Rat) + p) + r * ((d.V : Rat) + p)) := by grind
    rw [e1, e2, hr, hq]
    grind
  have d1 := ln_of_dA (P := 2 ^ (s + 80)) (c := (s + 80) / 3 + 3) P8 (Nat.pos_of_ne_zero f4) hr f3 (at_tail r0 r1 (s + 80)) hq1
  rw [hA] at d1
  have d2 := ln2_of_dA (P := 2 ^ (s + 80)) (c := (s + 80) / 3 + 3) P8 (at_tail (by grind) (by grind) (s + 80))
  rw [hT] at d2
  -- the whole
  obtain ⟨_, _, hn⟩ := logd_exp hd
  have ex := hd.2.2.2.2.1
  have ex2 := hd.2.2.2.2.2
  have hfe := hd.1.2.1
  have hD : rat false d.V d.e = q * tw t := by
    have e := tw_up (E := d.e) (F := t) (k := b) (by omega) (by omega) (by omega)
    have pb : (p : Rat) = 2 ^ b := by rw [← hp]; exact nat_pow_cast b
    rw [tw_times, e, ← hq, pb]
    generalize (2 : Rat) ^ b = K
    grind
  have hD2 : if decide (t < 0) = true then rat false d.V d.e * 2 ^ t.natAbs = q else rat false d.V d.e = q * 2 ^ t.natAbs := by
    by_cases h0 : t < 0
    · rw [if_pos (decide_eq_true h0), hD]
      have e := tw_up (E := t) (F := 0) (k := t.natAbs) (by omega) (by decide) (by omega)
      rw [tw_zero] at e
      have : q * tw t * 2 ^ t.natAbs = q * (tw t * 2 ^ t.natAbs) := by grind
      rw [this, ← e]
      grind
    · rw [if_neg (by simpa using h0), hD]
      have e := tw_up (E := 0) (F := t) (k := t.natAbs) (by decide) (by omega) (by omega)
      rw [tw_zero] at e
      rw [e]
      grind
  obtain ⟨a0, ha0⟩ := parts_ex s L
  obtain ⟨b0, hb0⟩ := parts_ex s H
  obtain ⟨g1, g2⟩ := log_ends hd h ha0 hb0
  obtain ⟨v, hv⟩ := parts_ex (s + 80) (docV A T t)
  obtain ⟨o, ho⟩ := parts_ex (s + 80) (docW t : Int)
  have ho' : ((2 ^ (s + 80) : Nat) : Rat) * o = ((docW t : Nat) : Rat) := by
    have : (((docW t : Nat) : Int) : Rat) = ((docW t : Nat) : Rat) := by exact_mod_cast rfl
    rw [this] at ho
    grind
  have hv' : ((2 ^ (s + 80) : Nat) : Rat) * v = if decide (t < 0) = true then 2 * (A : Rat) - (t.natAbs : Rat) * (2 * (T : Rat)) else 2 * (A : Rat) + (t.natAbs : Rat) * (2 * (T : Rat)) := by
    rw [show ((2 ^ (s + 80) : Nat) : Rat) * v = v * ((2 ^ (s + 80) : Nat) : Rat) by grind, hv]
    have c1 : ((2 * (A : Int) : Int) : Rat) = 2 * (A : Rat) := by exact_mod_cast rfl
    have c2 : ((2 * (T : Int) * (t.natAbs : Int) : Int) : Rat) = 2 * (T : Rat) * (t.natAbs : Rat) := by exact_mod_cast rfl
    unfold docV
    by_cases h0 : t < 0
    · rw [if_pos h0, if_pos (decide_eq_true h0), Rat.intCast_add, Rat.intCast_neg, c1, c2]
      grind
    · rw [if_neg h0, if_neg (by simpa using h0), Rat.intCast_add, c1, c2]
      grind
  have key := doc_near (P := 2 ^ (s + 80)) (A := A) (T := T) (k := t.natAbs) (w := docW t) (decide (t < 0)) (Nat.two_pow_pos _) q0 d1.1 d1.2 d2.1 d2.2 hD2 hv' ho' (by unfold docW; omega) g1 g2
  have two := two_add s 80
  rw [hZ] at two
  have z0 := rnat_nonneg Z
  rw [two] at hv ho
  have P0 := rnat_pos (Nat.two_pow_pos s)
  generalize ((2 ^ s : Nat) : Rat) = W at *
  constructor
  · have zw : 0 ≤ (Z : Rat) * W := by have := rmul_le z0 (Rat.le_of_lt P0); grind
    have m := rmul_le key.1 zw
    have m2 : ((L * (Z : Int) : Int) : Rat) ≤ ((docV A T t + (docW t : Int) : Int) : Rat) := by
      have c1 : ((L * (Z : Int) : Int) : Rat) = (L : Rat) * (Z : Rat) := by exact_mod_cast rfl
      have c2 : ((docV A T t + (docW t : Int) : Int) : Rat) = ((docV A T t : Int) : Rat) + ((docW t : Int) : Rat) := by exact_mod_cast rfl
      rw [c1, c2, ← ha0, ← hv, ← ho]
      grind
    exact_mod_cast m2
  · have zw : 0 ≤ (Z : Rat) * W := by have := rmul_le z0 (Rat.le_of_lt P0); grind
    have m := rmul_le key.2 zw
    have m2 : ((docV A T t - (docW t : Int) : Int) : Rat) ≤ ((H * (Z : Int) : Int) : Rat) := by
      have c1 : ((H * (Z : Int) : Int) : Rat) = (H : Rat) * (Z : Rat) := by exact_mod_cast rfl
      have c2 : ((docV A T t - (docW t : Int) : Int) : Rat) = ((docV A T t : Int) : Rat) - ((docW t : Int) : Rat) := by exact_mod_cast rfl
      rw [c1, c2, ← hb0, ← hv, ← ho]
      grind
    exact_mod_cast m2
/-- .. as numbers' worths. -/
theorem tell_worth {lo hi : Dy} {s : Nat} {L H t : Int} (hs : s ≤ 8000) (ul : Un s L lo) (uh : Un s H hi) {o f : Dy} (A T : Nat) (ho : dw o.neg o.V o.e = docV A T t * (us (s + 80) : Int)) (hf : dw f.neg f.V f.e = (docW t : Int) * (us (s + 80) : Int))
    (Z : Nat) (hZ : 2 ^ 80 = Z) (h : L * (Z : Int) ≤ docV A T t + docW t ∧ docV A T t - docW t ≤ H * (Z : Int)) :
    dw lo.neg lo.V lo.e ≤ dw o.neg o.V o.e + dw f.neg f.V f.e ∧ dw o.neg o.V o.e + dw (!f.neg) f.V f.e ≤ dw hi.neg hi.V hi.e := by
  have e := us_more hs
  rw [hZ] at e
  have u0 : (0 : Int) ≤ (us (s + 80) : Int) := by omega
  rw [dw_neg, ho, hf, ul.2.2, uh.2.2, e, Int.natCast_mul]
  have m1 := Int.mul_le_mul_of_nonneg_right h.1 u0
  have m2 := Int.mul_le_mul_of_nonneg_right h.2 u0
  rw [Int.add_mul] at m1
  rw [Int.sub_mul] at m2
  have c : ∀ M : Int, M * ((us (s + 80) : Int) * (Z : Int)) = M * (Z : Int) * (us (s + 80) : Int) := fun M => by
    rw [Int.mul_assoc M, Int.mul_comm (us (s + 80) : Int)]
  rw [c, c]
  omega
end Go.Proofs.YtpbggonfdaealaaGreatDoor
