/- What layer 13 reckons: a number as a fraction near 1, times a power of two; sums of two logarithms; where they are. Numbers alone. -/
import Derived.Test.YtijhdlkfihjbiaaDoorK4
namespace Go.Proofs.YtijhdlkfihjbiaaDoor

/-- The exponent of the power of two near V. -/
def npE (V : Nat) : Nat := if 3 * 2 ^ (blen V - 1) ≤ 2 * V then blen V else blen V - 1
def npP (V : Nat) : Nat := 2 ^ npE V
def npX (V : Nat) : Nat := if V < npP V then npP V - V else V - npP V
def npY (V : Nat) : Nat := V + npP V
def npN (V : Nat) : Bool := decide (V < npP V)
theorem np_cases {V : Nat} (h : V ≠ 0) : (V < npP V ∧ 3 * npP V ≤ 4 * V ∧ npE V = blen V ∧ 2 * V ≥ 3 * 2 ^ (blen V - 1)) ∨ (npP V ≤ V ∧ 2 * V < 3 * npP V ∧ npE V = blen V - 1 ∧ 2 * V < 3 * 2 ^ (blen V - 1)) := by
  have hb := blen_pos h
  have h1 : V < 2 ^ blen V := blen_le_iff.1 (Nat.le_refl _)
  have h2 : 2 ^ (blen V - 1) ≤ V := by
    rcases Nat.lt_or_ge V (2 ^ (blen V - 1)) with h3 | h3
    · have := blen_le_iff.2 h3
      omega
    · exact h3
  have e : 2 ^ blen V = 2 * 2 ^ (blen V - 1) := by
    rw [show blen V = blen V - 1 + 1 by omega, Nat.pow_succ, Nat.mul_comm]
    rfl
  unfold npP npE
  by_cases hc : 3 * 2 ^ (blen V - 1) ≤ 2 * V
  · rw [if_pos hc]
    refine Or.inl ⟨h1, ?_, rfl, hc⟩
    rw [e]
    omega
  · rw [if_neg hc]
    exact Or.inr ⟨h2, by omega, rfl, by omega⟩
theorem np_pos (V : Nat) : 0 < npP V := Nat.two_pow_pos _
theorem np_neg {V : Nat} (h : V ≠ 0) (hn : npN V = true) : npY V + npX V = 2 * npP V ∧ npY V - npX V = 2 * V ∧ 7 * npX V ≤ npY V ∧ npX V ≠ 0 ∧ npX V = npP V - V ∧ V < npP V := by
  have hv : V < npP V := of_decide_eq_true hn
  have hx : npX V = npP V - V := if_pos hv
  have hy : npY V = V + npP V := rfl
  rcases np_cases h with ⟨_, h2, _⟩ | ⟨h2, _⟩
  · rw [hx, hy]
    omega
  · omega
theorem np_not {V : Nat} (h : V ≠ 0) (hn : npN V = false) : npY V + npX V = 2 * V ∧ npY V - npX V = 2 * npP V ∧ 5 * npX V < npY V ∧ npX V = V - npP V ∧ npP V ≤ V := by
  have hv : ¬ V < npP V := of_decide_eq_false hn
  have hx : npX V = V - npP V := if_neg hv
  have hy : npY V = V + npP V := rfl
  rcases np_cases h with ⟨h2, _⟩ | ⟨h1, h2, _⟩
  · omega
  · rw [hx, hy]
    omega
theorem np_third {V : Nat} (h : V ≠ 0) : 3 * npX V ≤ npY V ∧ npY V ≠ 0 ∧ npX V < npY V := by
  have hp := np_pos V
  have hy : npY V = V + npP V := rfl
  cases hn : npN V with
  | true => have := np_neg h hn; omega
  | false => have := np_not h hn; omega
theorem np_blen {V : Nat} (h : V ≠ 0) (hV : blen V ≤ 4000) : blen (npX V) ≤ 4096 ∧ blen (npY V) ≤ 4096 ∧ npE V ≤ 4000 ∧ blen V - 1 ≤ npE V ∧ npE V ≤ blen V := by
  have hE : npE V ≤ blen V ∧ blen V - 1 ≤ npE V := by
    unfold npE
    split <;> omega
  obtain ⟨K, hK⟩ : ∃ K, K = 4000 := ⟨_, rfl⟩
  have h1 : V < 2 ^ K := blen_le_iff.1 (by omega)
  have h2 : npP V ≤ 2 ^ K := Nat.pow_le_pow_right (by decide) (by omega)
  have h3 : (2 : Nat) ^ K * 2 = 2 ^ (K + 1) := (Nat.pow_succ ..).symm
  have hy : npY V < 2 ^ (K + 1) := by
    show V + npP V < _
    omega
  have h4 : blen (npY V) ≤ K + 1 := blen_le_iff.2 hy
  have h5 : npX V ≤ npY V := by have := np_third h; omega
  have h6 := blen_mono h5
  omega

/-- What a fraction stands for: (Y + X) divided by (Y - X), or the other way round. -/
def FrOf (X Y : Nat) (neg : Bool) (Q : Rat) : Prop := if neg then Q * ((Y : Rat) + X) = (Y : Rat) - X else Q * ((Y : Rat) - X) = (Y : Rat) + X
theorem rat_inv_pos {Z : Rat} (h : 0 < Z) : ∃ i : Rat, 0 < i ∧ i * Z = 1 := by
  have e : 1 / Z * Z = 1 := Rat.div_mul_cancel (Rat.ne_of_gt h)
  refine ⟨1 / Z, ?_, e⟩
  refine Classical.byContradiction fun h9 => ?_
  have h8 : 1 / Z ≤ 0 := by grind
  have := rmul_le h8 (Rat.le_of_lt h)
  grind
theorem rat_eq_of {a b c : Rat} (hc : 0 < c) (h : c * a = c * b) : a = b :=
  Rat.le_antisymm (rcancel (c := c) (by grind) hc) (rcancel (c := c) (by grind) hc)
theorem np_frac {V : Nat} (h : V ≠ 0) {Q : Rat} (hQ : Q * (npP V : Rat) = (V : Rat)) : FrOf (npX V) (npY V) (npN V) Q ∧ 0 < Q ∧ (npN V = true → 3 ≤ 4 * Q) ∧ (npN V = false → 2 * Q ≤ 3) := by
  have p0 := rnat_pos (np_pos V)
  have v0 := rnat_pos (Nat.pos_of_ne_zero h)
  have q0 : 0 < Q := by
    refine Classical.byContradiction fun h9 => ?_
    have h8 : Q ≤ 0 := by grind
    have := rmul_le h8 (Rat.le_of_lt p0)
    grind
  unfold FrOf
  cases hn : npN V with
  | true =>
    obtain ⟨h1, h2, h3, h4, h5, h6⟩ := np_neg h hn
    have e1 : (npY V : Rat) + npX V = 2 * npP V := by exact_mod_cast congrArg (fun n : Nat => (n : Rat)) h1
    have e2 : (npY V : Rat) = (V : Rat) + npP V := by exact_mod_cast rfl
    refine ⟨?_, q0, fun _ => ?_, fun h => by cases h⟩
    · show Q * ((npY V : Rat) + npX V) = (npY V : Rat) - npX V
      rw [e1]
      grind
    · rcases np_cases h with ⟨_, k2, _⟩ | ⟨k2, _⟩
      · have k3 : 3 * (npP V : Rat) ≤ 4 * (V : Rat) := by exact_mod_cast k2
        refine rcancel (c := (npP V : Rat)) ?_ p0
        grind
      · omega
  | false =>
    obtain ⟨h1, h2, h3, h4, h5⟩ := np_not h hn
    have e1 : (npY V : Rat) + npX V = 2 * V := by exact_mod_cast congrArg (fun n : Nat => (n : Rat)) h1
    have e2 : (npY V : Rat) = (V : Rat) + npP V := by exact_mod_cast rfl
    refine ⟨?_, q0, (fun h => by cases h), fun _ => ?_⟩
    · show Q * ((npY V : Rat) - npX V) = (npY V : Rat) + npX V
      rw [e1]
      grind
    · rcases np_cases h with ⟨k2, _⟩ | ⟨_, k2, _⟩
      · omega
      · have k3 : 2 * (V : Rat) ≤ 3 * (npP V : Rat) := by
          have : 2 * V ≤ 3 * npP V := by omega
          exact_mod_cast this
        refine rcancel (c := (npP V : Rat)) ?_ p0
        grind

/-- Both ends of a fraction's logarithm. -/
theorem fr_ends {X Y s lo hi : Nat} {neg : Bool} {Q : Rat} (hY : Y ≠ 0) (h3 : 3 * X ≤ Y) (h : AtB X Y s lo hi) (hQ : FrOf X Y neg Q) (q0 : 0 < Q) {a b : Rat}
    (ha : a * ((2 ^ s : Nat) : Rat) = if neg then -(2 * (hi : Rat)) else 2 * (lo : Rat)) (hb : b * ((2 ^ s : Nat) : Rat) = if neg then -(2 * (lo : Rat)) else 2 * (hi : Rat)) : LnGe Q a ∧ LnLe Q b := by
  obtain ⟨r, hr⟩ := frac_of (X := X) hY
  obtain ⟨r0, r1⟩ := frac_bd hY h3 hr
  obtain ⟨⟨c, h1⟩, h2⟩ := h r hr
  have y0 := rnat_pos (Nat.pos_of_ne_zero hY)
  have p0 := rnat_pos (Nat.two_pow_pos s)
  generalize ((2 ^ s : Nat) : Rat) = P at *
  obtain ⟨i, i0, hi1⟩ := rat_inv_pos (show 0 < 1 - r by grind)
  obtain ⟨q, hq⟩ : ∃ q : Rat, (1 - r) * q = 1 + r := ⟨i * (1 + r), by grind⟩
  have qp : 0 < q := by
    refine Classical.byContradiction fun h9 => ?_
    have h8 : q ≤ 0 := by grind
    have := rmul_le h8 (show 0 ≤ 1 - r by grind)
    grind
  -- of q itself
  have g1 : ∀ l : Rat, l * P = 2 * (lo : Rat) → LnGe q l := fun l hl => by
    refine LnGe.less (Rat.le_of_lt qp) (ln_at_ge r0 r1 hq c) (rcancel (c := P) ?_ p0)
    grind
  have g2 : ∀ u : Rat, u * P = 2 * (hi : Rat) → LnLe q u := fun u hu => by
    refine ln_at_le r0 r1 hq (fun M => rcancel (c := P) ?_ p0)
    have := h2 M
    grind
  cases neg with
  | false =>
    have hQ' : Q * ((Y : Rat) - X) = (Y : Rat) + X := hQ
    have e : Q = q := by
      refine rat_eq_of (show 0 < (Y : Rat) * (1 - r) from Rat.mul_pos y0 (by grind)) ?_
      have e1 : (Y : Rat) * (1 - r) * Q = Q * ((Y : Rat) - X) := by grind
      have e2 : (Y : Rat) * (1 - r) * q = (Y : Rat) * ((1 - r) * q) := by grind
      rw [e1, hQ', e2, hq]
      grind
    rw [e]
    exact ⟨g1 a ha, g2 b hb⟩
  | true =>
    have hQ' : Q * ((Y : Rat) + X) = (Y : Rat) - X := hQ
    have e : q * Q = 1 := by
      refine rat_eq_of (show 0 < (Y : Rat) * (1 - r) from Rat.mul_pos y0 (by grind)) ?_
      have e1 : (Y : Rat) * (1 - r) * (q * Q) = (Y : Rat) * ((1 - r) * q) * Q := by grind
      have e2 : (Y : Rat) * (1 + r) * Q = Q * ((Y : Rat) + X) := by grind
      rw [e1, hq, e2, hQ']
      grind
    have ha' : a * P = -(2 * (hi : Rat)) := ha
    have hb' : b * P = -(2 * (lo : Rat)) := hb
    have a1 := (g2 (-a) (by grind)).inv (Rat.le_of_lt q0) e
    have b1 := (g1 (-b) (by grind)).inv (Rat.le_of_lt q0) e
    have ea : - -a = a := by grind
    have eb : - -b = b := by grind
    rw [ea] at a1
    rw [eb] at b1
    exact ⟨a1, b1⟩
/-- Both ends of ln 2. -/
theorem two_ends {s lo hi : Nat} (h : Ln2B s lo hi) {a b : Rat} (ha : a * ((2 ^ s : Nat) : Rat) = (lo : Rat)) (hb : b * ((2 ^ s : Nat) : Rat) = (hi : Rat)) : LnGe 2 a ∧ LnLe 2 b := by
  obtain ⟨r, hr⟩ : ∃ x : Rat, 3 * x = 1 := ⟨1 / 3, by grind⟩
  obtain ⟨⟨c, h1⟩, h2⟩ := h r hr
  have p0 := rnat_pos (Nat.two_pow_pos s)
  generalize ((2 ^ s : Nat) : Rat) = P at *
  have r0 : 0 ≤ r := by grind
  have r1 : 3 * r ≤ 1 := by grind
  have hq : (1 - r) * 2 = 1 + r := by grind
  constructor
  · refine LnGe.less (by grind) (ln_at_ge r0 r1 hq c) (rcancel (c := P) ?_ p0)
    grind
  · refine ln_at_le r0 r1 hq (fun M => rcancel (c := P) ?_ p0)
    have := h2 M
    grind

/-- A power of two. -/
noncomputable def tw (E : Int) : Rat := rat false 1 E
theorem tw_pos (E : Int) : 0 < tw E := rat_pos (by decide)
theorem tw_zero : tw 0 = 1 := by
  have := rat_whole 1
  have e : ((1 : Nat) : Rat) = 1 := by exact_mod_cast rfl
  rw [e] at this
  exact this
theorem tw_up {E F : Int} {k : Nat} (h1 : -1073741824 ≤ E) (h2 : F ≤ 1073741824) (h : F = E + k) : tw F = tw E * 2 ^ k :=
  rat_up 1 (by rw [held_id (by omega) (by omega), held_id (by omega) (by omega)]; exact h)
theorem tw_times (V : Nat) (e : Int) : rat false V e = (V : Rat) * tw e := by
  have a := rat_key false V e
  have b := rat_key false 1 e
  have u := ub_pos
  have h : dw false V e = (V : Int) * dw false 1 e := by
    show ((V * 2 ^ sh e : Nat) : Int) = (V : Int) * ((1 * 2 ^ sh e : Nat) : Int)
    rw [Nat.one_mul, Int.natCast_mul]
  have h' : ((dw false V e : Int) : Rat) = (V : Rat) * ((dw false 1 e : Int) : Rat) := by
    rw [h]
    exact_mod_cast rfl
  refine rat_eq_of u ?_
  have e1 : (ub : Rat) * rat false V e = rat false V e * ub := by grind
  have e2 : (ub : Rat) * ((V : Rat) * tw e) = (V : Rat) * (rat false 1 e * ub) := by unfold tw; grind
  rw [e1, a, e2, b]
  exact h'
theorem tw_ends {E : Int} (h1 : -1073741824 ≤ E) (h2 : E ≤ 1073741824) {t u : Rat} (ht : LnGe 2 t) (hu : LnLe 2 u) :
    LnGe (tw E) (if 0 ≤ E then (E : Rat) * t else (E : Rat) * u) ∧ LnLe (tw E) (if 0 ≤ E then (E : Rat) * u else (E : Rat) * t) := by
  by_cases h : 0 ≤ E
  · rw [if_pos h, if_pos h]
    obtain ⟨k, rfl⟩ := Int.eq_ofNat_of_zero_le h
    have e := tw_up (E := 0) (F := (k : Int)) (k := k) (by decide) h2 (by omega)
    rw [tw_zero] at e
    have e1 : (1 : Rat) * 2 ^ k = 2 ^ k := by grind
    have e2 : (((k : Nat) : Int) : Rat) = (k : Rat) := by exact_mod_cast rfl
    rw [e, e1, e2]
    exact ⟨LnGe.pow (by grind) ht k, LnLe.pow (by grind) hu k⟩
  · rw [if_neg h, if_neg h]
    obtain ⟨k, hk⟩ : ∃ k : Nat, -E = (k : Int) := ⟨(-E).toNat, by omega⟩
    have e := tw_up (E := E) (F := 0) (k := k) h1 (by decide) (by omega)
    rw [tw_zero] at e
    have e2 : (E : Rat) = -(k : Rat) := by
      have : E = -(k : Int) := by omega
      rw [this]
      exact_mod_cast rfl
    have p : 2 ^ k * tw E = 1 := by grind
    have w0 := Rat.le_of_lt (tw_pos E)
    have a1 := (LnLe.pow (by grind) hu k).inv w0 p
    have b1 := (LnGe.pow (by grind) ht k).inv w0 p
    have e3 : (E : Rat) * u = -((k : Rat) * u) := by rw [e2]; grind
    have e4 : (E : Rat) * t = -((k : Rat) * t) := by rw [e2]; grind
    rw [e3, e4]
    exact ⟨a1, b1⟩

/-- What sum reckons: so often ln 2, and a fraction's logarithm. -/
def SumV (E : Int) (X Y : Nat) (neg : Bool) (s : Nat) (L H : Int) : Prop := ∃ l2 h2 lo hi : Nat, AtV false 1 3 (s + 1) l2 ∧ AtV true 1 3 (s + 1) h2 ∧ AtB X Y s lo hi ∧ lo ≤ hi ∧ hi ≤ lo + s + 64 ∧ (X = 0 → lo = 0 ∧ hi = 0) ∧
  L = (if 0 ≤ E then E * (l2 : Int) else E * (h2 : Int)) + (if neg then -(2 * (hi : Int)) else 2 * (lo : Int)) ∧ H = (if 0 ≤ E then E * (h2 : Int) else E * (l2 : Int)) + (if neg then -(2 * (lo : Int)) else 2 * (hi : Int))
/-- .. and where the logarithm is. -/
theorem sum_ends {E : Int} {X Y s : Nat} {neg : Bool} {L H : Int} {Q D : Rat} (hE1 : -1073741824 ≤ E) (hE2 : E ≤ 1073741824) (hY : Y ≠ 0) (h3 : 3 * X ≤ Y) (h : SumV E X Y neg s L H) (hQ : FrOf X Y neg Q) (q0 : 0 < Q) (hD : D = Q * tw E) {a b : Rat}
    (ha : a * ((2 ^ s : Nat) : Rat) = (L : Rat)) (hb : b * ((2 ^ s : Nat) : Rat) = (H : Rat)) : LnGe D a ∧ LnLe D b := by
  obtain ⟨l2, h2, lo, hi, v1, v2, hB, _, _, _, hL, hH⟩ := h
  obtain ⟨n2, _, _⟩ := ln2_both v1 v2
  have p0 := rnat_pos (Nat.two_pow_pos s)
  obtain ⟨i, i0, hi1⟩ := rat_inv_pos p0
  have key : ∀ z : Rat, z * i * ((2 ^ s : Nat) : Rat) = z := fun z => by
    have : z * i * ((2 ^ s : Nat) : Rat) = z * (i * ((2 ^ s : Nat) : Rat)) := by grind
    rw [this, hi1]; grind
  obtain ⟨t1, t2⟩ := two_ends n2 (key (l2 : Rat)) (key (h2 : Rat))
  obtain ⟨f1, f2⟩ := fr_ends hY h3 hB hQ q0 (key _) (key _)
  obtain ⟨e1, e2⟩ := tw_ends hE1 hE2 t1 t2
  have w0 := Rat.le_of_lt (tw_pos E)
  have m1 := LnGe.mul (Rat.le_of_lt q0) w0 f1 e1
  have m2 := LnLe.mul (Rat.le_of_lt q0) w0 f2 e2
  rw [← hD] at m1 m2
  have ea : a = (L : Rat) * i := by
    have : a * ((2 ^ s : Nat) : Rat) * i = a := by
      have : a * ((2 ^ s : Nat) : Rat) * i = a * (i * ((2 ^ s : Nat) : Rat)) := by grind
      rw [this, hi1]; grind
    rw [← this, ha]
  have eb : b = (H : Rat) * i := by
    have : b * ((2 ^ s : Nat) : Rat) * i = b := by
      have : b * ((2 ^ s : Nat) : Rat) * i = b * (i * ((2 ^ s : Nat) : Rat)) := by grind
      rw [this, hi1]; grind
    rw [← this, hb]
  have eL : (L : Rat) = (if 0 ≤ E then (E : Rat) * (l2 : Rat) else (E : Rat) * (h2 : Rat)) + (if neg then -(2 * (hi : Rat)) else 2 * (lo : Rat)) := by
    rw [hL]
    by_cases h0 : 0 ≤ E
    · rw [if_pos h0, if_pos h0]
      cases neg
      · show ((E * (l2 : Int) + 2 * (lo : Int) : Int) : Rat) = (E : Rat) * (l2 : Rat) + 2 * (lo : Rat)
        exact_mod_cast rfl
      · show ((E * (l2 : Int) + -(2 * (hi : Int)) : Int) : Rat) = (E : Rat) * (l2 : Rat) + -(2 * (hi : Rat))
        have c1 : ((E * (l2 : Int) : Int) : Rat) = (E : Rat) * (l2 : Rat) := by exact_mod_cast rfl
        have c2 : ((2 * (hi : Int) : Int) : Rat) = 2 * (hi : Rat) := by exact_mod_cast rfl
        rw [Rat.intCast_add, Rat.intCast_neg, c1, c2]
    · rw [if_neg h0, if_neg h0]
      cases neg
      · show ((E * (h2 : Int) + 2 * (lo : Int) : Int) : Rat) = (E : Rat) * (h2 : Rat) + 2 * (lo : Rat)
        exact_mod_cast rfl
      · show ((E * (h2 : Int) + -(2 * (hi : Int)) : Int) : Rat) = (E : Rat) * (h2 : Rat) + -(2 * (hi : Rat))
        have c1 : ((E * (h2 : Int) : Int) : Rat) = (E : Rat) * (h2 : Rat) := by exact_mod_cast rfl
        have c2 : ((2 * (hi : Int) : Int) : Rat) = 2 * (hi : Rat) := by exact_mod_cast rfl
        rw [Rat.intCast_add, Rat.intCast_neg, c1, c2]
  have eH : (H : Rat) = (if 0 ≤ E then (E : Rat) * (h2 : Rat) else (E : Rat) * (l2 : Rat)) + (if neg then -(2 * (lo : Rat)) else 2 * (hi : Rat)) := by
    rw [hH]
    by_cases h0 : 0 ≤ E
    · rw [if_pos h0, if_pos h0]
      cases neg
      · show ((E * (h2 : Int) + 2 * (hi : Int) : Int) : Rat) = (E : Rat) * (h2 : Rat) + 2 * (hi : Rat)
        exact_mod_cast rfl
      · show ((E * (h2 : Int) + -(2 * (lo : Int)) : Int) : Rat) = (E : Rat) * (h2 : Rat) + -(2 * (lo : Rat))
        have c1 : ((E * (h2 : Int) : Int) : Rat) = (E : Rat) * (h2 : Rat) := by exact_mod_cast rfl
        have c2 : ((2 * (lo : Int) : Int) : Rat) = 2 * (lo : Rat) := by exact_mod_cast rfl
        rw [Rat.intCast_add, Rat.intCast_neg, c1, c2]
    · rw [if_neg h0, if_neg h0]
      cases neg
      · show ((E * (l2 : Int) + 2 * (hi : Int) : Int) : Rat) = (E : Rat) * (l2 : Rat) + 2 * (hi : Rat)
        exact_mod_cast rfl
      · show ((E * (l2 : Int) + -(2 * (lo : Int)) : Int) : Rat) = (E : Rat) * (l2 : Rat) + -(2 * (lo : Rat))
        have c1 : ((E * (l2 : Int) : Int) : Rat) = (E : Rat) * (l2 : Rat) := by exact_mod_cast rfl
        have c2 : ((2 * (lo : Int) : Int) : Rat) = 2 * (lo : Rat) := by exact_mod_cast rfl
        rw [Rat.intCast_add, Rat.intCast_neg, c1, c2]
  have ga : a = (if neg then -(2 * (hi : Rat)) else 2 * (lo : Rat)) * i + (if 0 ≤ E then (E : Rat) * ((l2 : Rat) * i) else (E : Rat) * ((h2 : Rat) * i)) := by
    rw [ea, eL]
    by_cases h0 : 0 ≤ E
    · rw [if_pos h0, if_pos h0]; grind
    · rw [if_neg h0, if_neg h0]; grind
  have gb : b = (if neg then -(2 * (lo : Rat)) else 2 * (hi : Rat)) * i + (if 0 ≤ E then (E : Rat) * ((h2 : Rat) * i) else (E : Rat) * ((l2 : Rat) * i)) := by
    rw [eb, eH]
    by_cases h0 : 0 ≤ E
    · rw [if_pos h0, if_pos h0]; grind
    · rw [if_neg h0, if_neg h0]; grind
  rw [ga, gb]
  exact ⟨m1, m2⟩
/-- .. how wide, how far. -/
theorem sum_wide {E : Int} {X Y s k : Nat} {neg : Bool} {L H : Int} (hE1 : -(k : Int) ≤ E) (hE2 : E ≤ (k : Int)) (h : SumV E X Y neg s L H) : H - L ≤ 2 * (k : Int) + (2 * (s : Int) + 128) := by
  obtain ⟨l2, h2, lo, hi, v1, v2, hB, w1, w2, _, hL, hH⟩ := h
  obtain ⟨n2, n3, n4⟩ := ln2_both v1 v2
  have g : E * (h2 : Int) = E * (l2 : Int) + E * ((h2 : Int) - l2) := by rw [← Int.mul_add]; congr 1; omega
  obtain ⟨d, hd⟩ : ∃ d : Int, (h2 : Int) - l2 = d := ⟨_, rfl⟩
  rw [hd] at g
  have d0 : d = 0 ∨ d = 1 ∨ d = 2 := by omega
  have gd : -(2 * (k : Int)) ≤ E * d ∧ E * d ≤ 2 * (k : Int) ∧ (0 ≤ E → 0 ≤ E * d) ∧ (E < 0 → E * d ≤ 0) := by
    rcases d0 with rfl | rfl | rfl <;> omega
  rw [hL, hH]
  generalize E * (h2 : Int) = A at *
  generalize E * (l2 : Int) = B at *
  generalize E * d = C at *
  by_cases h0 : 0 ≤ E
  · rw [if_pos h0, if_pos h0]
    cases neg
    · show A + 2 * (hi : Int) - (B + 2 * (lo : Int)) ≤ _
      omega
    · show A + -(2 * (lo : Int)) - (B + -(2 * (hi : Int))) ≤ _
      omega
  · rw [if_neg h0, if_neg h0]
    cases neg
    · show B + 2 * (hi : Int) - (A + 2 * (lo : Int)) ≤ _
      omega
    · show B + -(2 * (lo : Int)) - (A + -(2 * (hi : Int))) ≤ _
      omega
end Go.Proofs.YtijhdlkfihjbiaaDoor
