/- What Log tells, as whole numbers of 2^-s: an interval in which the logarithm is, how wide, how far. Numbers alone. -/
import Derived.Test.YtijhdlkfihjbiaaDoorLgUn
namespace Go.Proofs.YtijhdlkfihjbiaaDoor

/-- A number of which there is a logarithm. -/
def LogD (d : Dy) : Prop := Fine d ∧ d.neg = false ∧ d.V ≠ 0 ∧ blen d.V ≤ 4000 ∧ -1048576 ≤ (blen d.V : Int) - 1 + d.e ∧ (blen d.V : Int) - 1 + d.e ≤ 1048576
def LogV (d : Dy) (s : Nat) (L H : Int) : Prop := ∃ L0 H0, SumV (d.e + npE d.V) (npX d.V) (npY d.V) (npN d.V) s L0 H0 ∧
  ((L = L0 ∧ H = H0) ∨ (npN d.V = true ∧ H = H0 ∧ L0 < L ∧ ∃ H', SumV (d.e + npE d.V - 1) 1 5 false s L H') ∨ (npN d.V = false ∧ L = L0 ∧ H < H0 ∧ ∃ L', SumV (d.e + npE d.V + 1) 1 7 true s L' H)) ∧
  (npX d.V = 0 → npY d.V = 2 → s = 64 → L = L0 ∧ H = H0)
theorem logd_exp {d : Dy} (h : LogD d) : -1048576 ≤ d.e + npE d.V ∧ d.e + npE d.V ≤ 1048577 ∧ -1073741824 ≤ d.e := by
  obtain ⟨h1, h2, h3, h4, h5, h6⟩ := h
  have := np_blen h3 h4
  have := blen_pos h3
  have := h1.1
  omega
theorem logd_rat {d : Dy} (h : LogD d) {Q : Rat} (hQ : Q * (npP d.V : Rat) = (d.V : Rat)) : rat false d.V d.e = Q * tw (d.e + npE d.V) := by
  have h1 := logd_exp h
  have e := tw_up (E := d.e) (F := d.e + npE d.V) (k := npE d.V) h1.2.2 (by omega) rfl
  have p : (npP d.V : Rat) = 2 ^ npE d.V := nat_pow_cast _
  rw [tw_times, ← hQ, e, p]
  generalize (2 : Rat) ^ npE d.V = K
  grind
theorem frac_q {V : Nat} : ∃ Q : Rat, Q * (npP V : Rat) = (V : Rat) := frac_of (Nat.pos_iff_ne_zero.1 (np_pos V))
theorem fr_above : FrOf 1 5 false (3 / 2) := by
  show (3 / 2 : Rat) * (((5 : Nat) : Rat) - ((1 : Nat) : Rat)) = ((5 : Nat) : Rat) + ((1 : Nat) : Rat)
  have e1 : ((1 : Nat) : Rat) = 1 := by exact_mod_cast rfl
  have e5 : ((5 : Nat) : Rat) = 5 := by exact_mod_cast rfl
  rw [e1, e5]
  grind
theorem fr_below : FrOf 1 7 true (3 / 4) := by
  show (3 / 4 : Rat) * (((7 : Nat) : Rat) + ((1 : Nat) : Rat)) = ((7 : Nat) : Rat) - ((1 : Nat) : Rat)
  have e1 : ((1 : Nat) : Rat) = 1 := by exact_mod_cast rfl
  have e5 : ((7 : Nat) : Rat) = 7 := by exact_mod_cast rfl
  rw [e1, e5]
  grind
theorem parts_ex (s : Nat) (L : Int) : ∃ a : Rat, a * ((2 ^ s : Nat) : Rat) = (L : Rat) := by
  obtain ⟨i, i0, h⟩ := rat_inv_pos (rnat_pos (Nat.two_pow_pos s))
  refine ⟨(L : Rat) * i, ?_⟩
  have : (L : Rat) * i * ((2 ^ s : Nat) : Rat) = (L : Rat) * (i * ((2 ^ s : Nat) : Rat)) := by grind
  rw [this, h]
  grind
theorem LnGe.more_of {D T L : Rat} (hT : 0 < T) (h : T ≤ D) (g : LnGe T L) : LnGe D L := by
  obtain ⟨a, b, a0, b0, e, k⟩ := g
  exact ⟨a, b, a0, b0, e, ELe.trans k (ELe.mono b0 (Rat.le_of_lt hT) Rat.le_refl h) a0 (by grind)⟩
theorem LnLe.less_of {D T H : Rat} (hD : 0 < D) (h : D ≤ T) (g : LnLe T H) : LnLe D H := by
  obtain ⟨a, b, a0, b0, e, k⟩ := g
  exact ⟨a, b, a0, b0, e, ELe.trans (ELe.mono b0 (Rat.le_of_lt hD) Rat.le_refl h) k b0 (Rat.le_of_lt hD)⟩
/-- The logarithm is in it. -/
theorem log_ends {d : Dy} {s : Nat} {L H : Int} (hd : LogD d) (h : LogV d s L H) {a b : Rat} (ha : a * ((2 ^ s : Nat) : Rat) = (L : Rat)) (hb : b * ((2 ^ s : Nat) : Rat) = (H : Rat)) : LnGe (rat false d.V d.e) a ∧ LnLe (rat false d.V d.e) b := by
  obtain ⟨L0, H0, h0, h1, _⟩ := h
  have hx := logd_exp hd
  obtain ⟨Q, hQ⟩ := frac_q (V := d.V)
  obtain ⟨f1, q0, f2, f3⟩ := np_frac hd.2.2.1 hQ
  obtain ⟨t1, t2, t3⟩ := np_third hd.2.2.1
  have hD := logd_rat hd hQ
  have w0 := tw_pos (d.e + npE d.V)
  have D0 : 0 < rat false d.V d.e := by rw [hD]; exact Rat.mul_pos q0 w0
  have base : ∀ {a b : Rat}, a * ((2 ^ s : Nat) : Rat) = (L0 : Rat) → b * ((2 ^ s : Nat) : Rat) = (H0 : Rat) → LnGe (rat false d.V d.e) a ∧ LnLe (rat false d.V d.e) b := fun ga gb => sum_ends (by omega) (by omega) t2 t1 h0 f1 q0 hD ga gb
  rcases h1 with ⟨rfl, rfl⟩ | ⟨hn, rfl, _, H', h2⟩ | ⟨hn, rfl, _, L', h2⟩
  · exact base ha hb
  · obtain ⟨a0, ga0⟩ := parts_ex s L0
    obtain ⟨b0, gb0⟩ := parts_ex s H'
    have k := sum_ends (Q := 3 / 2) (D := 3 / 2 * tw (d.e + npE d.V - 1)) (by omega) (by omega) (by decide) (by decide) h2 fr_above (by grind) rfl ha gb0
    have e := tw_up (E := d.e + npE d.V - 1) (F := d.e + npE d.V) (k := 1) (by omega) (by omega) (by omega)
    have e2 : (2 : Rat) ^ 1 = 2 := by rw [Rat.pow_succ, Rat.pow_zero]; grind
    rw [e2] at e
    have w1 := tw_pos (d.e + npE d.V - 1)
    refine ⟨k.1.more_of (Rat.mul_pos (by grind) w1) ?_, (base ga0 hb).2⟩
    rw [hD, e]
    have m := rmul_le (f2 hn) (Rat.le_of_lt w1)
    grind
  · obtain ⟨b0, gb0⟩ := parts_ex s H0
    obtain ⟨a0, ga0⟩ := parts_ex s L'
    have k := sum_ends (Q := 3 / 4) (D := 3 / 4 * tw (d.e + npE d.V + 1)) (by omega) (by omega) (by decide) (by decide) h2 fr_below (by grind) rfl ga0 hb
    have e := tw_up (E := d.e + npE d.V) (F := d.e + npE d.V + 1) (k := 1) (by omega) (by omega) (by omega)
    have e2 : (2 : Rat) ^ 1 = 2 := by rw [Rat.pow_succ, Rat.pow_zero]; grind
    rw [e2] at e
    refine ⟨(base ha gb0).1, k.2.less_of D0 ?_⟩
    rw [hD, e]
    have m := rmul_le (f3 hn) (Rat.le_of_lt w0)
    grind
/-- Two ends in order. -/
theorem ends_le {D T : Rat} {s : Nat} {L H : Int} (hD : 0 < D) (hDT : D ≤ T) (h1 : ∀ {a : Rat}, a * ((2 ^ s : Nat) : Rat) = (L : Rat) → LnGe D a) (h2 : ∀ {b : Rat}, b * ((2 ^ s : Nat) : Rat) = (H : Rat) → LnLe T b) : L ≤ H := by
  obtain ⟨a, ha⟩ := parts_ex s L
  obtain ⟨b, hb⟩ := parts_ex s H
  have h := ln_order hD hDT (h1 ha) (h2 hb)
  have p0 := rnat_pos (Nat.two_pow_pos s)
  have m := rmul_le h (Rat.le_of_lt p0)
  have m2 : (L : Rat) ≤ (H : Rat) := by grind
  exact_mod_cast m2
theorem log_pos {d : Dy} (hd : LogD d) : 0 < rat false d.V d.e := rat_pos hd.2.2.1
theorem log_order {d : Dy} {s : Nat} {L H : Int} (hd : LogD d) (h : LogV d s L H) : L ≤ H := by
  obtain ⟨a0, ga0⟩ := parts_ex s L
  obtain ⟨b0, gb0⟩ := parts_ex s H
  exact ends_le (s := s) (log_pos hd) Rat.le_refl (fun ga => (log_ends hd h ga gb0).1) (fun gb => (log_ends hd h ga0 gb).2)
/-- How wide. -/
theorem log_wide {d : Dy} {s : Nat} {L H : Int} {t : Nat} (hd : LogD d) (h : LogV d s L H) (ht : (t : Int) = max ((blen d.V : Int) - 1 + d.e) (-((blen d.V : Int) - 1 + d.e))) : H - L ≤ ((t : Int) + 2) * (2 * (s : Int) + 128) := by
  obtain ⟨L0, H0, h0, h1, _⟩ := h
  have hb := np_blen hd.2.2.1 hd.2.2.2.1
  have hp := blen_pos hd.2.2.1
  have w := sum_wide (k := t + 1) (by omega) (by omega) h0
  have e : ((t : Int) + 2) * (2 * (s : Int) + 128) = ((t : Int) + 1) * (2 * (s : Int)) + 128 * ((t : Int) + 1) + (2 * (s : Int) + 128) := by
    rw [show (t : Int) + 2 = ((t : Int) + 1) + 1 by omega, Int.add_mul, Int.one_mul, Int.mul_add, Int.mul_comm _ 128]
  have n : 0 ≤ ((t : Int) + 1) * (2 * (s : Int)) := Int.mul_nonneg (by omega) (by omega)
  rw [e]
  generalize ((t : Int) + 1) * (2 * (s : Int)) = Z at *
  rcases h1 with ⟨rfl, rfl⟩ | ⟨_, rfl, _, _⟩ | ⟨_, rfl, _, _⟩ <;> omega
theorem two_short {s l h : Nat} (h1 : AtV false 1 3 (s + 1) l) (h2 : AtV true 1 3 (s + 1) h) : l ≤ 2 * 2 ^ s ∧ h ≤ 2 * 2 ^ s + 2 := by
  obtain ⟨hB, _, h5⟩ := at_both (by decide) (by decide) h1 h2
  have := at_short (by decide) (by decide) hB
  rw [Nat.pow_succ] at this
  omega
theorem times_far {E : Int} {l W : Nat} (h1 : -1048580 ≤ E) (h2 : E ≤ 1048580) (h : l ≤ W) : (E * (l : Int)).natAbs ≤ 1048580 * W := by
  rw [Int.natAbs_mul, Int.natAbs_natCast]
  exact Nat.mul_le_mul (by omega) h
/-- How far. -/
theorem sum_far {E : Int} {X Y s : Nat} {neg : Bool} {L H : Int} (hs : 8 ≤ s) (hs9 : s ≤ 9000) (hE1 : -1048580 ≤ E) (hE2 : E ≤ 1048580) (hY : Y ≠ 0) (h3 : 3 * X ≤ Y) (h : SumV E X Y neg s L H) : L.natAbs < 2 ^ (s + 30) ∧ H.natAbs < 2 ^ (s + 30) := by
  obtain ⟨l2, h2, lo, hi, v1, v2, hB, w1, w2, _, hL, hH⟩ := h
  have ts := two_short v1 v2
  have ash := at_short hY h3 hB
  have hW : 2 ^ 8 ≤ 2 ^ s := Nat.pow_le_pow_right (by decide) hs
  have e : 2 ^ (s + 30) = 2 ^ s * 1073741824 := Nat.pow_add ..
  rw [e]
  generalize 2 ^ s = W at *
  have g1 := times_far hE1 hE2 (show l2 ≤ 2 * W + 2 by omega)
  have g2 := times_far hE1 hE2 (show h2 ≤ 2 * W + 2 by omega)
  generalize E * (l2 : Int) = A at *
  generalize E * (h2 : Int) = B at *
  have e8 : (2 : Nat) ^ 8 = 256 := rfl
  rw [e8] at hW
  have hA : -(2097160 * (W : Int) + 2097160) ≤ A ∧ A ≤ 2097160 * (W : Int) + 2097160 := by omega
  have hB' : -(2097160 * (W : Int) + 2097160) ≤ B ∧ B ≤ 2097160 * (W : Int) + 2097160 := by omega
  clear g1 g2 v1 v2 hB e
  have hl : -(2 * (hi : Int)) ≤ (if neg then -(2 * (hi : Int)) else 2 * (lo : Int)) ∧ (if neg then -(2 * (hi : Int)) else 2 * (lo : Int)) ≤ 2 * (hi : Int) := by cases neg <;> simp only [if_true, Bool.false_eq_true, if_false] <;> omega
  have hh : -(2 * (hi : Int)) ≤ (if neg then -(2 * (lo : Int)) else 2 * (hi : Int)) ∧ (if neg then -(2 * (lo : Int)) else 2 * (hi : Int)) ≤ 2 * (hi : Int) := by cases neg <;> simp only [if_true, Bool.false_eq_true, if_false] <;> omega
  generalize (if neg then -(2 * (hi : Int)) else 2 * (lo : Int)) = F at *
  generalize (if neg then -(2 * (lo : Int)) else 2 * (hi : Int)) = G at *
  have hi9 : hi ≤ W + 9064 := by omega
  by_cases h0 : 0 ≤ E
  · rw [if_pos h0] at hL hH
    clear h0
    subst hL hH
    constructor <;> omega
  · rw [if_neg h0] at hL hH
    clear h0
    subst hL hH
    constructor <;> omega
theorem log_far {d : Dy} {s : Nat} {L H : Int} (hd : LogD d) (hs : 8 ≤ s) (hs9 : s ≤ 9000) (h : LogV d s L H) : L.natAbs < 2 ^ (s + 30) ∧ H.natAbs < 2 ^ (s + 30) := by
  obtain ⟨L0, H0, h0, h1, _⟩ := h
  have hx := logd_exp hd
  obtain ⟨t1, t2, t3⟩ := np_third hd.2.2.1
  have f0 := sum_far hs hs9 (by omega) (by omega) t2 t1 h0
  rcases h1 with ⟨rfl, rfl⟩ | ⟨_, rfl, _, H', h2⟩ | ⟨_, rfl, _, L', h2⟩
  · exact f0
  · exact ⟨(sum_far hs hs9 (by omega) (by omega) (by decide) (by decide) h2).1, f0.2⟩
  · exact ⟨f0.1, (sum_far hs hs9 (by omega) (by omega) (by decide) (by decide) h2).2⟩
/-- Of 1. -/
theorem np_one : npE 1 = 0 ∧ npX 1 = 0 ∧ npY 1 = 2 ∧ npN 1 = false := by decide
theorem log_one {d : Dy} {s : Nat} {L H : Int} (hd : LogD d) (h1 : d.V = 1) (h2 : d.e = 0) (h : LogV d s L H) : L = 0 ∧ H = 0 := by
  have hr : rat false d.V d.e = 1 := by rw [h1, h2]; exact tw_zero
  obtain ⟨a0, ga0⟩ := parts_ex s L
  obtain ⟨b0, gb0⟩ := parts_ex s H
  have z : ((0 : Int) : Rat) = 0 := by exact_mod_cast rfl
  have o1 : L ≤ 0 := ends_le (D := 1) (T := 1) (s := s) (by grind) Rat.le_refl (fun ga => by have := (log_ends hd h ga gb0).1; rw [hr] at this; exact this) (fun gb => by
    rw [z] at gb
    have p0 := rnat_pos (Nat.two_pow_pos s)
    refine LnLe.one.more (rcancel (c := ((2 ^ s : Nat) : Rat)) ?_ p0)
    grind)
  have o2 : 0 ≤ H := ends_le (D := 1) (T := 1) (s := s) (by grind) Rat.le_refl (fun ga => by
    rw [z] at ga
    have p0 := rnat_pos (Nat.two_pow_pos s)
    refine LnGe.one.less (by grind) (rcancel (c := ((2 ^ s : Nat) : Rat)) ?_ p0)
    grind) (fun gb => by have := (log_ends hd h ga0 gb).2; rw [hr] at this; exact this)
  obtain ⟨L0, H0, h0, h3, _⟩ := h
  rw [h1, h2] at h0 h3
  obtain ⟨n1, n2, n3, n4⟩ := np_one
  rw [n1, n2, n3, n4] at h0
  rw [n4] at h3
  obtain ⟨l2, g2, lo, hi, v1, v2, hB, w1, w2, k, hL, hH⟩ := h0
  obtain ⟨rfl, rfl⟩ := k rfl
  have hL' : L0 = 0 := by rw [hL]; simp
  have hH' : H0 = 0 := by rw [hH]; simp
  rcases h3 with ⟨rfl, rfl⟩ | ⟨h4, _⟩ | ⟨_, rfl, h5, _⟩
  · exact ⟨hL', hH'⟩
  · cases h4
  · omega
/-- What one end of atanh comes to is told by what goes in. -/
theorem atv_uniq {g : Bool} {X Y s a b : Nat} (h1 : AtV g X Y s a) (h2 : AtV g X Y s b) : a = b := by
  obtain ⟨c, _, c1, c2, ha⟩ := h1
  obtain ⟨d, _, d1, d2, hb⟩ := h2
  have e : c = d := by
    rcases Nat.lt_trichotomy c d with h | h | h
    · have := d2 c h; omega
    · exact h
    · have := c2 d h; omega
  subst e
  rw [ha, hb]
/-- Of a fraction that is 0. -/
theorem atv_zero {g : Bool} {Y s a : Nat} (h : AtV g 0 Y s a) : a = 0 := by
  obtain ⟨c, _, c1, c2, ha⟩ := h
  have e0 : ov g (0 * 2 ^ (s + 64)) Y = 0 := by rw [Nat.zero_mul]; exact ov_zero g Y
  rw [e0] at c1 c2 ha
  have hc : c = 0 := by
    rcases Nat.eq_zero_or_pos c with h | h
    · exact h
    · have h3 := c2 0 h
      rw [pk_zero] at h3
      omega
  subst hc
  rw [pk_zero] at ha
  rw [ha]
  unfold tolN
  have : (sn (tk1 g (0 * 0) (Y * Y) 0) 0 + (if g = true then 0 + 0 else 0)) = 0 := by cases g <;> rfl
  rw [this]
  exact ov_zero g _
end Go.Proofs.YtijhdlkfihjbiaaDoor
