/- What is between and what the document reckons: numbers alone. -/
import Derived.Test.YtngldpmnbdgkiaaDoorSrLaw
namespace Go.Proofs.YtngldpmnbdgkiaaDoor

theorem two_add (s t : Nat) : ((2 ^ (s + t) : Nat) : Rat) = ((2 ^ t : Nat) : Rat) * ((2 ^ s : Nat) : Rat) := by
  rw [Nat.pow_add, Nat.mul_comm]; exact_mod_cast rfl
theorem frac_of {X Y : Nat} (hY : Y ≠ 0) : ∃ x : Rat, x * (Y : Rat) = (X : Rat) := by
  have h0 := rnat_pos (Nat.pos_of_ne_zero hY)
  refine ⟨(X : Rat) / (Y : Rat), ?_⟩
  exact Rat.div_mul_cancel (Rat.ne_of_gt h0)
theorem frac_bd {X Y : Nat} {x : Rat} (hY : Y ≠ 0) (h3 : 3 * X ≤ Y) (hx : x * (Y : Rat) = (X : Rat)) : 0 ≤ x ∧ 3 * x ≤ 1 := by
  have d0 := rnat_pos (Nat.pos_of_ne_zero hY)
  have n0 := rnat_nonneg X
  have h3' : 3 * (X : Rat) ≤ Y := by exact_mod_cast h3
  exact ⟨rcancel (c := (Y : Rat)) (by grind) d0, rcancel (c := (Y : Rat)) (by grind) d0⟩
theorem cast_le {a b : Nat} (h : (a : Rat) ≤ (b : Rat)) : a ≤ b := by exact_mod_cast h

/-- atanh: what is told and what the document reckons, 80 bits further. -/
theorem at_holds {X Y s lo hi : Nat} (hY : Y ≠ 0) (h3 : 3 * X ≤ Y) (h : AtB X Y s lo hi) :
    lo * 2 ^ 80 ≤ dA (2 ^ (s + 80)) X Y ((s + 80) / 3 + 3) + 1048576 ∧ dA (2 ^ (s + 80)) X Y ((s + 80) / 3 + 3) ≤ hi * 2 ^ 80 := by
  obtain ⟨x, hx⟩ := frac_of (X := X) hY
  obtain ⟨x0, x1⟩ := frac_bd hY h3 hx
  obtain ⟨⟨c, h1⟩, h2⟩ := h x hx
  have t := at_tail x0 x1 (s + 80)
  have P8 : 8 ≤ 2 ^ (s + 80) := by
    have : 2 ^ 3 ≤ 2 ^ (s + 80) := Nat.pow_le_pow_right (by decide) (by omega)
    omega
  obtain ⟨d1, d2⟩ := dA_spec (P := 2 ^ (s + 80)) (num := X) (den := Y) (c := (s + 80) / 3 + 3) P8 (Nat.pos_of_ne_zero hY) hx h3 t
  obtain ⟨V, hV⟩ : ∃ V, dA (2 ^ (s + 80)) X Y ((s + 80) / 3 + 3) = V := ⟨_, rfl⟩
  rw [hV] at d1 d2 ⊢
  have e := two_add s 80
  rw [e] at d1 d2
  have q0 := rnat_nonneg (2 ^ 80)
  have d3 := d2 c
  have h4 := h2 ((s + 80) / 3 + 3)
  have m1 := rmul_le h1 q0
  have m2 := rmul_le h4 q0
  clear d2 h2 h t e hV P8
  have e1 : ((lo * 2 ^ 80 : Nat) : Rat) = (lo : Rat) * ((2 ^ 80 : Nat) : Rat) := by exact_mod_cast rfl
  have e2 : ((V + 1048576 : Nat) : Rat) = (V : Rat) + 1048576 := by exact_mod_cast rfl
  have e3 : ((hi * 2 ^ 80 : Nat) : Rat) = (hi : Rat) * ((2 ^ 80 : Nat) : Rat) := by exact_mod_cast rfl
  constructor
  · refine cast_le ?_
    rw [e1, e2]
    generalize ((2 ^ s : Nat) : Rat) = P at *
    generalize ((2 ^ 80 : Nat) : Rat) = T at *
    grind
  · refine cast_le ?_
    rw [e3]
    generalize ((2 ^ s : Nat) : Rat) = P at *
    generalize ((2 ^ 80 : Nat) : Rat) = T at *
    grind

theorem ex_frac (a s : Nat) (h : a ≤ 2 ^ s) : ∃ x : Rat, ((2 ^ s : Nat) : Rat) * x = (a : Rat) ∧ 0 ≤ x ∧ x ≤ 1 := by
  have p0 := rnat_pos (Nat.two_pow_pos s)
  obtain ⟨x, hx⟩ := frac_of (X := a) (Y := 2 ^ s) (Nat.pos_iff_ne_zero.1 (Nat.two_pow_pos s))
  have a0 := rnat_nonneg a
  have a1 : (a : Rat) ≤ ((2 ^ s : Nat) : Rat) := by exact_mod_cast h
  refine ⟨x, by grind, rcancel (c := ((2 ^ s : Nat) : Rat)) (by grind) p0, rcancel (c := ((2 ^ s : Nat) : Rat)) (by grind) p0⟩
/-- exp, the lower end. -/
theorem ex_low {a s lo K : Nat} (ha : a ≤ 2 ^ s) (hK : 2 ^ (s + 80) ≤ fac K) (h : ∀ x : Rat, ((2 ^ s : Nat) : Rat) * x = (a : Rat) → ∃ c, (lo : Rat) ≤ ((2 ^ s : Nat) : Rat) * eS x c) :
    lo * 2 ^ 80 ≤ de (2 ^ (s + 80)) (a * 2 ^ 80) K 1 + 1048576 := by
  obtain ⟨x, hx, x0, x1⟩ := ex_frac a s ha
  obtain ⟨c, h1⟩ := h x hx
  have e := two_add s 80
  have e0 : ((a * 2 ^ 80 : Nat) : Rat) = (a : Rat) * ((2 ^ 80 : Nat) : Rat) := by exact_mod_cast rfl
  have hx2 : ((a * 2 ^ 80 : Nat) : Rat) = ((2 ^ (s + 80) : Nat) : Rat) * x := by rw [e, e0]; grind
  obtain ⟨d1, d2⟩ := de_spec (P := 2 ^ (s + 80)) (a := a * 2 ^ 80) (c := K) (Nat.two_pow_pos _) hx2 x0 x1 (ex_tail x0 x1 hK)
  obtain ⟨V, hV⟩ : ∃ V, de (2 ^ (s + 80)) (a * 2 ^ 80) K 1 = V := ⟨_, rfl⟩
  rw [hV] at d1 d2 ⊢
  have d3 : ((2 ^ (s + 80) : Nat) : Rat) * eS x c ≤ (V : Rat) + 8 := d2 c
  rw [e] at d3
  have q0 := rnat_nonneg (2 ^ 80)
  have m1 := rmul_le h1 q0
  clear d1 d2 e0 hx2 e hV h hK
  refine cast_le ?_
  have e1 : ((lo * 2 ^ 80 : Nat) : Rat) = (lo : Rat) * ((2 ^ 80 : Nat) : Rat) := by exact_mod_cast rfl
  have e2 : ((V + 1048576 : Nat) : Rat) = (V : Rat) + 1048576 := by exact_mod_cast rfl
  rw [e1, e2]
  generalize ((2 ^ s : Nat) : Rat) = P at *
  generalize ((2 ^ 80 : Nat) : Rat) = T at *
  grind
/-- .. the upper end. -/
theorem ex_high {b s hi K : Nat} (hb : b ≤ 2 ^ s) (h : ∀ x : Rat, ((2 ^ s : Nat) : Rat) * x = (b : Rat) → ∀ c, ((2 ^ s : Nat) : Rat) * eS x c ≤ (hi : Rat)) :
    de (2 ^ (s + 80)) (b * 2 ^ 80) K 1 ≤ hi * 2 ^ 80 := by
  obtain ⟨x, hx, x0, x1⟩ := ex_frac b s hb
  have h1 := h x hx K
  have e := two_add s 80
  have e0 : ((b * 2 ^ 80 : Nat) : Rat) = (b : Rat) * ((2 ^ 80 : Nat) : Rat) := by exact_mod_cast rfl
  have hx2 : ((b * 2 ^ 80 : Nat) : Rat) = ((2 ^ (s + 80) : Nat) : Rat) * x := by rw [e, e0]; grind
  have d1 : ((de (2 ^ (s + 80)) (b * 2 ^ 80) K 1 : Nat) : Rat) ≤ ((2 ^ (s + 80) : Nat) : Rat) * eS x K := de_le (Nat.two_pow_pos _) hx2 x0 K 1 (by decide)
  obtain ⟨V, hV⟩ : ∃ V, de (2 ^ (s + 80)) (b * 2 ^ 80) K 1 = V := ⟨_, rfl⟩
  rw [hV, e] at d1
  rw [hV]
  have q0 := rnat_nonneg (2 ^ 80)
  have m1 := rmul_le h1 q0
  clear e0 hx2 e hV h
  refine cast_le ?_
  have e1 : ((hi * 2 ^ 80 : Nat) : Rat) = (hi : Rat) * ((2 ^ 80 : Nat) : Rat) := by exact_mod_cast rfl
  rw [e1]
  generalize ((2 ^ s : Nat) : Rat) = P at *
  generalize ((2 ^ 80 : Nat) : Rat) = T at *
  grind
end Go.Proofs.YtngldpmnbdgkiaaDoor
