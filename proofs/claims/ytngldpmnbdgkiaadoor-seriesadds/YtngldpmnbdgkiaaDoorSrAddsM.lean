/- What the laws SeriesAdds and SeriesScales rest on: numbers alone. -/
import Derived.Test.YtngldpmnbdgkiaaDoorSrHold
import Derived.Test.YtngldpmnbdgkiaaDoorSrExpAt
namespace Go.Proofs.YtngldpmnbdgkiaaDoor

theorem rmul_both {a b c d : Rat} (h1 : a ≤ b) (h2 : c ≤ d) (ha : 0 ≤ a) (hd : 0 ≤ d) : a * c ≤ b * d := by
  have m1 := rmul_le h2 ha
  have m2 := rmul_le h1 hd
  grind
/-- exp of a sum and the product of both. -/
theorem ex_adds {a b s p q u v l h : Nat} (ha : a ≤ 2 ^ s) (hb : b ≤ 2 ^ s) (h1 : ExB a a s p q) (h2 : ExB b b s u v) (h3 : ExB (a + b) (a + b) s l h) : p * u ≤ h * 2 ^ s ∧ l * 2 ^ s ≤ q * v := by
  obtain ⟨x, hx, x0, x1⟩ := ex_frac a s ha
  obtain ⟨y, hy, y0, y1⟩ := ex_frac b s hb
  have hxy : ((2 ^ s : Nat) : Rat) * (x + y) = ((a + b : Nat) : Rat) := by
    have e : ((a + b : Nat) : Rat) = (a : Rat) + (b : Rat) := by exact_mod_cast rfl
    rw [e]; grind
  obtain ⟨c1, l1⟩ := h1.1 x hx
  have g1 := h1.2 x hx
  obtain ⟨c2, l2⟩ := h2.1 y hy
  have g2 := h2.2 y hy
  obtain ⟨c3, l3⟩ := h3.1 (x + y) hxy
  have g3 := h3.2 (x + y) hxy (c1 + c2)
  have P0 := rnat_nonneg (2 ^ s)
  have g4 := g1 c3
  have g5 := g2 c3
  have m1 := eS_mul_le x0 y0 c1 c2
  have m2 := eS_add_le x0 y0 c3
  have n1 := eS_nonneg x0 c1
  have n2 := eS_nonneg y0 c2
  have n3 := eS_nonneg x0 c3
  have n4 := eS_nonneg y0 c3
  have p0 := rnat_nonneg p
  have u0 := rnat_nonneg u
  have v0 := rnat_nonneg v
  clear g1 g2 hx hy hxy h1 h2 h3 ha hb
  constructor
  · refine cast_le ?_
    have e1 : ((p * u : Nat) : Rat) = (p : Rat) * (u : Rat) := by exact_mod_cast rfl
    have e2 : ((h * 2 ^ s : Nat) : Rat) = (h : Rat) * ((2 ^ s : Nat) : Rat) := by exact_mod_cast rfl
    rw [e1, e2]
    generalize ((2 ^ s : Nat) : Rat) = P at *
    generalize eS x c1 = X at *
    generalize eS y c2 = Y at *
    generalize eS (x + y) (c1 + c2) = Z at *
    have q0 : 0 ≤ P * Y := by
      have := rmul_le (show 0 ≤ Y by grind) P0
      grind
    have t1 := rmul_both l1 l2 p0 q0
    have t2 := rmul_le m1 (show 0 ≤ P * P by have := rmul_le P0 P0; grind)
    have t3 := rmul_le g3 P0
    have e3 : P * X * (P * Y) = P * P * (X * Y) := by grind
    have e4 : P * P * Z = P * (P * Z) := by grind
    have e5 : (h : Rat) * P = P * h := by grind
    rw [e5]
    rw [e3] at t1
    rw [e4] at t2
    grind
  · refine cast_le ?_
    have e1 : ((q * v : Nat) : Rat) = (q : Rat) * (v : Rat) := by exact_mod_cast rfl
    have e2 : ((l * 2 ^ s : Nat) : Rat) = (l : Rat) * ((2 ^ s : Nat) : Rat) := by exact_mod_cast rfl
    rw [e1, e2]
    generalize ((2 ^ s : Nat) : Rat) = P at *
    generalize eS x c3 = X at *
    generalize eS y c3 = Y at *
    generalize eS (x + y) c3 = Z at *
    have x9 : 0 ≤ P * X := by
      have := rmul_le (show 0 ≤ X by grind) P0
      grind
    have t1 := rmul_both g4 g5 x9 v0
    have t2 := rmul_le m2 (show 0 ≤ P * P by have := rmul_le P0 P0; grind)
    have t3 := rmul_le l3 P0
    have e3 : P * X * (P * Y) = P * P * (X * Y) := by grind
    have e4 : P * P * Z = P * (P * Z) := by grind
    have e5 : (l : Rat) * P = P * l := by grind
    rw [e5]
    rw [e3] at t1
    rw [e4] at t2
    grind
theorem at_grows {x z : Rat} (h0 : 0 ≤ x) (h : x ≤ z) (c : Nat) : atS x c ≤ atS z c := by
  have d := (atS_diff h0 h c).1
  have g := gS_nonneg (y := x * x) (by have := rmul_le h0 h0; grind) c
  have := rmul_le g (show 0 ≤ z - x by grind)
  grind
/-- atanh of a greater fraction isn't less. -/
theorem at_rises {a b d s m m' n n' : Nat} (hd : d ≠ 0) (hab : a ≤ b) (hb : 3 * b ≤ d) (h1 : AtB a d s m m') (h2 : AtB b d s n' n) : m ≤ n := by
  obtain ⟨x, hx⟩ := frac_of (X := a) hd
  obtain ⟨z, hz⟩ := frac_of (X := b) hd
  obtain ⟨x0, _⟩ := frac_bd hd (by omega) hx
  have d0 := rnat_pos (Nat.pos_of_ne_zero hd)
  have hab' : (a : Rat) ≤ (b : Rat) := by exact_mod_cast hab
  have hxz : x ≤ z := rcancel (c := (d : Rat)) (by grind) d0
  obtain ⟨⟨c, l1⟩, _⟩ := h1 x hx
  have g1 := (h2 z hz).2 c
  have P0 := rnat_nonneg (2 ^ s)
  have := rmul_le (at_grows x0 hxz c) P0
  refine cast_le ?_
  grind
/-- One number at two scales. -/
theorem at_scales {X Y i t a b c d : Nat} (hY : Y ≠ 0) (h1 : AtB X Y i a b) (h2 : AtB X Y (i + t) c d) : a * 2 ^ t ≤ d ∧ c ≤ b * 2 ^ t := by
  obtain ⟨x, hx⟩ := frac_of (X := X) hY
  obtain ⟨⟨c1, l1⟩, g1⟩ := h1 x hx
  obtain ⟨⟨c2, l2⟩, g2⟩ := h2 x hx
  have e := two_add i t
  rw [e] at l2 g2
  have T0 := rnat_nonneg (2 ^ t)
  have m1 := rmul_le l1 T0
  have m2 := rmul_le (g1 c2) T0
  have g3 := g2 c1
  constructor
  · refine cast_le ?_
    have e1 : ((a * 2 ^ t : Nat) : Rat) = (a : Rat) * ((2 ^ t : Nat) : Rat) := by exact_mod_cast rfl
    rw [e1]
    grind
  · refine cast_le ?_
    have e1 : ((b * 2 ^ t : Nat) : Rat) = (b : Rat) * ((2 ^ t : Nat) : Rat) := by exact_mod_cast rfl
    rw [e1]
    grind
/-- ln 2 and the document's atanh of a third, twice. -/
theorem ln2_holds {s lo hi : Nat} (h : Ln2B s lo hi) :
    lo * 2 ^ 80 ≤ dA (2 ^ (s + 80)) 1 3 ((s + 80) / 3 + 3) * 2 + 1048576 ∧ dA (2 ^ (s + 80)) 1 3 ((s + 80) / 3 + 3) * 2 ≤ hi * 2 ^ 80 := by
  obtain ⟨x, hx⟩ := frac_of (X := 1) (Y := 3) (by decide)
  obtain ⟨x0, x1⟩ := frac_bd (by decide) (by decide) hx
  have hx3 : 3 * x = 1 := by
    have e1 : ((1 : Nat) : Rat) = 1 := by exact_mod_cast rfl
    have e3 : ((3 : Nat) : Rat) = 3 := by exact_mod_cast rfl
    rw [e1, e3] at hx
    grind
  obtain ⟨⟨c, h1⟩, h2⟩ := h x hx3
  have t := at_tail x0 x1 (s + 80)
  have P8 : 8 ≤ 2 ^ (s + 80) := by
    have : 2 ^ 3 ≤ 2 ^ (s + 80) := Nat.pow_le_pow_right (by decide) (by omega)
    omega
  obtain ⟨d1, d2⟩ := dA_spec (P := 2 ^ (s + 80)) (num := 1) (den := 3) (c := (s + 80) / 3 + 3) P8 (by decide) hx (by decide) t
  obtain ⟨V, hV⟩ : ∃ V, dA (2 ^ (s + 80)) 1 3 ((s + 80) / 3 + 3) = V := ⟨_, rfl⟩
  rw [hV] at d1 d2 ⊢
  have e := two_add s 80
  rw [e] at d1 d2
  have q0 := rnat_nonneg (2 ^ 80)
  have d3 := d2 c
  have h4 := h2 ((s + 80) / 3 + 3)
  have m1 := rmul_le h1 q0
  have m2 := rmul_le h4 q0
  clear d2 h2 h t e hV P8 hx
  have e1 : ((lo * 2 ^ 80 : Nat) : Rat) = (lo : Rat) * ((2 ^ 80 : Nat) : Rat) := by exact_mod_cast rfl
  have e2 : ((V * 2 + 1048576 : Nat) : Rat) = (V : Rat) * 2 + 1048576 := by exact_mod_cast rfl
  have e3 : ((hi * 2 ^ 80 : Nat) : Rat) = (hi : Rat) * ((2 ^ 80 : Nat) : Rat) := by exact_mod_cast rfl
  have e4 : ((V * 2 : Nat) : Rat) = (V : Rat) * 2 := by exact_mod_cast rfl
  constructor
  · refine cast_le ?_
    rw [e1, e2]
    generalize ((2 ^ s : Nat) : Rat) = P at *
    generalize ((2 ^ 80 : Nat) : Rat) = T at *
    grind
  · refine cast_le ?_
    rw [e3, e4]
    generalize ((2 ^ s : Nat) : Rat) = P at *
    generalize ((2 ^ 80 : Nat) : Rat) = T at *
    grind
end Go.Proofs.YtngldpmnbdgkiaaDoor
