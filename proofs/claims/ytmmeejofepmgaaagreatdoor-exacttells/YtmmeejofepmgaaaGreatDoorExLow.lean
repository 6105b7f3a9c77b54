/- Powers with fractions for exponents, by sizes: which breakpoint one is. Numbers alone. -/
import Derived.Test.YtmmeejofepmgaaaGreatDoorExMath
import Derived.Test.YtmmeejofepmgaaaGreatDoorK4
namespace Go.Proofs.YtmmeejofepmgaaaGreatDoor

/-- x to the power i, held against a size to the power k. -/
def cS (V : Nat) (E i : Int) (k S : Nat) : Int := ratC V E i S (-2147483648) k
theorem ratC_sz {V : Nat} {E i : Int} {U : Nat} {F : Int} {k : Nat} (hV : 0 < V) (h1 : -1073741824 ≤ F) (h2 : F ≤ 1073741824) : ratC V E i U F k = cS V E i k (sz U F) := by
  have hh := sh_eq h1 h2
  have h0 : cq U F (sz U F) (-2147483648) = 0 := by
    rw [cq_at (l := -2147483648) (by omega) (Int.le_refl _)]
    refine cmpZ_eq ?_
    have e1 : (F - -2147483648).toNat = sh F := by omega
    rw [e1, show ((-2147483648 : Int) - -2147483648).toNat = 0 from rfl, Nat.pow_zero, Nat.mul_one]
    rfl
  have h3 : cq (sz U F) (-2147483648) U F = 0 := by rw [cq_flip, h0]; rfl
  refine Int.le_antisymm ?_ ?_
  · exact ratC_anti hV (by rw [h3]; exact Int.le_refl _)
  · exact ratC_anti hV (by rw [h0]; exact Int.le_refl _)
theorem cS_anti {V : Nat} {E i : Int} {k S T : Nat} (hV : 0 < V) (h : S ≤ T) : cS V E i k T ≤ cS V E i k S := by
  refine ratC_anti hV ?_
  rw [cq_at (l := -2147483648) (Int.le_refl _) (Int.le_refl _), show ((-2147483648 : Int) - -2147483648).toNat = 0 from rfl, Nat.pow_zero, Nat.mul_one, Nat.mul_one]
  rcases Nat.lt_or_eq_of_le h with h9 | h9
  · rw [cmpZ_lt h9]; decide
  · rw [cmpZ_eq h9]; decide
theorem cmpZ_step {a x y : Nat} (h : x < y) : cmpZ a y = -1 ∨ cmpZ a x = 1 := by
  rcases Nat.lt_or_ge a y with h1 | h1
  · exact Or.inl (cmpZ_lt h1)
  · exact Or.inr (cmpZ_gt (by omega))
theorem cS_step {V : Nat} {E i : Int} {k S T : Nat} (hV : 0 < V) (hk : k ≠ 0) (h : S < T) : cS V E i k T = -1 ∨ cS V E i k S = 1 := by
  have hp : S ^ k < T ^ k := Nat.pow_lt_pow_left h hk
  unfold cS ratC
  by_cases hi : 0 ≤ i
  · rw [if_pos hi, if_pos hi]
    unfold cq
    exact cmpZ_step (Nat.mul_lt_mul_of_pos_right hp (Nat.two_pow_pos _))
  · rw [if_neg hi, if_neg hi]
    unfold cq
    exact cmpZ_step (Nat.mul_lt_mul_of_pos_right (Nat.mul_lt_mul_of_pos_left hp (Nat.pow_pos hV)) (Nat.two_pow_pos _))
theorem cS_one {V : Nat} {E i : Int} {k S T : Nat} (hV : 0 < V) (hk : k ≠ 0) (h1 : cS V E i k S = 0) (h2 : cS V E i k T = 0) : S = T := by
  rcases Nat.lt_trichotomy S T with h | h | h
  · rcases cS_step (E := E) (i := i) hV hk h with h3 | h3 <;> omega
  · exact h
  · rcases cS_step (E := E) (i := i) hV hk h with h3 | h3 <;> omega
theorem cS_zero {V : Nat} {E i : Int} {k : Nat} (hV : 0 < V) (hk : k ≠ 0) : cS V E i k 0 = 1 := by
  unfold cS ratC
  have h0 : (0 : Nat) ^ k = 0 := Nat.zero_pow (Nat.pos_of_ne_zero hk)
  by_cases hi : 0 ≤ i
  · rw [if_pos hi, h0]
    unfold cq
    rw [Nat.zero_mul]
    exact cmpZ_gt (Nat.mul_pos (Nat.pow_pos hV) (Nat.two_pow_pos _))
  · rw [if_neg hi, h0, Nat.mul_zero]
    unfold cq
    rw [Nat.zero_mul, Nat.one_mul]
    exact cmpZ_gt (Nat.two_pow_pos _)

/-- The greatest bits that to the power k are at most x to the power i. -/
def LowC (V : Nat) (E i : Int) (k X : Nat) : Prop := X ≤ 9218868437227405312 ∧ 0 ≤ cS V E i k (vX X) ∧ (X < 9218868437227405312 → cS V E i k (vX (X + 1)) < 0)
theorem LowC.not_lt {V : Nat} {E i : Int} {k X Y : Nat} (hV : 0 < V) (hX : LowC V E i k X) (hY : LowC V E i k Y) : ¬ X < Y := fun h => by
  have h1 := hX.2.2 (by have := hY.1; omega)
  have h2 := cS_anti (E := E) (i := i) (k := k) hV (vX_le (X := X + 1) (Y := Y) (by omega) hY.1)
  have h3 := hY.2.1
  omega
theorem LowC.uniq {V : Nat} {E i : Int} {k X Y : Nat} (hV : 0 < V) (hX : LowC V E i k X) (hY : LowC V E i k Y) : X = Y := by
  have h1 := hX.not_lt hV hY
  have h2 := hY.not_lt hV hX
  omega

/-- A number above 0, bare, that is a breakpoint, and x to the power i divided by k. -/
def ExIs (V : Nat) (E i : Int) (k : Nat) (d : Dy) : Prop :=
  d.neg = false ∧ d.V % 2 = 1 ∧ -1073741824 ≤ d.e ∧ d.e ≤ 1073741824 ∧ brkO (some d) = true ∧ ratC V E i d.V d.e k = 0
theorem odd_size {U T : Nat} {f h : Int} (hU : U % 2 = 1) (hT : T % 2 = 1) (h1 : -1073741824 ≤ f) (h2 : f ≤ 1073741824) (h3 : -1073741824 ≤ h) (h4 : h ≤ 1073741824) (hs : sz U f = sz T h) : U = T ∧ f = h := by
  refine (cq_odd hU hT).1 ?_
  rw [← cq_dw h1 h2 h3 h4]
  show cmpI (sz U f : Int) (sz T h : Int) = 0
  rw [hs]
  exact cmpI_eq rfl
theorem ExIs.uniq {V : Nat} {E i : Int} {k : Nat} {d d' : Dy} (hV : 0 < V) (hk : k ≠ 0) (h : ExIs V E i k d) (h' : ExIs V E i k d') : d = d' := by
  obtain ⟨a1, a2, a3, a4, _, a6⟩ := h
  obtain ⟨b1, b2, b3, b4, _, b6⟩ := h'
  rw [ratC_sz hV a3 a4] at a6
  rw [ratC_sz hV b3 b4] at b6
  obtain ⟨q1, q2⟩ := odd_size a2 b2 a3 a4 b3 b4 (cS_one hV hk a6 b6)
  obtain ⟨g, U, f⟩ := d
  obtain ⟨g', U', f'⟩ := d'
  simp only at a1 b1 q1 q2
  rw [a1, b1, q1, q2]
/-- Where it lies. -/
theorem ExIs.at {V : Nat} {E i : Int} {k X : Nat} {d : Dy} (hV : 0 < V) (hk : k ≠ 0) (h : ExIs V E i k d) (hX : LowC V E i k X) :
    (X = 9218868437227405312 ∧ sz d.V d.e = vX 9218868437227405312) ∨ (X < 9218868437227405312 ∧ (sz d.V d.e = vX X ∨ 2 * sz d.V d.e = vX X + vX (X + 1))) := by
  obtain ⟨a1, a2, a3, a4, a5, a6⟩ := h
  rw [ratC_sz hV a3 a4] at a6
  have hl := low_is (V := d.V) (e := d.e) (by omega) a3 a4
  have hb := (brk_low (g := d.neg) (m := d.V / 2) (by omega) a3 a4 hl).1 a5
  have hlow : LowC V E i k (lowX d.V d.e) := by
    refine ⟨hl.1, ?_, fun h9 => ?_⟩
    · have := cS_anti (E := E) (i := i) (k := k) hV hl.2.1
      omega
    · rcases cS_step (E := E) (i := i) hV hk (hl.2.2 h9) with h8 | h8 <;> omega
  obtain rfl := hX.uniq hV hlow
  exact hb
end Go.Proofs.YtmmeejofepmgaaaGreatDoor
