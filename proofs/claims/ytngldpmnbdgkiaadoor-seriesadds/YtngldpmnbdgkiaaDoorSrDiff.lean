/- How atanh and exp grow: differences of so many terms, held by fractions. -/
import Derived.Test.YtngldpmnbdgkiaaDoorSrAdd
namespace Go.Proofs.YtngldpmnbdgkiaaDoor

theorem hh_sum (y : Rat) : ∀ (c n : Nat), hh y c n = sm (fun k => y ^ k * (1 / ((2 * (n + k) + 1 : Nat) : Rat))) c := by
  intro c
  induction c with
  | zero => intro n; rfl
  | succ c ih =>
    intro n
    rw [sm_head]
    simp only [hh]
    rw [ih (n + 1), ← sm_mul, Rat.pow_zero, Nat.add_zero]
    have : sm (fun k => y * (y ^ k * (1 / ((2 * (n + 1 + k) + 1 : Nat) : Rat)))) c = sm (fun k => y ^ (k + 1) * (1 / ((2 * (n + (k + 1)) + 1 : Nat) : Rat))) c := by
      refine sm_congr _ (fun k _ => ?_)
      rw [show n + 1 + k = n + (k + 1) by omega, Rat.pow_succ]
      grind
    rw [this]
    grind
/-- atanh's terms, one by one. -/
theorem atS_sum (x : Rat) (c : Nat) : atS x c = sm (fun k => x * (x * x) ^ k * (1 / ((2 * k + 1 : Nat) : Rat))) c := by
  unfold atS
  rw [hh_sum, ← sm_mul]
  refine sm_congr _ (fun k _ => ?_)
  rw [Nat.zero_add]
  grind
theorem atS_succ (x : Rat) (c : Nat) : atS x (c + 1) = atS x c + x * (x * x) ^ c * (1 / ((2 * c + 1 : Nat) : Rat)) := by
  rw [atS_sum, atS_sum]
  rfl
/-- The geometric sum. -/
def gS (y : Rat) (c : Nat) : Rat := sm (fun k => y ^ k) c
theorem gS_mul (y : Rat) (c : Nat) : (1 - y) * gS y c = 1 - y ^ c := by
  induction c with
  | zero => unfold gS; simp only [sm]; rw [Rat.pow_zero]; grind
  | succ c ih =>
    have e : gS y (c + 1) = gS y c + y ^ c := rfl
    rw [e, Rat.pow_succ]
    grind
/-- How odd powers grow. -/
theorem odd_diff {x z : Rat} (h0 : 0 ≤ x) (h : x ≤ z) : ∀ k : Nat, ((2 * k + 1 : Nat) : Rat) * ((z - x) * (x * x) ^ k) ≤ z * (z * z) ^ k - x * (x * x) ^ k ∧ z * (z * z) ^ k - x * (x * x) ^ k ≤ ((2 * k + 1 : Nat) : Rat) * ((z - x) * (z * z) ^ k) ∧ (x * x) ^ k ≤ (z * z) ^ k := by
  intro k
  induction k with
  | zero =>
    have e : ((2 * 0 + 1 : Nat) : Rat) = 1 := rfl
    rw [e, Rat.pow_zero, Rat.pow_zero]
    refine ⟨?_, ?_, ?_⟩
    · grind
    · grind
    · exact Rat.le_refl
  | succ k ih =>
    obtain ⟨i1, i2, i3⟩ := ih
    have e : ((2 * (k + 1) + 1 : Nat) : Rat) = ((2 * k + 1 : Nat) : Rat) + 2 := by
      have : (2 * (k + 1) + 1 : Nat) = (2 * k + 1) + 2 := by omega
      exact_mod_cast this
    have z0 : 0 ≤ z := by grind
    have px := rpow_nonneg (show 0 ≤ x * x by have := rmul_le h0 h0; grind) k
    have pz := rpow_nonneg (show 0 ≤ z * z by have := rmul_le z0 z0; grind) k
    have m0 := rnat_nonneg (2 * k + 1)
    have xx := rmul_le h0 h0
    have zz := rmul_le z0 z0
    have d0 : 0 ≤ z - x := by grind
    have xz := rmul_le h h0
    have zx := rmul_le h z0
    rw [e, Rat.pow_succ, Rat.pow_succ]
    generalize (x * x) ^ k = X at *
    generalize (z * z) ^ k = Z at *
    generalize ((2 * k + 1 : Nat) : Rat) = m at *
    have sq : x * x ≤ z * z := by grind
    refine ⟨?_, ?_, ?_⟩
    · -- z Z z z - x X x x = (z Z - x X) x x + z Z (z z - x x)
      have a := rmul_le i1 (show 0 ≤ x * x by grind)
      have b1 := rmul_le i3 (show 0 ≤ z * (z * z - x * x) by have := rmul_le (show 0 ≤ z * z - x * x by grind) z0; grind)
      have b2 := rmul_le (show (z - x) * (2 * (x * x)) ≤ z * (z * z - x * x) by
        have t1 := rmul_le (show 2 * (x * x) ≤ z * (z + x) by grind) d0
        grind) px
      grind
    · have a := rmul_le i2 (show 0 ≤ z * z by grind)
      have b1 := rmul_le i3 (show 0 ≤ x * (z * z - x * x) by have := rmul_le (show 0 ≤ z * z - x * x by grind) h0; grind)
      have b2 := rmul_le (show x * (z * z - x * x) ≤ (z - x) * (2 * (z * z)) by
        have t1 := rmul_le (show x * (z + x) ≤ 2 * (z * z) by grind) d0
        grind) pz
      grind
    · have a := rmul_le i3 (show 0 ≤ x * x by grind)
      have b := rmul_le sq pz
      grind
/-- How atanh grows. -/
theorem atS_diff {x z : Rat} (h0 : 0 ≤ x) (h : x ≤ z) (c : Nat) : (z - x) * gS (x * x) c ≤ atS z c - atS x c ∧ atS z c - atS x c ≤ (z - x) * gS (z * z) c := by
  induction c with
  | zero =>
    have e1 : atS z 0 = 0 := by rw [atS_sum]; rfl
    have e2 : atS x 0 = 0 := by rw [atS_sum]; rfl
    have e3 : ∀ y, gS y 0 = 0 := fun _ => rfl
    rw [e1, e2, e3, e3]
    constructor <;> grind
  | succ c ih =>
    obtain ⟨i1, i2⟩ := ih
    obtain ⟨j1, j2, _⟩ := odd_diff h0 h c
    have e : ∀ y, gS y (c + 1) = gS y c + y ^ c := fun _ => rfl
    rw [atS_succ, atS_succ, e, e]
    obtain ⟨i, hi, k1, k2, k3⟩ := inv_nat (n := 2 * c + 1) (by omega)
    rw [hi]
    have a1 := rmul_le j1 k2
    have a2 := rmul_le j2 k2
    generalize (x * x) ^ c = X at *
    generalize (z * z) ^ c = Z at *
    generalize ((2 * c + 1 : Nat) : Rat) = m at *
    have s1 : i * (m * ((z - x) * X)) = (z - x) * X := by rw [← Rat.mul_assoc, Rat.mul_comm i m, k1, Rat.one_mul]
    have s2 : i * (m * ((z - x) * Z)) = (z - x) * Z := by rw [← Rat.mul_assoc, Rat.mul_comm i m, k1, Rat.one_mul]
    rw [s1] at a1
    rw [s2] at a2
    generalize gS (x * x) c = g1 at *
    generalize gS (z * z) c = g2 at *
    generalize atS z c = p1 at *
    generalize atS x c = p2 at *
    clear e hi k1 j1 j2 s1 s2
    constructor
    · grind
    · grind
/-- exp near 0. -/
theorem eS_near {d : Rat} (h0 : 0 ≤ d) (h1 : d ≤ 1) (c : Nat) : 1 + d ≤ eS d (c + 1) ∧ eS d c ≤ 1 + d + d * d := by
  have t0 : ∀ c n, 0 < n → ge_ d c n ≤ 3 := fun c n hn => by
    obtain ⟨a, b⟩ := ge_bd h0 h1 c n hn
    have m1 : (1 : Rat) ≤ (n : Rat) := by exact_mod_cast hn
    generalize ge_ d c n = G at *
    generalize (n : Rat) = m at *
    refine rcancel (c := m) ?_ (by grind)
    grind
  constructor
  · unfold eS
    simp only [ge_]
    have a := (ge_bd h0 h1 c 2 (by decide)).1
    have e : (1 : Rat) / ((1 : Nat) : Rat) = 1 := by
      have : ((1 : Nat) : Rat) = 1 := rfl
      rw [this]; grind
    rw [e]
    have b := rmul_le a h0
    grind
  · cases c with
    | zero =>
      rw [eS_zero]
      have := rmul_le h0 h0
      grind
    | succ c =>
      unfold eS
      simp only [ge_]
      have e : (1 : Rat) / ((1 : Nat) : Rat) = 1 := by
        have : ((1 : Nat) : Rat) = 1 := rfl
        rw [this]; grind
      rw [e]
      have g : ge_ d c 2 ≤ 1 + d := by
        cases c with
        | zero => simp only [ge_]; grind
        | succ c =>
          simp only [ge_]
          obtain ⟨a, b⟩ := ge_bd h0 h1 c 3 (by decide)
          have e3 : ((3 : Nat) : Rat) = 3 := rfl
          have e2 : ((2 : Nat) : Rat) = 2 := rfl
          rw [e3] at b
          have g2 : ge_ d c 3 ≤ 2 := by grind
          rw [e2]
          have := rmul_le g2 h0
          grind
      have b := rmul_le g h0
      grind
end Go.Proofs.YtngldpmnbdgkiaaDoor
