/- exp of a sum, by so many terms: held by the product of both, and holding it. -/
import Derived.Test.YtngldpmnbdgkiaaDoorSrExp
namespace Go.Proofs.YtngldpmnbdgkiaaDoor

theorem tt_last {x : Rat} : ∀ (c n : Nat), 0 < n → ((n + c : Nat) : Rat) * tt x (c + 1) n = x * tt x c n := by
  intro c
  induction c with
  | zero =>
    intro n hn
    obtain ⟨i, hi, i1, _⟩ := inv_nat hn
    simp only [tt, Nat.add_zero]
    rw [hi]
    grind
  | succ c ih =>
    intro n hn
    obtain ⟨i, hi, i1, _⟩ := inv_nat hn
    have a := ih (n + 1) (by omega)
    rw [show n + 1 + c = n + (c + 1) by omega] at a
    have e1 : tt x (c + 1 + 1) n = x * (1 / (n : Rat)) * tt x (c + 1) (n + 1) := rfl
    have e2 : tt x (c + 1) n = x * (1 / (n : Rat)) * tt x c (n + 1) := rfl
    rw [e1, e2, hi]
    generalize tt x (c + 1) (n + 1) = T at *
    generalize tt x c (n + 1) = U at *
    generalize ((n + (c + 1) : Nat) : Rat) = m at *
    grind
/-- The terms. -/
def tk (x : Rat) (k : Nat) : Rat := tt x k 1
/-- So many terms. -/
def eS (x : Rat) (c : Nat) : Rat := ge_ x c 1
theorem tk_zero (x : Rat) : tk x 0 = 1 := rfl
theorem tk_succ (x : Rat) (k : Nat) : ((k + 1 : Nat) : Rat) * tk x (k + 1) = x * tk x k := by
  have := tt_last (x := x) k 1 (by decide)
  rw [Nat.add_comm 1 k] at this
  exact this
theorem eS_zero (x : Rat) : eS x 0 = 1 := rfl
theorem eS_succ (x : Rat) (c : Nat) : eS x (c + 1) = eS x c + tk x (c + 1) := by
  unfold eS tk
  rw [ge_more]
  have a := tt_last (x := x) c 1 (by decide)
  obtain ⟨i, hi, i1, _⟩ := inv_nat (n := 1 + c) (by omega)
  simp only [ge_]
  rw [hi]
  generalize tt x (c + 1) 1 = T at *
  generalize tt x c 1 = U at *
  generalize ((1 + c : Nat) : Rat) = m at *
  grind
theorem tk_nonneg {x : Rat} (h : 0 ≤ x) (k : Nat) : 0 ≤ tk x k := tt_nonneg h k 1 (by decide)

/-- f 0 + .. + f (n-1). -/
def sm (f : Nat → Rat) : Nat → Rat
  | 0 => 0
  | n + 1 => sm f n + f n
theorem sm_congr {f g : Nat → Rat} : ∀ n, (∀ i, i < n → f i = g i) → sm f n = sm g n := by
  intro n
  induction n with
  | zero => intro _; rfl
  | succ n ih =>
    intro h
    simp only [sm]
    rw [ih (fun i hi => h i (by omega)), h n (by omega)]
theorem sm_le {f g : Nat → Rat} : ∀ n, (∀ i, i < n → f i ≤ g i) → sm f n ≤ sm g n := by
  intro n
  induction n with
  | zero => intro _; simp only [sm]; grind
  | succ n ih =>
    intro h
    simp only [sm]
    have a := ih (fun i hi => h i (by omega))
    have b := h n (by omega)
    grind
theorem sm_add (f g : Nat → Rat) (n : Nat) : sm (fun i => f i + g i) n = sm f n + sm g n := by
  induction n with
  | zero => simp only [sm]; grind
  | succ n ih => simp only [sm]; grind
theorem sm_mul (f : Nat → Rat) (a : Rat) (n : Nat) : sm (fun i => a * f i) n = a * sm f n := by
  induction n with
  | zero => simp only [sm]; grind
  | succ n ih => simp only [sm]; grind
/-- The first one taken off. -/
theorem sm_head (f : Nat → Rat) (n : Nat) : sm f (n + 1) = f 0 + sm (fun i => f (i + 1)) n := by
  induction n with
  | zero => simp only [sm]; grind
  | succ n ih =>
    have e : sm f (n + 1 + 1) = sm f (n + 1) + f (n + 1) := rfl
    rw [e, ih]
    simp only [sm]
    grind
theorem sm_more {f : Nat → Rat} {n : Nat} (h : ∀ i, 0 ≤ f i) (m : Nat) : sm f n ≤ sm f (n + m) := by
  induction m with
  | zero => exact Rat.le_refl
  | succ m ih =>
    have e : sm f (n + (m + 1)) = sm f (n + m) + f (n + m) := rfl
    rw [e]
    have := h (n + m)
    grind
theorem eS_sum (x : Rat) (c : Nat) : eS x c = sm (tk x) (c + 1) := by
  induction c with
  | zero => simp only [sm]; rw [eS_zero, tk_zero]; grind
  | succ c ih => rw [eS_succ, ih]; rfl

/-- The terms of a product, by degree. -/
def ck (x y : Rat) (k : Nat) : Rat := sm (fun i => tk x i * tk y (k - i)) (k + 1)
theorem ck_succ (x y : Rat) (k : Nat) : ((k + 1 : Nat) : Rat) * ck x y (k + 1) = (x + y) * ck x y k := by
  have A : sm (fun i => (i : Rat) * (tk x i * tk y (k + 1 - i))) (k + 1 + 1) = x * ck x y k := by
    rw [sm_head]
    have e0 : ((0 : Nat) : Rat) * (tk x 0 * tk y (k + 1 - 0)) = 0 := by
      have : ((0 : Nat) : Rat) = 0 := rfl
      rw [this]; grind
    rw [e0]
    unfold ck
    rw [← sm_mul]
    have : sm (fun i => ((i + 1 : Nat) : Rat) * (tk x (i + 1) * tk y (k + 1 - (i + 1)))) (k + 1) = sm (fun i => x * (tk x i * tk y (k - i))) (k + 1) := by
      refine sm_congr _ (fun i _ => ?_)
      have a := tk_succ x i
      rw [show k + 1 - (i + 1) = k - i by omega]
      grind
    rw [this]
    grind
  have B : sm (fun i => ((k + 1 - i : Nat) : Rat) * (tk x i * tk y (k + 1 - i))) (k + 1 + 1) = y * ck x y k := by
    have e : sm (fun i => ((k + 1 - i : Nat) : Rat) * (tk x i * tk y (k + 1 - i))) (k + 1 + 1) = sm (fun i => ((k + 1 - i : Nat) : Rat) * (tk x i * tk y (k + 1 - i))) (k + 1) + ((k + 1 - (k + 1) : Nat) : Rat) * (tk x (k + 1) * tk y (k + 1 - (k + 1))) := rfl
    rw [e, Nat.sub_self]
    have z : ((0 : Nat) : Rat) = 0 := rfl
    rw [z]
    unfold ck
    rw [← sm_mul]
    have : sm (fun i => ((k + 1 - i : Nat) : Rat) * (tk x i * tk y (k + 1 - i))) (k + 1) = sm (fun i => y * (tk x i * tk y (k - i))) (k + 1) := by
      refine sm_congr _ (fun i hi => ?_)
      have a := tk_succ y (k - i)
      rw [show k - i + 1 = k + 1 - i by omega] at a
      grind
    rw [this]
    grind
  have C : sm (fun i => ((k + 1 : Nat) : Rat) * (tk x i * tk y (k + 1 - i))) (k + 1 + 1) = sm (fun i => (i : Rat) * (tk x i * tk y (k + 1 - i)) + ((k + 1 - i : Nat) : Rat) * (tk x i * tk y (k + 1 - i))) (k + 1 + 1) := by
    refine sm_congr _ (fun i hi => ?_)
    have e : ((k + 1 : Nat) : Rat) = (i : Rat) + ((k + 1 - i : Nat) : Rat) := by
      have : k + 1 = i + (k + 1 - i) := by omega
      exact_mod_cast this
    rw [e]
    grind
  rw [sm_add, A, B, sm_mul] at C
  have D : ck x y (k + 1) = sm (fun i => tk x i * tk y (k + 1 - i)) (k + 1 + 1) := rfl
  rw [D, C]
  grind
/-- The terms of exp of a sum. -/
theorem tk_add (x y : Rat) (k : Nat) : tk (x + y) k = ck x y k := by
  induction k with
  | zero =>
    unfold ck
    simp only [sm, Nat.sub_zero]
    rw [tk_zero, tk_zero, tk_zero]
    grind
  | succ k ih =>
    have a := tk_succ (x + y) k
    have b := ck_succ x y k
    rw [ih] at a
    have m0 : (0 : Rat) < ((k + 1 : Nat) : Rat) := rnat_pos (by omega)
    generalize ((k + 1 : Nat) : Rat) = m at *
    have h : m * (tk (x + y) (k + 1) - ck x y (k + 1)) = 0 := by grind
    grind
/-- exp of a sum, by rows. -/
theorem eS_rows (x y : Rat) (K : Nat) : eS (x + y) K = sm (fun i => tk x i * eS y (K - i)) (K + 1) := by
  induction K with
  | zero =>
    simp only [sm, Nat.sub_zero]
    rw [eS_zero, eS_zero, tk_zero]
    grind
  | succ K ih =>
    rw [eS_succ, ih, tk_add]
    have e1 : ck x y (K + 1) = sm (fun i => tk x i * tk y (K + 1 - i)) (K + 1) + tk x (K + 1) * tk y (K + 1 - (K + 1)) := rfl
    have e2 : sm (fun i => tk x i * eS y (K + 1 - i)) (K + 1 + 1) = sm (fun i => tk x i * eS y (K + 1 - i)) (K + 1) + tk x (K + 1) * eS y (K + 1 - (K + 1)) := rfl
    rw [e1, e2, Nat.sub_self, tk_zero, eS_zero]
    have e3 : sm (fun i => tk x i * eS y (K + 1 - i)) (K + 1) = sm (fun i => tk x i * eS y (K - i) + tk x i * tk y (K + 1 - i)) (K + 1) := by
      refine sm_congr _ (fun i hi => ?_)
      have := eS_succ y (K - i)
      rw [show K - i + 1 = K + 1 - i by omega] at this
      rw [this]
      grind
    rw [e3, sm_add]
    grind
theorem eS_nonneg {x : Rat} (h : 0 ≤ x) (c : Nat) : 1 ≤ eS x c := by
  induction c with
  | zero => rw [eS_zero]; exact Rat.le_refl
  | succ c ih =>
    rw [eS_succ]
    have := tk_nonneg h (c + 1)
    grind
theorem eS_mono {x : Rat} (h : 0 ≤ x) (c d : Nat) : eS x c ≤ eS x (c + d) := by
  rw [eS_sum, eS_sum, show c + d + 1 = c + 1 + d by omega]
  exact sm_more (tk_nonneg h) d
/-- exp of a sum isn't above the product of both, by as many terms. -/
theorem eS_add_le {x y : Rat} (hx : 0 ≤ x) (hy : 0 ≤ y) (K : Nat) : eS (x + y) K ≤ eS x K * eS y K := by
  rw [eS_rows]
  have a : sm (fun i => tk x i * eS y (K - i)) (K + 1) ≤ sm (fun i => eS y K * tk x i) (K + 1) := by
    refine sm_le _ (fun i hi => ?_)
    have m := eS_mono hy (K - i) i
    rw [Nat.sub_add_cancel (by omega)] at m
    have := rmul_le m (tk_nonneg hx i)
    grind
  rw [sm_mul, ← eS_sum] at a
  grind
/-- .. and the product of both isn't above it, by all the terms. -/
theorem eS_mul_le {x y : Rat} (hx : 0 ≤ x) (hy : 0 ≤ y) (N M : Nat) : eS x N * eS y M ≤ eS (x + y) (N + M) := by
  rw [eS_rows]
  have a : sm (fun i => eS y M * tk x i) (N + 1) ≤ sm (fun i => tk x i * eS y (N + M - i)) (N + 1) := by
    refine sm_le _ (fun i hi => ?_)
    have m := eS_mono hy M (N - i)
    rw [show M + (N - i) = N + M - i by omega] at m
    have := rmul_le m (tk_nonneg hx i)
    grind
  have b : sm (fun i => tk x i * eS y (N + M - i)) (N + 1) ≤ sm (fun i => tk x i * eS y (N + M - i)) (N + 1 + M) := by
    refine sm_more (fun i => ?_) M
    have h1 := eS_nonneg hy (N + M - i)
    have := rmul_le (show 0 ≤ eS y (N + M - i) by grind) (tk_nonneg hx i)
    grind
  rw [sm_mul, ← eS_sum] at a
  rw [show N + M + 1 = N + 1 + M by omega]
  grind
end Go.Proofs.YtngldpmnbdgkiaaDoor
