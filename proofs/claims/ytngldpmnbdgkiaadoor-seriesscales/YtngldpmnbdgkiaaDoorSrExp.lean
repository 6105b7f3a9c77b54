/- exp as it is reckoned from the last term to the first, over fractions, and what cutting each step down leaves out. -/
import Derived.Test.YtngldpmnbdgkiaaDoorSrMath
namespace Go.Proofs.YtngldpmnbdgkiaaDoor

/-- 1 + x/n + x^2/(n (n+1)) + .. : c terms behind the 1. -/
def ge_ (x : Rat) : Nat → Nat → Rat
  | 0, _ => 1
  | c + 1, n => 1 + x * (1 / (n : Rat)) * ge_ x c (n + 1)
/-- x^c / (n (n+1) .. (n+c-1)). -/
def tt (x : Rat) : Nat → Nat → Rat
  | 0, _ => 1
  | c + 1, n => x * (1 / (n : Rat)) * tt x c (n + 1)
theorem inv_nat {n : Nat} (hn : 0 < n) : ∃ i : Rat, 1 / (n : Rat) = i ∧ (n : Rat) * i = 1 ∧ 0 ≤ i ∧ i ≤ 1 := by
  have h0 := rnat_pos hn
  have h1 : (1 : Rat) ≤ (n : Rat) := by exact_mod_cast hn
  refine ⟨_, rfl, by grind, ?_, ?_⟩
  · rw [Rat.div_def]
    have := Rat.le_of_lt (Rat.inv_pos.2 h0)
    grind
  · rw [Rat.div_def]
    have := rmul_le h1 (Rat.le_of_lt (Rat.inv_pos.2 h0))
    grind
theorem tt_nonneg {x : Rat} (h0 : 0 ≤ x) : ∀ c n, 0 < n → 0 ≤ tt x c n := by
  intro c
  induction c with
  | zero => intro n _; simp only [tt]; decide
  | succ c ih =>
    intro n hn
    obtain ⟨i, hi, i1, i2, i3⟩ := inv_nat hn
    have a := ih (n + 1) (by omega)
    simp only [tt]
    rw [hi]
    have b := rmul_le i2 h0
    have d := rmul_le a (show 0 ≤ x * i by grind)
    grind
/-- At most 1 + 2/n. -/
theorem ge_bd {x : Rat} (h0 : 0 ≤ x) (h1 : x ≤ 1) : ∀ c n, 0 < n → 1 ≤ ge_ x c n ∧ (n : Rat) * ge_ x c n ≤ n + 2 := by
  intro c
  induction c with
  | zero =>
    intro n _
    simp only [ge_]
    constructor
    · grind
    · grind
  | succ c ih =>
    intro n hn
    obtain ⟨i, hi, i1, i2, i3⟩ := inv_nat hn
    obtain ⟨a, b⟩ := ih (n + 1) (by omega)
    have e : ((n + 1 : Nat) : Rat) = (n : Rat) + 1 := by exact_mod_cast rfl
    rw [e] at b
    have n1 : (1 : Rat) ≤ (n : Rat) := by exact_mod_cast hn
    simp only [ge_]
    rw [hi]
    generalize ge_ x c (n + 1) = G at *
    generalize (n : Rat) = m at *
    have xi := rmul_le i2 h0
    have g2 : G ≤ 2 := by
      refine rcancel (c := m + 1) ?_ (by grind)
      grind
    have k1 := rmul_le a (show 0 ≤ x * i by grind)
    have k2 := rmul_le h1 (show 0 ≤ G by grind)
    constructor
    · grind
    · have : m * (1 + x * i * G) = m + x * G := by grind
      rw [this]
      grind
/-- More terms. -/
theorem ge_more {x : Rat} : ∀ c d n, ge_ x (c + d) n = ge_ x c n + tt x c n * (ge_ x d (n + c) - 1) := by
  intro c
  induction c with
  | zero =>
    intro d n
    simp only [ge_, tt, Nat.zero_add, Nat.add_zero]
    grind
  | succ c ih =>
    intro d n
    rw [show c + 1 + d = (c + d) + 1 by omega]
    simp only [ge_, tt]
    rw [ih d (n + 1), show n + 1 + c = n + (c + 1) by omega]
    grind
theorem ge_mono {x : Rat} (h0 : 0 ≤ x) (h1 : x ≤ 1) (c d n : Nat) (hn : 0 < n) : ge_ x c n ≤ ge_ x (c + d) n := by
  rw [ge_more]
  have a := (ge_bd h0 h1 d (n + c) (by omega)).1
  have b := rmul_le (show 0 ≤ ge_ x d (n + c) - 1 by grind) (tt_nonneg h0 c n hn)
  grind
/-- What is left out: at most twice the last term. -/
theorem ge_tail {x : Rat} (h0 : 0 ≤ x) (h1 : x ≤ 1) (c d n : Nat) (hn : 0 < n) : ge_ x (c + d) n ≤ ge_ x c n + 2 * tt x c n := by
  rw [ge_more]
  obtain ⟨a, b⟩ := ge_bd h0 h1 d (n + c) (by omega)
  have m1 : (1 : Rat) ≤ ((n + c : Nat) : Rat) := by exact_mod_cast (show 1 ≤ n + c by omega)
  have g3 : ge_ x d (n + c) ≤ 3 := by
    generalize ge_ x d (n + c) = G at *
    generalize ((n + c : Nat) : Rat) = m at *
    refine rcancel (c := m) ?_ (by grind)
    grind
  have k := rmul_le (show ge_ x d (n + c) - 1 ≤ 2 by grind) (tt_nonneg h0 c n hn)
  grind

/-- As the document reckons it at scale P. -/
def de (P a : Nat) : Nat → Nat → Nat
  | 0, _ => P
  | c + 1, n => P + de P a c (n + 1) * a / P / n
theorem de_le {P a : Nat} {x : Rat} (hP : 0 < P) (hx : (a : Rat) = P * x) (h0 : 0 ≤ x) : ∀ c n, 0 < n → (de P a c n : Rat) ≤ P * ge_ x c n := by
  intro c
  induction c with
  | zero => intro n _; simp only [de, ge_]; grind
  | succ c ih =>
    intro n hn
    obtain ⟨i, hi, i1, i2, i3⟩ := inv_nat hn
    have u := ih (n + 1) (by omega)
    have p0 := rnat_pos hP
    have m0 := rnat_pos hn
    have f1 := nat_div_le (de P a c (n + 1) * a) P
    have f2 := nat_div_le (de P a c (n + 1) * a / P) n
    have e : ((de P a c (n + 1) * a : Nat) : Rat) = (de P a c (n + 1) : Rat) * a := by exact_mod_cast rfl
    rw [e, hx] at f1
    simp only [de, ge_]
    have e2 : ((P + de P a c (n + 1) * a / P / n : Nat) : Rat) = (P : Rat) + ((de P a c (n + 1) * a / P / n : Nat) : Rat) := by exact_mod_cast rfl
    rw [e2, hi]
    have d0 := rnat_nonneg (de P a c (n + 1))
    generalize ge_ x c (n + 1) = G at *
    generalize (de P a c (n + 1) : Rat) = D at *
    generalize ((de P a c (n + 1) * a / P : Nat) : Rat) = F at *
    generalize ((de P a c (n + 1) * a / P / n : Nat) : Rat) = H at *
    generalize (n : Rat) = m at *
    generalize (P : Rat) = p at *
    have k1 : F ≤ D * x := by
      refine rcancel (c := p) ?_ p0
      grind
    have k2 := rmul_le u h0
    have k3 : H ≤ p * (x * i * G) := by
      refine rcancel (c := m) ?_ m0
      have : m * (p * (x * i * G)) = p * x * G := by grind
      rw [this]
      grind
    grind
theorem de_ge {P a : Nat} {x : Rat} (hP : 0 < P) (hx : (a : Rat) = P * x) (h0 : 0 ≤ x) (h1 : x ≤ 1) : ∀ (c n : Nat), 0 < n → (n : Rat) * (P * ge_ x c n) ≤ (n : Rat) * (de P a c n : Rat) + 2 * (n : Rat) + 4 := by
  intro c
  induction c with
  | zero =>
    intro n hn
    have m0 := rnat_pos hn
    simp only [de, ge_]
    grind
  | succ c ih =>
    intro n hn
    obtain ⟨i, hi, i1, i2, i3⟩ := inv_nat hn
    have u := ih (n + 1) (by omega)
    have p0 := rnat_pos hP
    have m0 := rnat_pos hn
    have m1 : (1 : Rat) ≤ (n : Rat) := by exact_mod_cast hn
    have f1 := nat_div_ge (de P a c (n + 1) * a) P hP
    have f2 := nat_div_ge (de P a c (n + 1) * a / P) n hn
    have e : ((de P a c (n + 1) * a : Nat) : Rat) = (de P a c (n + 1) : Rat) * a := by exact_mod_cast rfl
    have e3 : ((n + 1 : Nat) : Rat) = (n : Rat) + 1 := by exact_mod_cast rfl
    rw [e, hx] at f1
    rw [e3] at u
    simp only [de, ge_]
    have e2 : ((P + de P a c (n + 1) * a / P / n : Nat) : Rat) = (P : Rat) + ((de P a c (n + 1) * a / P / n : Nat) : Rat) := by exact_mod_cast rfl
    rw [e2, hi]
    have d0 := rnat_nonneg (de P a c (n + 1))
    generalize ge_ x c (n + 1) = G at *
    generalize (de P a c (n + 1) : Rat) = D at *
    generalize ((de P a c (n + 1) * a / P : Nat) : Rat) = F at *
    generalize ((de P a c (n + 1) * a / P / n : Nat) : Rat) = H at *
    generalize (n : Rat) = m at *
    generalize (P : Rat) = p at *
    have v : p * G ≤ D + 4 := by
      refine rcancel (c := m + 1) ?_ (by grind)
      grind
    have k1 : D * x ≤ F + 1 := by
      refine rcancel (c := p) ?_ p0
      grind
    have k2 := rmul_le v h0
    have k4 := rmul_le h1 (show (0 : Rat) ≤ 4 by decide)
    have : m * (p * (1 + x * i * G)) = m * p + x * (p * G) := by grind
    rw [this]
    grind
/-- What the document reckons of exp, with c terms behind the 1. -/
theorem de_spec {P a c : Nat} {x : Rat} (hP : 0 < P) (hx : (a : Rat) = P * x) (h0 : 0 ≤ x) (h1 : x ≤ 1) (hc : P * tt x c 1 ≤ 1) :
    (de P a c 1 : Rat) ≤ P * ge_ x c 1 ∧ ∀ M, P * ge_ x M 1 ≤ (de P a c 1 : Rat) + 8 := by
  refine ⟨de_le hP hx h0 c 1 (by decide), fun M => ?_⟩
  have a1 := de_ge hP hx h0 h1 c 1 (by decide)
  have p0 := rnat_pos hP
  have tail : ge_ x M 1 ≤ ge_ x c 1 + 2 * tt x c 1 := by
    rcases Nat.le_total M c with h | h
    · obtain ⟨k, rfl⟩ : ∃ k, c = M + k := ⟨c - M, by omega⟩
      have b1 := ge_mono h0 h1 M k 1 (by decide)
      have b2 := tt_nonneg h0 (M + k) 1 (by decide)
      grind
    · obtain ⟨k, rfl⟩ : ∃ k, M = c + k := ⟨M - c, by omega⟩
      exact ge_tail h0 h1 c k 1 (by decide)
  have b := rmul_le tail (Rat.le_of_lt p0)
  have e : ((1 : Nat) : Rat) = 1 := by exact_mod_cast rfl
  rw [e] at a1
  grind
end Go.Proofs.YtngldpmnbdgkiaaDoor
