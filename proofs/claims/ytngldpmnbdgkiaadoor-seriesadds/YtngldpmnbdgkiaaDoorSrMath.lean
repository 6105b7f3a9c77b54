/- Sums without an end, held between two numbers, over fractions: atanh and exp as they are reckoned from the last term to the first (Horner), and what cutting each step down leaves out. -/
import Derived.Test.YtngldpmnbdgkiaaDoorLimbs
namespace Go.Proofs.YtngldpmnbdgkiaaDoor

theorem nat_div_le (a b : Nat) : ((a / b : Nat) : Rat) * b ≤ a := by
  have h := Nat.div_mul_le_self a b
  have h2 : ((a / b * b : Nat) : Rat) ≤ (a : Rat) := by exact_mod_cast h
  grind
theorem nat_div_ge (a b : Nat) (hb : 0 < b) : (a : Rat) ≤ ((a / b : Nat) : Rat) * b + b := by
  have h : a ≤ a / b * b + b := by
    have h1 := Nat.div_add_mod a b
    have h2 := Nat.mod_lt a hb
    rw [Nat.mul_comm] at h1
    omega
  have h2 : (a : Rat) ≤ ((a / b * b + b : Nat) : Rat) := by exact_mod_cast h
  grind
theorem rmul_le {a b c : Rat} (h : a ≤ b) (hc : 0 ≤ c) : c * a ≤ c * b := Rat.mul_le_mul_of_nonneg_left h hc
theorem rcancel {a b c : Rat} (h : c * a ≤ c * b) (hc : 0 < c) : a ≤ b := by
  rcases Rat.le_total (a := a) (b := b) with h1 | h1
  · exact h1
  · have h2 := rmul_le h1 (Rat.le_of_lt hc)
    have h3 : c * (a - b) = 0 := by grind
    have h4 : a - b = 0 := by grind
    grind
theorem rnat_pos {n : Nat} (h : 0 < n) : (0 : Rat) < (n : Rat) := by exact_mod_cast h
theorem rnat_nonneg (n : Nat) : (0 : Rat) ≤ (n : Rat) := by exact_mod_cast Nat.zero_le n

/-- One divided by an odd number. -/
theorem inv_odd (n : Nat) : 1 / ((2 * n + 1 : Nat) : Rat) ≤ 1 ∧ 0 ≤ 1 / ((2 * n + 1 : Nat) : Rat) := by
  have h : (1 : Rat) ≤ ((2 * n + 1 : Nat) : Rat) := by exact_mod_cast (show 1 ≤ 2 * n + 1 by omega)
  have h0 : (0 : Rat) < ((2 * n + 1 : Nat) : Rat) := by grind
  generalize ((2 * n + 1 : Nat) : Rat) = d at *
  constructor
  · rw [Rat.div_def]
    have := rmul_le h (Rat.le_of_lt (Rat.inv_pos.2 h0))
    grind
  · rw [Rat.div_def]
    have := Rat.le_of_lt (Rat.inv_pos.2 h0)
    grind

/-- 1/(2n+1) + y/(2n+3) + .. : c terms. -/
def hh (y : Rat) : Nat → Nat → Rat
  | 0, _ => 0
  | c + 1, n => 1 / ((2 * n + 1 : Nat) : Rat) + y * hh y c (n + 1)
theorem hh_bd {y : Rat} (h0 : 0 ≤ y) (h1 : 9 * y ≤ 1) : ∀ c n, 0 ≤ hh y c n ∧ 8 * hh y c n ≤ 9 := by
  intro c
  induction c with
  | zero => intro n; simp [hh]; decide
  | succ c ih =>
    intro n
    obtain ⟨i1, i2⟩ := ih (n + 1)
    obtain ⟨j1, j2⟩ := inv_odd n
    have k1 := rmul_le i1 h0
    have k2 := rmul_le i2 h0
    have k3 := rmul_le h1 i1
    simp only [hh]
    constructor
    · grind
    · grind
/-- More terms. -/
theorem hh_more {y : Rat} : ∀ c d n, hh y (c + d) n = hh y c n + y ^ c * hh y d (n + c) := by
  intro c
  induction c with
  | zero =>
    intro d n
    simp only [hh, Rat.pow_zero, Nat.zero_add, Nat.add_zero]
    grind
  | succ c ih =>
    intro d n
    have e : c + 1 + d = (c + d) + 1 := by omega
    rw [e]
    simp only [hh]
    rw [ih d (n + 1), show n + 1 + c = n + (c + 1) by omega, Rat.pow_succ]
    grind
theorem rpow_nonneg {y : Rat} (h : 0 ≤ y) (c : Nat) : 0 ≤ y ^ c := by
  induction c with
  | zero => rw [Rat.pow_zero]; decide
  | succ c ih =>
    rw [Rat.pow_succ]
    have := rmul_le h ih
    grind
theorem hh_mono {y : Rat} (h0 : 0 ≤ y) (h1 : 9 * y ≤ 1) (c d n : Nat) : hh y c n ≤ hh y (c + d) n := by
  rw [hh_more]
  have := rmul_le (hh_bd h0 h1 d (n + c)).1 (rpow_nonneg h0 c)
  grind
/-- What is left out: at most 9/8 of y to the power of the number of terms. -/
theorem hh_tail {y : Rat} (h0 : 0 ≤ y) (h1 : 9 * y ≤ 1) (c d n : Nat) : 8 * hh y (c + d) n ≤ 8 * hh y c n + 9 * y ^ c := by
  rw [hh_more]
  have := rmul_le (hh_bd h0 h1 d (n + c)).2 (rpow_nonneg h0 c)
  grind

/-- As it is reckoned at scale P: each step cut down. -/
def dh (P q : Nat) : Nat → Nat → Nat
  | 0, _ => 0
  | c + 1, n => P / (2 * n + 1) + dh P q c (n + 1) * q / P
/-- Not above. -/
theorem dh_le {P q : Nat} {y : Rat} (hP : 0 < P) (hq : (q : Rat) ≤ P * y) : ∀ c n, (dh P q c n : Rat) ≤ P * hh y c n := by
  intro c
  induction c with
  | zero => intro n; simp [dh, hh]
  | succ c ih =>
    intro n
    have i := ih (n + 1)
    have p0 := rnat_pos hP
    have a1 := nat_div_le P (2 * n + 1)
    have a2 := nat_div_le (dh P q c (n + 1) * q) P
    have a3 : (((P / (2 * n + 1) : Nat) : Rat)) ≤ P * (1 / ((2 * n + 1 : Nat) : Rat)) := by
      have d0 : (0 : Rat) < ((2 * n + 1 : Nat) : Rat) := rnat_pos (by omega)
      refine rcancel (c := ((2 * n + 1 : Nat) : Rat)) ?_ d0
      generalize ((2 * n + 1 : Nat) : Rat) = d at *
      have : d * (P * (1 / d)) = P := by grind
      rw [this]
      grind
    have q0 := rnat_nonneg q
    have b1 := rmul_le i q0
    have b2 := rmul_le hq (show 0 ≤ P * hh y c (n + 1) from by have := rnat_nonneg (dh P q c (n + 1)); grind)
    have b3 : ((dh P q c (n + 1) * q / P : Nat) : Rat) ≤ P * (y * hh y c (n + 1)) := by
      refine rcancel (c := (P : Rat)) ?_ p0
      have e : ((dh P q c (n + 1) * q : Nat) : Rat) = (dh P q c (n + 1) : Rat) * q := by exact_mod_cast rfl
      rw [e] at a2
      grind
    simp only [dh, hh]
    have e2 : ((P / (2 * n + 1) + dh P q c (n + 1) * q / P : Nat) : Rat) = ((P / (2 * n + 1) : Nat) : Rat) + ((dh P q c (n + 1) * q / P : Nat) : Rat) := by exact_mod_cast rfl
    rw [e2]
    grind
/-- Not far below. -/
theorem dh_ge {P q : Nat} {y : Rat} (hP : 0 < P) (h0 : 0 ≤ y) (h1 : 9 * y ≤ 1) (hq : (q : Rat) ≤ P * y) (hq2 : P * y ≤ q + 2) : ∀ c n, P * hh y c n ≤ (dh P q c n : Rat) + 8 := by
  intro c
  induction c with
  | zero => intro n; simp only [dh, hh]; grind
  | succ c ih =>
    intro n
    have i := ih (n + 1)
    have u := dh_le hP hq c (n + 1)
    obtain ⟨g1, g2⟩ := hh_bd h0 h1 c (n + 1)
    have p0 := rnat_pos hP
    have a1 := nat_div_ge P (2 * n + 1) (by omega)
    have a2 := nat_div_ge (dh P q c (n + 1) * q) P hP
    have a3 : P * (1 / ((2 * n + 1 : Nat) : Rat)) ≤ ((P / (2 * n + 1) : Nat) : Rat) + 1 := by
      have d0 : (0 : Rat) < ((2 * n + 1 : Nat) : Rat) := rnat_pos (by omega)
      refine rcancel (c := ((2 * n + 1 : Nat) : Rat)) ?_ d0
      generalize ((2 * n + 1 : Nat) : Rat) = d at *
      have : d * (P * (1 / d)) = P := by grind
      rw [this]
      grind
    have e : ((dh P q c (n + 1) * q : Nat) : Rat) = (dh P q c (n + 1) : Rat) * q := by exact_mod_cast rfl
    rw [e] at a2
    simp only [dh, hh]
    have e2 : ((P / (2 * n + 1) + dh P q c (n + 1) * q / P : Nat) : Rat) = ((P / (2 * n + 1) : Nat) : Rat) + ((dh P q c (n + 1) * q / P : Nat) : Rat) := by exact_mod_cast rfl
    rw [e2]
    have d0 := rnat_nonneg (dh P q c (n + 1))
    generalize hh y c (n + 1) = H at *
    generalize (dh P q c (n + 1) : Rat) = D at *
    generalize ((dh P q c (n + 1) * q / P : Nat) : Rat) = F at *
    generalize ((P / (2 * n + 1) : Nat) : Rat) = C at *
    generalize (1 / ((2 * n + 1 : Nat) : Rat)) = I at *
    generalize (q : Rat) = Q at *
    generalize (P : Rat) = R at *
    have b3 : R * (y * H) ≤ F + 6 := by
      refine rcancel (c := R) ?_ p0
      have t1 := rmul_le i (show 0 ≤ R * y from by have := rmul_le h0 (Rat.le_of_lt p0); grind)
      have t2 := rmul_le hq2 d0
      have t3 := rmul_le h1 (Rat.le_of_lt p0)
      have t4 := rmul_le g2 (Rat.le_of_lt p0)
      grind
    grind

/-- c terms of atanh. -/
def atS (x : Rat) (c : Nat) : Rat := x * hh (x * x) c 0
/-- As the document reckons it at scale P, with c terms. -/
def dA (P num den c : Nat) : Nat := dh P (num * P / den * (num * P / den) / P) c 0 * (num * P / den) / P
theorem third {x : Rat} (h0 : 0 ≤ x) (h1 : 3 * x ≤ 1) : 0 ≤ x * x ∧ 9 * (x * x) ≤ 1 := by
  have a := rmul_le h0 h0
  have b := rmul_le h1 h0
  constructor <;> grind
theorem atS_mono {x : Rat} (h0 : 0 ≤ x) (h1 : 3 * x ≤ 1) (c d : Nat) : atS x c ≤ atS x (c + d) := by
  obtain ⟨y0, y1⟩ := third h0 h1
  exact rmul_le (hh_mono y0 y1 c d 0) h0
/-- What the document reckons: not above so many terms, and not far below any number of them. -/
theorem dA_spec {P num den c : Nat} {x : Rat} (hP : 8 ≤ P) (hd : 0 < den) (hx : x * den = num) (h3 : 3 * num ≤ den) (hc : (P : Rat) * (x * x) ^ c ≤ 1) :
    (dA P num den c : Rat) ≤ P * atS x c ∧ ∀ M, P * atS x M ≤ (dA P num den c : Rat) + 8 := by
  have d0 := rnat_pos hd
  have p0 := rnat_pos (show 0 < P by omega)
  have p8 : (8 : Rat) ≤ (P : Rat) := by exact_mod_cast hP
  have n0 := rnat_nonneg num
  have x0 : 0 ≤ x := rcancel (c := (den : Rat)) (by grind) d0
  have h3' : 3 * (num : Rat) ≤ den := by exact_mod_cast h3
  have x1 : 3 * x ≤ 1 := rcancel (c := (den : Rat)) (by grind) d0
  obtain ⟨y0, y1⟩ := third x0 x1
  obtain ⟨r, hr⟩ : ∃ r, num * P / den = r := ⟨_, rfl⟩
  obtain ⟨q, hq⟩ : ∃ q, r * r / P = q := ⟨_, rfl⟩
  have r1 := nat_div_le (num * P) den
  have r2 := nat_div_ge (num * P) den hd
  rw [hr] at r1 r2
  have e1 : ((num * P : Nat) : Rat) = (num : Rat) * P := by exact_mod_cast rfl
  rw [e1] at r1 r2
  have s1 : (r : Rat) ≤ P * x := rcancel (c := (den : Rat)) (by grind) d0
  have s2 : P * x ≤ (r : Rat) + 1 := rcancel (c := (den : Rat)) (by grind) d0
  have q1 := nat_div_le (r * r) P
  have q2 := nat_div_ge (r * r) P (by omega)
  rw [hq] at q1 q2
  have e2 : ((r * r : Nat) : Rat) = (r : Rat) * r := by exact_mod_cast rfl
  rw [e2] at q1 q2
  have r0 := rnat_nonneg r
  have t1 : (q : Rat) ≤ P * (x * x) := by
    refine rcancel (c := (P : Rat)) ?_ p0
    have a := rmul_le s1 r0
    have b := rmul_le s1 (show 0 ≤ P * x by grind)
    grind
  have t2 : P * (x * x) ≤ (q : Rat) + 2 := by
    refine rcancel (c := (P : Rat)) ?_ p0
    have a := rmul_le s2 (show 0 ≤ P * x by grind)
    have b := rmul_le s2 (show 0 ≤ (r : Rat) + 1 by grind)
    have c3 := rmul_le x1 (Rat.le_of_lt p0)
    grind
  have A := dh_le (show 0 < P by omega) t1 c 0
  have B := dh_ge (show 0 < P by omega) y0 y1 t1 t2 c 0
  obtain ⟨g1, g2⟩ := hh_bd y0 y1 c 0
  have f1 := nat_div_le (dh P q c 0 * r) P
  have f2 := nat_div_ge (dh P q c 0 * r) P (by omega)
  have e3 : ((dh P q c 0 * r : Nat) : Rat) = (dh P q c 0 : Rat) * r := by exact_mod_cast rfl
  rw [e3] at f1 f2
  have hd0 := rnat_nonneg (dh P q c 0)
  have hdA : dA P num den c = dh P q c 0 * r / P := by unfold dA; rw [hr, hq]
  rw [hdA]
  constructor
  · refine rcancel (c := (P : Rat)) ?_ p0
    unfold atS
    have a := rmul_le s1 hd0
    have b := rmul_le A (show 0 ≤ P * x by grind)
    grind
  · intro M
    have tail : 8 * hh (x * x) M 0 ≤ 8 * hh (x * x) c 0 + 9 * (x * x) ^ c := by
      rcases Nat.le_total M c with h | h
      · obtain ⟨k, rfl⟩ : ∃ k, c = M + k := ⟨c - M, by omega⟩
        have a := hh_mono y0 y1 M k 0
        have b := rpow_nonneg y0 (M + k)
        grind
      · obtain ⟨k, rfl⟩ : ∃ k, M = c + k := ⟨M - c, by omega⟩
        exact hh_tail y0 y1 c k 0
    unfold atS
    have w0 := rpow_nonneg y0 c
    generalize ((x * x) ^ c : Rat) = w at *
    generalize hh (x * x) M 0 = HM at *
    generalize hh (x * x) c 0 = H at *
    generalize (dh P q c 0 : Rat) = D at *
    generalize ((dh P q c 0 * r / P : Nat) : Rat) = F at *
    generalize (r : Rat) = R at *
    generalize (P : Rat) = p at *
    refine rcancel (c := p) ?_ p0
    have px0 : 0 ≤ p * x := by have := rmul_le x0 (Rat.le_of_lt p0); grind
    have a1 := rmul_le tail px0
    have a2 := rmul_le B px0
    have a3 := rmul_le s2 hd0
    have a4 := rmul_le hc x0
    have a5 := rmul_le x1 (Rat.le_of_lt p0)
    have a6 := rmul_le g2 (Rat.le_of_lt p0)
    have a7 := rmul_le a4 (Rat.le_of_lt p0)
    have a8 := rmul_le a1 (Rat.le_of_lt p0)
    have a9 := rmul_le a2 (Rat.le_of_lt p0)
    grind
end Go.Proofs.YtngldpmnbdgkiaaDoor
