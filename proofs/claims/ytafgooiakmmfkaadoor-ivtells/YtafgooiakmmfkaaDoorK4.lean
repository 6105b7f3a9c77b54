/- SrMath, SrExp, SrAdd, SrTail, SrRef, SrRefW, SrRefX, SrLaw, SrAlive, SrHold, SrDiff, SrExpAt, SrAddsM, SrTo, SrScalM, SrWith: joined. -/
import Derived.Test.YtafgooiakmmfkaaDoorLimbs
import Derived.Test.YtafgooiakmmfkaaDoorK3
import Derived.Test.YtafgooiakmmfkaaDoorK1
import Derived.Test.YtafgooiakmmfkaaDoorK2
import Derived.Deep.Cut
/- Sums without an end, held between two numbers, over fractions: atanh and exp as they are reckoned from the last term to the first (Horner), and what cutting each step down leaves out. -/
namespace Go.Proofs.YtafgooiakmmfkaaDoor

theorem nat_div_le (a b : Nat) : ((a / b : Nat) : Rat) * b ≤ a := by
  have h := Nat.div_mul_le_self a b
  have h2 : ((a / b * b : Nat) : Rat) ≤ (a : Rat) := by exact_mod_cast h
  grind
theorem nat_div_ge (a b : Nat) (hb : 0 < b) : (a : Rat) ≤ ((a / b : Nat) : Rat) * b + b := by
  have h : a ≤ a / b * b + b := by
    have h1 := Nat.div_add_mod a b
    have h2 := Nat.mod_lt a hb
    rw [Nat.mul_comm] at h1
    omega
  have h2 : (a : Rat) ≤ ((a / b * b + b : Nat) : Rat) := by exact_mod_cast h
  grind
theorem rmul_le {a b c : Rat} (h : a ≤ b) (hc : 0 ≤ c) : c * a ≤ c * b := Rat.mul_le_mul_of_nonneg_left h hc
theorem rcancel {a b c : Rat} (h : c * a ≤ c * b) (hc : 0 < c) : a ≤ b := by
  rcases Rat.le_total (a := a) (b := b) with h1 | h1
  · exact h1
  · have h2 := rmul_le h1 (Rat.le_of_lt hc)
    have h3 : c * (a - b) = 0 := by grind
    have h4 : a - b = 0 := by grind
    grind
theorem rnat_pos {n : Nat} (h : 0 < n) : (0 : Rat) < (n : Rat) := by exact_mod_cast h
theorem rnat_nonneg (n : Nat) : (0 : Rat) ≤ (n : Rat) := by exact_mod_cast Nat.zero_le n

/-- One divided by an odd number. -/
theorem inv_odd (n : Nat) : 1 / ((2 * n + 1 : Nat) : Rat) ≤ 1 ∧ 0 ≤ 1 / ((2 * n + 1 : Nat) : Rat) := by
  have h : (1 : Rat) ≤ ((2 * n + 1 : Nat) : Rat) := by exact_mod_cast (show 1 ≤ 2 * n + 1 by omega)
  have h0 : (0 : Rat) < ((2 * n + 1 : Nat) : Rat) := by grind
  generalize ((2 * n + 1 : Nat) : Rat) = d at *
  constructor
  · rw [Rat.div_def]
    have := rmul_le h (Rat.le_of_lt (Rat.inv_pos.2 h0))
    grind
  · rw [Rat.div_def]
    have := Rat.le_of_lt (Rat.inv_pos.2 h0)
    grind

/-- 1/(2n+1) + y/(2n+3) + .. : c terms. -/
def hh (y : Rat) : Nat → Nat → Rat
  | 0, _ => 0
  | c + 1, n => 1 / ((2 * n + 1 : Nat) : Rat) + y * hh y c (n + 1)
theorem hh_bd {y : Rat} (h0 : 0 ≤ y) (h1 : 9 * y ≤ 1) : ∀ c n, 0 ≤ hh y c n ∧ 8 * hh y c n ≤ 9 := by
  intro c
  induction c with
  | zero => intro n; simp [hh]; decide
  | succ c ih =>
    intro n
    obtain ⟨i1, i2⟩ := ih (n + 1)
    obtain ⟨j1, j2⟩ := inv_odd n
    have k1 := rmul_le i1 h0
    have k2 := rmul_le i2 h0
    have k3 := rmul_le h1 i1
    simp only [hh]
    constructor
    · grind
    · grind
/-- More terms. -/
theorem hh_more {y : Rat} : ∀ c d n, hh y (c + d) n = hh y c n + y ^ c * hh y d (n + c) := by
  intro c
  induction c with
  | zero =>
    intro d n
    simp only [hh, Rat.pow_zero, Nat.zero_add, Nat.add_zero]
    grind
  | succ c ih =>
    intro d n
    have e : c + 1 + d = (c + d) + 1 := by omega
    rw [e]
    simp only [hh]
    rw [ih d (n + 1), show n + 1 + c = n + (c + 1) by omega, Rat.pow_succ]
    grind
theorem rpow_nonneg {y : Rat} (h : 0 ≤ y) (c : Nat) : 0 ≤ y ^ c := by
  induction c with
  | zero => rw [Rat.pow_zero]; decide
  | succ c ih =>
    rw [Rat.pow_succ]
    have := rmul_le h ih
    grind
theorem hh_mono {y : Rat} (h0 : 0 ≤ y) (h1 : 9 * y ≤ 1) (c d n : Nat) : hh y c n ≤ hh y (c + d) n := by
  rw [hh_more]
  have := rmul_le (hh_bd h0 h1 d (n + c)).1 (rpow_nonneg h0 c)
  grind
/-- What is left out: at most 9/8 of y to the power of the number of terms. -/
theorem hh_tail {y : Rat} (h0 : 0 ≤ y) (h1 : 9 * y ≤ 1) (c d n : Nat) : 8 * hh y (c + d) n ≤ 8 * hh y c n + 9 * y ^ c := by
  rw [hh_more]
  have := rmul_le (hh_bd h0 h1 d (n + c)).2 (rpow_nonneg h0 c)
  grind

/-- As it is reckoned at scale P: each step cut down. -/
def dh (P q : Nat) : Nat → Nat → Nat
  | 0, _ => 0
  | c + 1, n => P / (2 * n + 1) + dh P q c (n + 1) * q / P
/-- Not above. -/
theorem dh_le {P q : Nat} {y : Rat} (hP : 0 < P) (hq : (q : Rat) ≤ P * y) : ∀ c n, (dh P q c n : Rat) ≤ P * hh y c n := by
  intro c
  induction c with
  | zero => intro n; simp [dh, hh]
  | succ c ih =>
    intro n
    have i := ih (n + 1)
    have p0 := rnat_pos hP
    have a1 := nat_div_le P (2 * n + 1)
    have a2 := nat_div_le (dh P q c (n + 1) * q) P
    have a3 : (((P / (2 * n + 1) : Nat) : Rat)) ≤ P * (1 / ((2 * n + 1 : Nat) : Rat)) := by
      have d0 : (0 : Rat) < ((2 * n + 1 : Nat) : Rat) := rnat_pos (by omega)
      refine rcancel (c := ((2 * n + 1 : Nat) : Rat)) ?_ d0
      generalize ((2 * n + 1 : Nat) : Rat) = d at *
      have : d * (P * (1 / d)) = P := by grind
      rw [this]
      grind
    have q0 := rnat_nonneg q
    have b1 := rmul_le i q0
    have b2 := rmul_le hq (show 0 ≤ P * hh y c (n + 1) from by have := rnat_nonneg (dh P q c (n + 1)); grind)
    have b3 : ((dh P q c (n + 1) * q / P : Nat) : Rat) ≤ P * (y * hh y c (n + 1)) := by
      refine rcancel (c := (P : Rat)) ?_ p0
      have e : ((dh P q c (n + 1) * q : Nat) : Rat) = (dh P q c (n + 1) : Rat) * q := by exact_mod_cast rfl
      rw [e] at a2
      grind
    simp only [dh, hh]
    have e2 : ((P / (2 * n + 1) + dh P q c (n + 1) * q / P : Nat) : Rat) = ((P / (2 * n + 1) : Nat) : Rat) + ((dh P q c (n + 1) * q / P : Nat) : Rat) := by exact_mod_cast rfl
    rw [e2]
    grind
/-- Not far below. -/
theorem dh_ge {P q : Nat} {y : Rat} (hP : 0 < P) (h0 : 0 ≤ y) (h1 : 9 * y ≤ 1) (hq : (q : Rat) ≤ P * y) (hq2 : P * y ≤ q + 2) : ∀ c n, P * hh y c n ≤ (dh P q c n : Rat) + 8 := by
  intro c
  induction c with
  | zero => intro n; simp only [dh, hh]; grind
  | succ c ih =>
    intro n
    have i := ih (n + 1)
    have u := dh_le hP hq c (n + 1)
    obtain ⟨g1, g2⟩ := hh_bd h0 h1 c (n + 1)
    have p0 := rnat_pos hP
    have a1 := nat_div_ge P (2 * n + 1) (by omega)
    have a2 := nat_div_ge (dh P q c (n + 1) * q) P hP
    have a3 : P * (1 / ((2 * n + 1 : Nat) : Rat)) ≤ ((P / (2 * n + 1) : Nat) : Rat) + 1 := by
      have d0 : (0 : Rat) < ((2 * n + 1 : Nat) : Rat) := rnat_pos (by omega)
      refine rcancel (c := ((2 * n + 1 : Nat) : Rat)) ?_ d0
      generalize ((2 * n + 1 : Nat) : Rat) = d at *
      have : d * (P * (1 / d)) = P := by grind
      rw [this]
      grind
    have e : ((dh P q c (n + 1) * q : Nat) : Rat) = (dh P q c (n + 1) : Rat) * q := by exact_mod_cast rfl
    rw [e] at a2
    simp only [dh, hh]
    have e2 : ((P / (2 * n + 1) + dh P q c (n + 1) * q / P : Nat) : Rat) = ((P / (2 * n + 1) : Nat) : Rat) + ((dh P q c (n + 1) * q / P : Nat) : Rat) := by exact_mod_cast rfl
    rw [e2]
    have d0 := rnat_nonneg (dh P q c (n + 1))
    generalize hh y c (n + 1) = H at *
    generalize (dh P q c (n + 1) : Rat) = D at *
    generalize ((dh P q c (n + 1) * q / P : Nat) : Rat) = F at *
    generalize ((P / (2 * n + 1) : Nat) : Rat) = C at *
    generalize (1 / ((2 * n + 1 : Nat) : Rat)) = I at *
    generalize (q : Rat) = Q at *
    generalize (P : Rat) = R at *
    have b3 : R * (y * H) ≤ F + 6 := by
      refine rcancel (c := R) ?_ p0
      have t1 := rmul_le i (show 0 ≤ R * y from by have := rmul_le h0 (Rat.le_of_lt p0); grind)
      have t2 := rmul_le hq2 d0
      have t3 := rmul_le h1 (Rat.le_of_lt p0)
      have t4 := rmul_le g2 (Rat.le_of_lt p0)
      grind
    grind

/-- c terms of atanh. -/
def atS (x : Rat) (c : Nat) : Rat := x * hh (x * x) c 0
/-- As the document reckons it at scale P, with c terms. -/
def dA (P num den c : Nat) : Nat := dh P (num * P / den * (num * P / den) / P) c 0 * (num * P / den) / P
theorem third {x : Rat} (h0 : 0 ≤ x) (h1 : 3 * x ≤ 1) : 0 ≤ x * x ∧ 9 * (x * x) ≤ 1 := by
  have a := rmul_le h0 h0
  have b := rmul_le h1 h0
  constructor <;> grind
theorem atS_mono {x : Rat} (h0 : 0 ≤ x) (h1 : 3 * x ≤ 1) (c d : Nat) : atS x c ≤ atS x (c + d) := by
  obtain ⟨y0, y1⟩ := third h0 h1
  exact rmul_le (hh_mono y0 y1 c d 0) h0
/-- What the document reckons: not above so many terms, and not far below any number of them. -/
theorem dA_spec {P num den c : Nat} {x : Rat} (hP : 8 ≤ P) (hd : 0 < den) (hx : x * den = num) (h3 : 3 * num ≤ den) (hc : (P : Rat) * (x * x) ^ c ≤ 1) :
    (dA P num den c : Rat) ≤ P * atS x c ∧ ∀ M, P * atS x M ≤ (dA P num den c : Rat) + 8 := by
  have d0 := rnat_pos hd
  have p0 := rnat_pos (show 0 < P by omega)
  have p8 : (8 : Rat) ≤ (P : Rat) := by exact_mod_cast hP
  have n0 := rnat_nonneg num
  have x0 : 0 ≤ x := rcancel (c := (den : Rat)) (by grind) d0
  have h3' : 3 * (num : Rat) ≤ den := by exact_mod_cast h3
  have x1 : 3 * x ≤ 1 := rcancel (c := (den : Rat)) (by grind) d0
  obtain ⟨y0, y1⟩ := third x0 x1
  obtain ⟨r, hr⟩ : ∃ r, num * P / den = r := ⟨_, rfl⟩
  obtain ⟨q, hq⟩ : ∃ q, r * r / P = q := ⟨_, rfl⟩
  have r1 := nat_div_le (num * P) den
  have r2 := nat_div_ge (num * P) den hd
  rw [hr] at r1 r2
  have e1 : ((num * P : Nat) : Rat) = (num : Rat) * P := by exact_mod_cast rfl
  rw [e1] at r1 r2
  have s1 : (r : Rat) ≤ P * x := rcancel (c := (den : Rat)) (by grind) d0
  have s2 : P * x ≤ (r : Rat) + 1 := rcancel (c := (den : Rat)) (by grind) d0
  have q1 := nat_div_le (r * r) P
  have q2 := nat_div_ge (r * r) P (by omega)
  rw [hq] at q1 q2
  have e2 : ((r * r : Nat) : Rat) = (r : Rat) * r := by exact_mod_cast rfl
  rw [e2] at q1 q2
  have r0 := rnat_nonneg r
  have t1 : (q : Rat) ≤ P * (x * x) := by
    refine rcancel (c := (P : Rat)) ?_ p0
    have a := rmul_le s1 r0
    have b := rmul_le s1 (show 0 ≤ P * x by grind)
    grind
  have t2 : P * (x * x) ≤ (q : Rat) + 2 := by
    refine rcancel (c := (P : Rat)) ?_ p0
    have a := rmul_le s2 (show 0 ≤ P * x by grind)
    have b := rmul_le s2 (show 0 ≤ (r : Rat) + 1 by grind)
    have c3 := rmul_le x1 (Rat.le_of_lt p0)
    grind
  have A := dh_le (show 0 < P by omega) t1 c 0
  have B := dh_ge (show 0 < P by omega) y0 y1 t1 t2 c 0
  obtain ⟨g1, g2⟩ := hh_bd y0 y1 c 0
  have f1 := nat_div_le (dh P q c 0 * r) P
  have f2 := nat_div_ge (dh P q c 0 * r) P (by omega)
  have e3 : ((dh P q c 0 * r : Nat) : Rat) = (dh P q c 0 : Rat) * r := by exact_mod_cast rfl
  rw [e3] at f1 f2
  have hd0 := rnat_nonneg (dh P q c 0)
  have hdA : dA P num den c = dh P q c 0 * r / P := by unfold dA; rw [hr, hq]
  rw [hdA]
  constructor
  · refine rcancel (c := (P : Rat)) ?_ p0
    unfold atS
    have a := rmul_le s1 hd0
    have b := rmul_le A (show 0 ≤ P * x by grind)
    grind
  · intro M
    have tail : 8 * hh (x * x) M 0 ≤ 8 * hh (x * x) c 0 + 9 * (x * x) ^ c := by
      rcases Nat.le_total M c with h | h
      · obtain ⟨k, rfl⟩ : ∃ k, c = M + k := ⟨c - M, by omega⟩
        have a := hh_mono y0 y1 M k 0
        have b := rpow_nonneg y0 (M + k)
        grind
      · obtain ⟨k, rfl⟩ : ∃ k, M = c + k := ⟨M - c, by omega⟩
        exact hh_tail y0 y1 c k 0
    unfold atS
    have w0 := rpow_nonneg y0 c
    generalize ((x * x) ^ c : Rat) = w at *
    generalize hh (x * x) M 0 = HM at *
    generalize hh (x * x) c 0 = H at *
    generalize (dh P q c 0 : Rat) = D at *
    generalize ((dh P q c 0 * r / P : Nat) : Rat) = F at *
    generalize (r : Rat) = R at *
    generalize (P : Rat) = p at *
    refine rcancel (c := p) ?_ p0
    have px0 : 0 ≤ p * x := by have := rmul_le x0 (Rat.le_of_lt p0); grind
    have a1 := rmul_le tail px0
    have a2 := rmul_le B px0
    have a3 := rmul_le s2 hd0
    have a4 := rmul_le hc x0
    have a5 := rmul_le x1 (Rat.le_of_lt p0)
    have a6 := rmul_le g2 (Rat.le_of_lt p0)
    have a7 := rmul_le a4 (Rat.le_of_lt p0)
    have a8 := rmul_le a1 (Rat.le_of_lt p0)
    have a9 := rmul_le a2 (Rat.le_of_lt p0)
    grind
end Go.Proofs.YtafgooiakmmfkaaDoor
/- exp as it is reckoned from the last term to the first, over fractions, and what cutting each step down leaves out. -/
namespace Go.Proofs.YtafgooiakmmfkaaDoor

/-- 1 + x/n + x^2/(n (n+1)) + .. : c terms behind the 1. -/
def ge_ (x : Rat) : Nat → Nat → Rat
  | 0, _ => 1
  | c + 1, n => 1 + x * (1 / (n : Rat)) * ge_ x c (n + 1)
/-- x^c / (n (n+1) .. (n+c-1)). -/
def tt (x : Rat) : Nat → Nat → Rat
  | 0, _ => 1
  | c + 1, n => x * (1 / (n : Rat)) * tt x c (n + 1)
theorem inv_nat {n : Nat} (hn : 0 < n) : ∃ i : Rat, 1 / (n : Rat) = i ∧ (n : Rat) * i = 1 ∧ 0 ≤ i ∧ i ≤ 1 := by
  have h0 := rnat_pos hn
  have h1 : (1 : Rat) ≤ (n : Rat) := by exact_mod_cast hn
  refine ⟨_, rfl, by grind, ?_, ?_⟩
  · rw [Rat.div_def]
    have := Rat.le_of_lt (Rat.inv_pos.2 h0)
    grind
  · rw [Rat.div_def]
    have := rmul_le h1 (Rat.le_of_lt (Rat.inv_pos.2 h0))
    grind
theorem tt_nonneg {x : Rat} (h0 : 0 ≤ x) : ∀ c n, 0 < n → 0 ≤ tt x c n := by
  intro c
  induction c with
  | zero => intro n _; simp only [tt]; decide
  | succ c ih =>
    intro n hn
    obtain ⟨i, hi, i1, i2, i3⟩ := inv_nat hn
    have a := ih (n + 1) (by omega)
    simp only [tt]
    rw [hi]
    have b := rmul_le i2 h0
    have d := rmul_le a (show 0 ≤ x * i by grind)
    grind
/-- At most 1 + 2/n. -/
theorem ge_bd {x : Rat} (h0 : 0 ≤ x) (h1 : x ≤ 1) : ∀ c n, 0 < n → 1 ≤ ge_ x c n ∧ (n : Rat) * ge_ x c n ≤ n + 2 := by
  intro c
  induction c with
  | zero =>
    intro n _
    simp only [ge_]
    constructor
    · grind
    · grind
  | succ c ih =>
    intro n hn
    obtain ⟨i, hi, i1, i2, i3⟩ := inv_nat hn
    obtain ⟨a, b⟩ := ih (n + 1) (by omega)
    have e : ((n + 1 : Nat) : Rat) = (n : Rat) + 1 := by exact_mod_cast rfl
    rw [e] at b
    have n1 : (1 : Rat) ≤ (n : Rat) := by exact_mod_cast hn
    simp only [ge_]
    rw [hi]
    generalize ge_ x c (n + 1) = G at *
    generalize (n : Rat) = m at *
    have xi := rmul_le i2 h0
    have g2 : G ≤ 2 := by
      refine rcancel (c := m + 1) ?_ (by grind)
      grind
    have k1 := rmul_le a (show 0 ≤ x * i by grind)
    have k2 := rmul_le h1 (show 0 ≤ G by grind)
    constructor
    · grind
    · have : m * (1 + x * i * G) = m + x * G := by grind
      rw [this]
      grind
/-- More terms. -/
theorem ge_more {x : Rat} : ∀ c d n, ge_ x (c + d) n = ge_ x c n + tt x c n * (ge_ x d (n + c) - 1) := by
  intro c
  induction c with
  | zero =>
    intro d n
    simp only [ge_, tt, Nat.zero_add, Nat.add_zero]
    grind
  | succ c ih =>
    intro d n
    rw [show c + 1 + d = (c + d) + 1 by omega]
    simp only [ge_, tt]
    rw [ih d (n + 1), show n + 1 + c = n + (c + 1) by omega]
    grind
theorem ge_mono {x : Rat} (h0 : 0 ≤ x) (h1 : x ≤ 1) (c d n : Nat) (hn : 0 < n) : ge_ x c n ≤ ge_ x (c + d) n := by
  rw [ge_more]
  have a := (ge_bd h0 h1 d (n + c) (by omega)).1
  have b := rmul_le (show 0 ≤ ge_ x d (n + c) - 1 by grind) (tt_nonneg h0 c n hn)
  grind
/-- What is left out: at most twice the last term. -/
theorem ge_tail {x : Rat} (h0 : 0 ≤ x) (h1 : x ≤ 1) (c d n : Nat) (hn : 0 < n) : ge_ x (c + d) n ≤ ge_ x c n + 2 * tt x c n := by
  rw [ge_more]
  obtain ⟨a, b⟩ := ge_bd h0 h1 d (n + c) (by omega)
  have m1 : (1 : Rat) ≤ ((n + c : Nat) : Rat) := by exact_mod_cast (show 1 ≤ n + c by omega)
  have g3 : ge_ x d (n + c) ≤ 3 := by
    generalize ge_ x d (n + c) = G at *
    generalize ((n + c : Nat) : Rat) = m at *
    refine rcancel (c := m) ?_ (by grind)
    grind
  have k := rmul_le (show ge_ x d (n + c) - 1 ≤ 2 by grind) (tt_nonneg h0 c n hn)
  grind

/-- As the document reckons it at scale P. -/
def de (P a : Nat) : Nat → Nat → Nat
  | 0, _ => P
  | c + 1, n => P + de P a c (n + 1) * a / P / n
theorem de_le {P a : Nat} {x : Rat} (hP : 0 < P) (hx : (a : Rat) = P * x) (h0 : 0 ≤ x) : ∀ c n, 0 < n → (de P a c n : Rat) ≤ P * ge_ x c n := by
  intro c
  induction c with
  | zero => intro n _; simp only [de, ge_]; grind
  | succ c ih =>
    intro n hn
    obtain ⟨i, hi, i1, i2, i3⟩ := inv_nat hn
    have u := ih (n + 1) (by omega)
    have p0 := rnat_pos hP
    have m0 := rnat_pos hn
    have f1 := nat_div_le (de P a c (n + 1) * a) P
    have f2 := nat_div_le (de P a c (n + 1) * a / P) n
    have e : ((de P a c (n + 1) * a : Nat) : Rat) = (de P a c (n + 1) : Rat) * a := by exact_mod_cast rfl
    rw [e, hx] at f1
    simp only [de, ge_]
    have e2 : ((P + de P a c (n + 1) * a / P / n : Nat) : Rat) = (P : Rat) + ((de P a c (n + 1) * a / P / n : Nat) : Rat) := by exact_mod_cast rfl
    rw [e2, hi]
    have d0 := rnat_nonneg (de P a c (n + 1))
    generalize ge_ x c (n + 1) = G at *
    generalize (de P a c (n + 1) : Rat) = D at *
    generalize ((de P a c (n + 1) * a / P : Nat) : Rat) = F at *
    generalize ((de P a c (n + 1) * a / P / n : Nat) : Rat) = H at *
    generalize (n : Rat) = m at *
    generalize (P : Rat) = p at *
    have k1 : F ≤ D * x := by
      refine rcancel (c := p) ?_ p0
      grind
    have k2 := rmul_le u h0
    have k3 : H ≤ p * (x * i * G) := by
      refine rcancel (c := m) ?_ m0
      have : m * (p * (x * i * G)) = p * x * G := by grind
      rw [this]
      grind
    grind
theorem de_ge {P a : Nat} {x : Rat} (hP : 0 < P) (hx : (a : Rat) = P * x) (h0 : 0 ≤ x) (h1 : x ≤ 1) : ∀ (c n : Nat), 0 < n → (n : Rat) * (P * ge_ x c n) ≤ (n : Rat) * (de P a c n : Rat) + 2 * (n : Rat) + 4 := by
  intro c
  induction c with
  | zero =>
    intro n hn
    have m0 := rnat_pos hn
    simp only [de, ge_]
    grind
  | succ c ih =>
    intro n hn
    obtain ⟨i, hi, i1, i2, i3⟩ := inv_nat hn
    have u := ih (n + 1) (by omega)
    have p0 := rnat_pos hP
    have m0 := rnat_pos hn
    have m1 : (1 : Rat) ≤ (n : Rat) := by exact_mod_cast hn
    have f1 := nat_div_ge (de P a c (n + 1) * a) P hP
    have f2 := nat_div_ge (de P a c (n + 1) * a / P) n hn
    have e : ((de P a c (n + 1) * a : Nat) : Rat) = (de P a c (n + 1) : Rat) * a := by exact_mod_cast rfl
    have e3 : ((n + 1 : Nat) : Rat) = (n : Rat) + 1 := by exact_mod_cast rfl
    rw [e, hx] at f1
    rw [e3] at u
    simp only [de, ge_]
    have e2 : ((P + de P a c (n + 1) * a / P / n : Nat) : Rat) = (P : Rat) + ((de P a c (n + 1) * a / P / n : Nat) : Rat) := by exact_mod_cast rfl
    rw [e2, hi]
    have d0 := rnat_nonneg (de P a c (n + 1))
    generalize ge_ x c (n + 1) = G at *
    generalize (de P a c (n + 1) : Rat) = D at *
    generalize ((de P a c (n + 1) * a / P : Nat) : Rat) = F at *
    generalize ((de P a c (n + 1) * a / P / n : Nat) : Rat) = H at *
    generalize (n : Rat) = m at *
    generalize (P : Rat) = p at *
    have v : p * G ≤ D + 4 := by
      refine rcancel (c := m + 1) ?_ (by grind)
      grind
    have k1 : D * x ≤ F + 1 := by
      refine rcancel (c := p) ?_ p0
      grind
    have k2 := rmul_le v h0
    have k4 := rmul_le h1 (show (0 : Rat) ≤ 4 by decide)
    have : m * (p * (1 + x * i * G)) = m * p + x * (p * G) := by grind
    rw [this]
    grind
/-- What the document reckons of exp, with c terms behind the 1. -/
theorem de_spec {P a c : Nat} {x : Rat} (hP : 0 < P) (hx : (a : Rat) = P * x) (h0 : 0 ≤ x) (h1 : x ≤ 1) (hc : P * tt x c 1 ≤ 1) :
    (de P a c 1 : Rat) ≤ P * ge_ x c 1 ∧ ∀ M, P * ge_ x M 1 ≤ (de P a c 1 : Rat) + 8 := by
  refine ⟨de_le hP hx h0 c 1 (by decide), fun M => ?_⟩
  have a1 := de_ge hP hx h0 h1 c 1 (by decide)
  have p0 := rnat_pos hP
  have tail : ge_ x M 1 ≤ ge_ x c 1 + 2 * tt x c 1 := by
    rcases Nat.le_total M c with h | h
    · obtain ⟨k, rfl⟩ : ∃ k, c = M + k := ⟨c - M, by omega⟩
      have b1 := ge_mono h0 h1 M k 1 (by decide)
      have b2 := tt_nonneg h0 (M + k) 1 (by decide)
      grind
    · obtain ⟨k, rfl⟩ : ∃ k, M = c + k := ⟨M - c, by omega⟩
      exact ge_tail h0 h1 c k 1 (by decide)
  have b := rmul_le tail (Rat.le_of_lt p0)
  have e : ((1 : Nat) : Rat) = 1 := by exact_mod_cast rfl
  rw [e] at a1
  grind
end Go.Proofs.YtafgooiakmmfkaaDoor
/- exp of a sum, by so many terms: held by the product of both, and holding it. -/
namespace Go.Proofs.YtafgooiakmmfkaaDoor

theorem tt_last {x : Rat} : ∀ (c n : Nat), 0 < n → ((n + c : Nat) : Rat) * tt x (c + 1) n = x * tt x c n := by
  intro c
  induction c with
  | zero =>
    intro n hn
    obtain ⟨i, hi, i1, _⟩ := inv_nat hn
    simp only [tt, Nat.add_zero]
    rw [hi]
    grind
  | succ c ih =>
    intro n hn
    obtain ⟨i, hi, i1, _⟩ := inv_nat hn
    have a := ih (n + 1) (by omega)
    rw [show n + 1 + c = n + (c + 1) by omega] at a
    have e1 : tt x (c + 1 + 1) n = x * (1 / (n : Rat)) * tt x (c + 1) (n + 1) := rfl
    have e2 : tt x (c + 1) n = x * (1 / (n : Rat)) * tt x c (n + 1) := rfl
    rw [e1, e2, hi]
    generalize tt x (c + 1) (n + 1) = T at *
    generalize tt x c (n + 1) = U at *
    generalize ((n + (c + 1) : Nat) : Rat) = m at *
    grind
/-- The terms. -/
def tk (x : Rat) (k : Nat) : Rat := tt x k 1
/-- So many terms. -/
def eS (x : Rat) (c : Nat) : Rat := ge_ x c 1
theorem tk_zero (x : Rat) : tk x 0 = 1 := rfl
theorem tk_succ (x : Rat) (k : Nat) : ((k + 1 : Nat) : Rat) * tk x (k + 1) = x * tk x k := by
  have := tt_last (x := x) k 1 (by decide)
  rw [Nat.add_comm 1 k] at this
  exact this
theorem eS_zero (x : Rat) : eS x 0 = 1 := rfl
theorem eS_succ (x : Rat) (c : Nat) : eS x (c + 1) = eS x c + tk x (c + 1) := by
  unfold eS tk
  rw [ge_more]
  have a := tt_last (x := x) c 1 (by decide)
  obtain ⟨i, hi, i1, _⟩ := inv_nat (n := 1 + c) (by omega)
  simp only [ge_]
  rw [hi]
  generalize tt x (c + 1) 1 = T at *
  generalize tt x c 1 = U at *
  generalize ((1 + c : Nat) : Rat) = m at *
  grind
theorem tk_nonneg {x : Rat} (h : 0 ≤ x) (k : Nat) : 0 ≤ tk x k := tt_nonneg h k 1 (by decide)

/-- f 0 + .. + f (n-1). -/
def sm (f : Nat → Rat) : Nat → Rat
  | 0 => 0
  | n + 1 => sm f n + f n
theorem sm_congr {f g : Nat → Rat} : ∀ n, (∀ i, i < n → f i = g i) → sm f n = sm g n := by
  intro n
  induction n with
  | zero => intro _; rfl
  | succ n ih =>
    intro h
    simp only [sm]
    rw [ih (fun i hi => h i (by omega)), h n (by omega)]
theorem sm_le {f g : Nat → Rat} : ∀ n, (∀ i, i < n → f i ≤ g i) → sm f n ≤ sm g n := by
  intro n
  induction n with
  | zero => intro _; simp only [sm]; grind
  | succ n ih =>
    intro h
    simp only [sm]
    have a := ih (fun i hi => h i (by omega))
    have b := h n (by omega)
    grind
theorem sm_add (f g : Nat → Rat) (n : Nat) : sm (fun i => f i + g i) n = sm f n + sm g n := by
  induction n with
  | zero => simp only [sm]; grind
  | succ n ih => simp only [sm]; grind
theorem sm_mul (f : Nat → Rat) (a : Rat) (n : Nat) : sm (fun i => a * f i) n = a * sm f n := by
  induction n with
  | zero => simp only [sm]; grind
  | succ n ih => simp only [sm]; grind
/-- The first one taken off. -/
theorem sm_head (f : Nat → Rat) (n : Nat) : sm f (n + 1) = f 0 + sm (fun i => f (i + 1)) n := by
  induction n with
  | zero => simp only [sm]; grind
  | succ n ih =>
    have e : sm f (n + 1 + 1) = sm f (n + 1) + f (n + 1) := rfl
    rw [e, ih]
    simp only [sm]
    grind
theorem sm_more {f : Nat → Rat} {n : Nat} (h : ∀ i, 0 ≤ f i) (m : Nat) : sm f n ≤ sm f (n + m) := by
  induction m with
  | zero => exact Rat.le_refl
  | succ m ih =>
    have e : sm f (n + (m + 1)) = sm f (n + m) + f (n + m) := rfl
    rw [e]
    have := h (n + m)
    grind
theorem eS_sum (x : Rat) (c : Nat) : eS x c = sm (tk x) (c + 1) := by
  induction c with
  | zero => simp only [sm]; rw [eS_zero, tk_zero]; grind
  | succ c ih => rw [eS_succ, ih]; rfl

/-- The terms of a product, by degree. -/
def ck (x y : Rat) (k : Nat) : Rat := sm (fun i => tk x i * tk y (k - i)) (k + 1)
theorem ck_succ (x y : Rat) (k : Nat) : ((k + 1 : Nat) : Rat) * ck x y (k + 1) = (x + y) * ck x y k := by
  have A : sm (fun i => (i : Rat) * (tk x i * tk y (k + 1 - i))) (k + 1 + 1) = x * ck x y k := by
    rw [sm_head]
    have e0 : ((0 : Nat) : Rat) * (tk x 0 * tk y (k + 1 - 0)) = 0 := by
      have : ((0 : Nat) : Rat) = 0 := rfl
      rw [this]; grind
    rw [e0]
    unfold ck
    rw [← sm_mul]
    have : sm (fun i => ((i + 1 : Nat) : Rat) * (tk x (i + 1) * tk y (k + 1 - (i + 1)))) (k + 1) = sm (fun i => x * (tk x i * tk y (k - i))) (k + 1) := by
      refine sm_congr _ (fun i _ => ?_)
      have a := tk_succ x i
      rw [show k + 1 - (i + 1) = k - i by omega]
      grind
    rw [this]
    grind
  have B : sm (fun i => ((k + 1 - i : Nat) : Rat) * (tk x i * tk y (k + 1 - i))) (k + 1 + 1) = y * ck x y k := by
    have e : sm (fun i => ((k + 1 - i : Nat) : Rat) * (tk x i * tk y (k + 1 - i))) (k + 1 + 1) = sm (fun i => ((k + 1 - i : Nat) : Rat) * (tk x i * tk y (k + 1 - i))) (k + 1) + ((k + 1 - (k + 1) : Nat) : Rat) * (tk x (k + 1) * tk y (k + 1 - (k + 1))) := rfl
    rw [e, Nat.sub_self]
    have z : ((0 : Nat) : Rat) = 0 := rfl
    rw [z]
    unfold ck
    rw [← sm_mul]
    have : sm (fun i => ((k + 1 - i : Nat) : Rat) * (tk x i * tk y (k + 1 - i))) (k + 1) = sm (fun i => y * (tk x i * tk y (k - i))) (k + 1) := by
      refine sm_congr _ (fun i hi => ?_)
      have a := tk_succ y (k - i)
      rw [show k - i + 1 = k + 1 - i by omega] at a
      grind
    rw [this]
    grind
  have C : sm (fun i => ((k + 1 : Nat) : Rat) * (tk x i * tk y (k + 1 - i))) (k + 1 + 1) = sm (fun i => (i : Rat) * (tk x i * tk y (k + 1 - i)) + ((k + 1 - i : Nat) : Rat) * (tk x i * tk y (k + 1 - i))) (k + 1 + 1) := by
    refine sm_congr _ (fun i hi => ?_)
    have e : ((k + 1 : Nat) : Rat) = (i : Rat) + ((k + 1 - i : Nat) : Rat) := by
      have : k + 1 = i + (k + 1 - i) := by omega
      exact_mod_cast this
    rw [e]
    grind
  rw [sm_add, A, B, sm_mul] at C
  have D : ck x y (k + 1) = sm (fun i => tk x i * tk y (k + 1 - i)) (k + 1 + 1) := rfl
  rw [D, C]
  grind
/-- The terms of exp of a sum. -/
theorem tk_add (x y : Rat) (k : Nat) : tk (x + y) k = ck x y k := by
  induction k with
  | zero =>
    unfold ck
    simp only [sm, Nat.sub_zero]
    rw [tk_zero, tk_zero, tk_zero]
    grind
  | succ k ih =>
    have a := tk_succ (x + y) k
    have b := ck_succ x y k
    rw [ih] at a
    have m0 : (0 : Rat) < ((k + 1 : Nat) : Rat) := rnat_pos (by omega)
    generalize ((k + 1 : Nat) : Rat) = m at *
    have h : m * (tk (x + y) (k + 1) - ck x y (k + 1)) = 0 := by grind
    grind
/-- exp of a sum, by rows. -/
theorem eS_rows (x y : Rat) (K : Nat) : eS (x + y) K = sm (fun i => tk x i * eS y (K - i)) (K + 1) := by
  induction K with
  | zero =>
    simp only [sm, Nat.sub_zero]
    rw [eS_zero, eS_zero, tk_zero]
    grind
  | succ K ih =>
    rw [eS_succ, ih, tk_add]
    have e1 : ck x y (K + 1) = sm (fun i => tk x i * tk y (K + 1 - i)) (K + 1) + tk x (K + 1) * tk y (K + 1 - (K + 1)) := rfl
    have e2 : sm (fun i => tk x i * eS y (K + 1 - i)) (K + 1 + 1) = sm (fun i => tk x i * eS y (K + 1 - i)) (K + 1) + tk x (K + 1) * eS y (K + 1 - (K + 1)) := rfl
    rw [e1, e2, Nat.sub_self, tk_zero, eS_zero]
    have e3 : sm (fun i => tk x i * eS y (K + 1 - i)) (K + 1) = sm (fun i => tk x i * eS y (K - i) + tk x i * tk y (K + 1 - i)) (K + 1) := by
      refine sm_congr _ (fun i hi => ?_)
      have := eS_succ y (K - i)
      rw [show K - i + 1 = K + 1 - i by omega] at this
      rw [this]
      grind
    rw [e3, sm_add]
    grind
theorem eS_nonneg {x : Rat} (h : 0 ≤ x) (c : Nat) : 1 ≤ eS x c := by
  induction c with
  | zero => rw [eS_zero]; exact Rat.le_refl
  | succ c ih =>
    rw [eS_succ]
    have := tk_nonneg h (c + 1)
    grind
theorem eS_mono {x : Rat} (h : 0 ≤ x) (c d : Nat) : eS x c ≤ eS x (c + d) := by
  rw [eS_sum, eS_sum, show c + d + 1 = c + 1 + d by omega]
  exact sm_more (tk_nonneg h) d
/-- exp of a sum isn't above the product of both, by as many terms. -/
theorem eS_add_le {x y : Rat} (hx : 0 ≤ x) (hy : 0 ≤ y) (K : Nat) : eS (x + y) K ≤ eS x K * eS y K := by
  rw [eS_rows]
  have a : sm (fun i => tk x i * eS y (K - i)) (K + 1) ≤ sm (fun i => eS y K * tk x i) (K + 1) := by
    refine sm_le _ (fun i hi => ?_)
    have m := eS_mono hy (K - i) i
    rw [Nat.sub_add_cancel (by omega)] at m
    have := rmul_le m (tk_nonneg hx i)
    grind
  rw [sm_mul, ← eS_sum] at a
  grind
/-- .. and the product of both isn't above it, by all the terms. -/
theorem eS_mul_le {x y : Rat} (hx : 0 ≤ x) (hy : 0 ≤ y) (N M : Nat) : eS x N * eS y M ≤ eS (x + y) (N + M) := by
  rw [eS_rows]
  have a : sm (fun i => eS y M * tk x i) (N + 1) ≤ sm (fun i => tk x i * eS y (N + M - i)) (N + 1) := by
    refine sm_le _ (fun i hi => ?_)
    have m := eS_mono hy M (N - i)
    rw [show M + (N - i) = N + M - i by omega] at m
    have := rmul_le m (tk_nonneg hx i)
    grind
  have b : sm (fun i => tk x i * eS y (N + M - i)) (N + 1) ≤ sm (fun i => tk x i * eS y (N + M - i)) (N + 1 + M) := by
    refine sm_more (fun i => ?_) M
    have h1 := eS_nonneg hy (N + M - i)
    have := rmul_le (show 0 ≤ eS y (N + M - i) by grind) (tk_nonneg hx i)
    grind
  rw [sm_mul, ← eS_sum] at a
  rw [show N + M + 1 = N + 1 + M by omega]
  grind
end Go.Proofs.YtafgooiakmmfkaaDoor
/- How many terms are enough: numbers alone. -/
namespace Go.Proofs.YtafgooiakmmfkaaDoor

theorem eight_pow {y : Rat} (h0 : 0 ≤ y) (h1 : 9 * y ≤ 1) : ∀ c : Nat, ((8 ^ c : Nat) : Rat) * y ^ c ≤ 1 := by
  intro c
  induction c with
  | zero =>
    have e1 : ((8 ^ 0 : Nat) : Rat) = 1 := by exact_mod_cast rfl
    have e2 : y ^ 0 = 1 := Rat.pow_zero _
    rw [e1, e2]
    grind
  | succ c ih =>
    have e1 : ((8 ^ (c + 1) : Nat) : Rat) = ((8 ^ c : Nat) : Rat) * 8 := by rw [Nat.pow_succ]; exact_mod_cast rfl
    have e2 : y ^ (c + 1) = y ^ c * y := Rat.pow_succ _ _
    have p0 := rpow_nonneg h0 c
    have n0 := rnat_nonneg (8 ^ c)
    rw [e1, e2]
    generalize ((8 ^ c : Nat) : Rat) = P at *
    generalize y ^ c = Q at *
    have q0 : 0 ≤ P * Q := by
      have := rmul_le p0 n0
      grind
    have m1 := rmul_le h1 q0
    have m2 := rmul_le h0 q0
    grind
/-- atanh: a ninth each. -/
theorem at_tail {x : Rat} (h0 : 0 ≤ x) (h1 : 3 * x ≤ 1) (s : Nat) : ((2 ^ s : Nat) : Rat) * (x * x) ^ (s / 3 + 3) ≤ 1 := by
  obtain ⟨y0, y1⟩ := third h0 h1
  have h := eight_pow y0 y1 (s / 3 + 3)
  have p0 := rpow_nonneg y0 (s / 3 + 3)
  have hle : 2 ^ s ≤ 8 ^ (s / 3 + 3) := by
    rw [show (8 : Nat) = 2 ^ 3 from rfl, ← Nat.pow_mul]
    exact Nat.pow_le_pow_right (by decide) (by omega)
  have hle' : ((2 ^ s : Nat) : Rat) ≤ ((8 ^ (s / 3 + 3) : Nat) : Rat) := by exact_mod_cast hle
  generalize ((2 ^ s : Nat) : Rat) = P at *
  generalize ((8 ^ (s / 3 + 3) : Nat) : Rat) = Q at *
  generalize (x * x) ^ (s / 3 + 3) = R at *
  have := rmul_le hle' p0
  grind

def fac : Nat → Nat
  | 0 => 1
  | n + 1 => (n + 1) * fac n
theorem fac_pos : ∀ n, 0 < fac n
  | 0 => Nat.one_pos
  | n + 1 => Nat.mul_pos (Nat.succ_pos n) (fac_pos n)
theorem fac_tk {x : Rat} (h0 : 0 ≤ x) (h1 : x ≤ 1) : ∀ n : Nat, (fac n : Rat) * tk x n ≤ 1 := by
  intro n
  induction n with
  | zero =>
    have e1 : ((fac 0 : Nat) : Rat) = 1 := by exact_mod_cast rfl
    rw [e1, tk_zero]
    grind
  | succ n ih =>
    have e1 : ((fac (n + 1) : Nat) : Rat) = ((n + 1 : Nat) : Rat) * (fac n : Rat) := by rw [fac]; exact_mod_cast rfl
    have e2 := tk_succ x n
    have k0 := tk_nonneg h0 n
    have f0 := rnat_nonneg (fac n)
    rw [e1]
    generalize ((n + 1 : Nat) : Rat) = N at *
    generalize (fac n : Rat) = F at *
    generalize tk x (n + 1) = T1 at *
    generalize tk x n = T at *
    have q0 : 0 ≤ F * T := by
      have := rmul_le k0 f0
      grind
    have m := rmul_le h1 q0
    have e3 : N * F * T1 = F * (N * T1) := by grind
    rw [e3, e2]
    grind
/-- exp: the factorial. -/
theorem ex_tail {x : Rat} (h0 : 0 ≤ x) (h1 : x ≤ 1) {s n : Nat} (h : 2 ^ s ≤ fac n) : ((2 ^ s : Nat) : Rat) * tt x n 1 ≤ 1 := by
  have hle : ((2 ^ s : Nat) : Rat) ≤ (fac n : Rat) := by exact_mod_cast h
  have k0 : 0 ≤ tt x n 1 := tk_nonneg h0 n
  have hf : (fac n : Rat) * tt x n 1 ≤ 1 := fac_tk h0 h1 n
  generalize ((2 ^ s : Nat) : Rat) = P at *
  generalize (fac n : Rat) = F at *
  generalize tt x n 1 = T at *
  have := rmul_le hle k0
  grind
/-- One factor more. -/
theorem fac_bits {b n : Nat} (h : 2 ^ b ≤ fac n) : 2 ^ (b + (blen (n + 1) - 1)) ≤ fac (n + 1) := by
  have h1 : 2 ^ (blen (n + 1) - 1) ≤ n + 1 := Nat.le_of_not_lt fun h9 => by
    have := blen_le_iff.2 h9
    have := blen_pos (show n + 1 ≠ 0 by omega)
    omega
  rw [Nat.pow_add, fac, Nat.mul_comm]
  exact Nat.mul_le_mul h1 h
end Go.Proofs.YtafgooiakmmfkaaDoor
/- The document's Atanh and Exp of layer 12, walked. -/
namespace Go.Proofs.YtafgooiakmmfkaaDoor
open Go.RowKit

theorem DTells.tight {w w' : World} {V L M : Nat} {e : Ending} (h : DTells w V L e w') (hV : V < 2 ^ (16 * M)) : DTells w V M e w' := by
  obtain ⟨A, m, c, ds, h1, h2, h3, h4, h5, h6⟩ := h
  refine ⟨A, m, c, ds, h1, ?_, h3, h4, h5, h6⟩
  have := D.len_of_lt (M := M) h4 (by rw [h5, D.pw_two]; exact hV)
  rw [h3.len] at this; exact this
theorem lt_two {V a b : Nat} (h : V < 2 ^ a) (hab : a ≤ b) : V < 2 ^ b := Nat.lt_of_lt_of_le h (Nat.pow_le_pow_right (by decide) hab)

theorem dlen_le {w : World} {A : Option Addr} {n c V M k : Nat} {ds : List Nat} (hA : Dig w A n c ds) (hb : D.Bare ds) (hv : D.val ds = V) (hV : V < 2 ^ k) (hk : k ≤ 16 * M) : n ≤ M := by
  have := D.len_of_lt (M := M) hb (by rw [hv, D.pw_two]; exact lt_two hV hk)
  rw [hA.len] at this; exact this




theorem dh_bd {P q : Nat} (hP : 0 < P) (hq : 9 * q ≤ P) : ∀ c n, 8 * dh P q c n ≤ 9 * P := by
  intro c
  induction c with
  | zero => intro n; exact Nat.zero_le _
  | succ c ih =>
    intro n
    have h := ih (n + 1)
    rw [dh]
    have h1 : P / (2 * n + 1) ≤ P := Nat.div_le_self _ _
    have h2 : dh P q c (n + 1) * q / P * 8 ≤ P := by
      have h3 : dh P q c (n + 1) * q / P * 8 ≤ dh P q c (n + 1) * q * 8 / P := by
        rw [Nat.mul_comm, Nat.mul_comm _ 8]; exact Nat.mul_div_le_mul_div_assoc _ _ _
      have h4 : dh P q c (n + 1) * q * 8 ≤ P * P := by
        have h5 : 8 * dh P q c (n + 1) * q ≤ 9 * P * q := Nat.mul_le_mul_right q h
        have h6 : P * (9 * q) ≤ P * P := Nat.mul_le_mul_left P hq
        have e1 : dh P q c (n + 1) * q * 8 = 8 * dh P q c (n + 1) * q := by rw [Nat.mul_comm _ 8, Nat.mul_assoc]
        have e2 : 9 * P * q = P * (9 * q) := by rw [Nat.mul_comm 9 P, Nat.mul_assoc]
        rw [e1]; omega
      have h7 : dh P q c (n + 1) * q * 8 / P ≤ P := by
        have := Nat.div_le_div_right (c := P) h4
        rw [Nat.mul_div_cancel _ hP] at this
        exact this
      omega
    omega
/-- The fraction and its square. -/
theorem r_bd {P num den r : Nat} (hP : 0 < P) (hd : 0 < den) (h3 : 3 * num ≤ den) (hr : num * P / den = r) : 3 * r ≤ P ∧ 9 * (r * r / P) ≤ P := by
  have h1 : r * den ≤ num * P := by rw [← hr]; exact Nat.div_mul_le_self _ _
  have h2 : 3 * r * den ≤ P * den := by
    have h4 : 3 * (r * den) ≤ 3 * (num * P) := Nat.mul_le_mul_left 3 h1
    have h5 : 3 * num * P ≤ den * P := Nat.mul_le_mul_right P h3
    rw [Nat.mul_assoc, Nat.mul_comm P den]
    rw [Nat.mul_assoc] at h5
    omega
  have h6 : 3 * r ≤ P := Nat.le_of_mul_le_mul_right h2 hd
  refine ⟨h6, ?_⟩
  have h7 : 3 * r * (3 * r) ≤ P * P := Nat.mul_le_mul h6 h6
  have e : 3 * r * (3 * r) = 9 * (r * r) := by
    rw [Nat.mul_mul_mul_comm]
  have h8 : 9 * (r * r / P) ≤ 9 * (r * r) / P := Nat.mul_div_le_mul_div_assoc _ _ _
  have h9 : 9 * (r * r) / P ≤ P := by
    have := Nat.div_le_div_right (c := P) (e ▸ h7)
    rw [Nat.mul_div_cancel _ hP] at this
    exact this
  omega
end Go.Proofs.YtafgooiakmmfkaaDoor
/- The document's Atanh and Exp of layer 12: the loops. -/
namespace Go.Proofs.YtafgooiakmmfkaaDoor
open Go.RowKit

theorem dlen45 {w : World} {A : Option Addr} {n c s V : Nat} {ds : List Nat} (hA : Dig w A n c ds) (hb : D.Bare ds) (hv : D.val ds = V) (hV : V ≤ 4 * 2 ^ s) (hs : s ≤ 700) : n ≤ 45 := by
  have h1 : V < 2 ^ (s + 3) := by
    rw [Nat.pow_add]
    have := Nat.two_pow_pos s
    omega
  exact dlen_le hA hb hv h1 (by omega)
theorem div_small {a b P : Nat} (hP : 0 < P) (ha : a ≤ 4 * P) (hb : b ≤ P) : a * b / P ≤ 4 * P := by
  have h1 : a * b ≤ 4 * P * P := Nat.mul_le_mul ha hb
  have := Nat.div_le_div_right (c := P) h1
  rw [Nat.mul_div_cancel _ hP] at this
  exact this


end Go.Proofs.YtafgooiakmmfkaaDoor
/- The document's Exp of layer 12: the loops. -/
namespace Go.Proofs.YtafgooiakmmfkaaDoor
open Go.RowKit

theorem de_bd {P a : Nat} (hP : 0 < P) (ha : a ≤ P) : ∀ c n, 2 ≤ n → de P a c n ≤ 2 * P := by
  intro c
  induction c with
  | zero => intro n _; show P ≤ 2 * P; omega
  | succ c ih =>
    intro n hn
    have h := ih (n + 1) (by omega)
    rw [de]
    have h1 : de P a c (n + 1) * a / P ≤ 2 * P := by
      have h2 : de P a c (n + 1) * a ≤ 2 * P * P := Nat.mul_le_mul h ha
      have := Nat.div_le_div_right (c := P) h2
      rw [Nat.mul_div_cancel _ hP] at this
      exact this
    have h3 : de P a c (n + 1) * a / P / n ≤ 2 * P / 2 := Nat.le_trans (Nat.div_le_div_left hn (by decide)) (Nat.div_le_div_right h1)
    omega
theorem de_bd1 {P a : Nat} (hP : 0 < P) (ha : a ≤ P) : ∀ c n, 1 ≤ n → de P a c n ≤ 3 * P := by
  intro c n hn
  cases c with
  | zero => show P ≤ 3 * P; omega
  | succ c =>
    have h := de_bd hP ha c (n + 1) (by omega)
    rw [de]
    have h1 : de P a c (n + 1) * a / P ≤ 2 * P := by
      have h2 : de P a c (n + 1) * a ≤ 2 * P * P := Nat.mul_le_mul h ha
      have := Nat.div_le_div_right (c := P) h2
      rw [Nat.mul_div_cancel _ hP] at this
      exact this
    have h3 : de P a c (n + 1) * a / P / n ≤ de P a c (n + 1) * a / P := Nat.div_le_self _ _
    omega


end Go.Proofs.YtafgooiakmmfkaaDoor
/- What the laws of layer 12 ask of the package series; planimeterlaw12.alive, wide and holds. -/
namespace Go.Proofs.YtafgooiakmmfkaaDoor
open Go.RowKit

/-- Two lists and an error. -/
def TwoTold (w : World) (Q : Nat → Nat → Nat → Nat → Int → Prop) (e : Ending) (w' : World) : Prop :=
  ∃ A1 m1 c1 zs A2 m2 c2 us r, e = .returned (.tuple #[.slice A1 m1 c1, .slice A2 m2 c2, .int .i64 r]) ∧ m1 ≤ 250 ∧ m2 ≤ 250 ∧ Lim w' A1 m1 c1 zs ∧ Lim w' A2 m2 c2 us ∧ Below w.heap.size w w' ∧ Q m1 (val zs) m2 (val us) r
/-- Between: atanh of num divided by den, times 2^s. -/
def AtB (X Y s lo hi : Nat) : Prop := ∀ x : Rat, x * (Y : Rat) = (X : Rat) → (∃ c, (lo : Rat) ≤ ((2 ^ s : Nat) : Rat) * atS x c) ∧ ∀ c, ((2 ^ s : Nat) : Rat) * atS x c ≤ (hi : Rat)
def AtOk (X Y : Nat) (s : Int) : Prop := (8 ≤ s ∧ s ≤ 9000) ∧ blen X ≤ 4096 ∧ blen Y ≤ 4096 ∧ Y ≠ 0 ∧ 3 * X ≤ Y

/-- The contract of series.Ln2. -/
def Ln2B (s lo hi : Nat) : Prop := ∀ x : Rat, 3 * x = 1 → (∃ c, (lo : Rat) ≤ ((2 ^ s : Nat) : Rat) * (2 * atS x c)) ∧ ∀ c, ((2 ^ s : Nat) : Rat) * (2 * atS x c) ≤ (hi : Rat)

/-- The contract of series.Exp. -/
def ExB (a b s lo hi : Nat) : Prop := (∀ x : Rat, ((2 ^ s : Nat) : Rat) * x = (a : Rat) → ∃ c, (lo : Rat) ≤ ((2 ^ s : Nat) : Rat) * eS x c) ∧ ∀ x : Rat, ((2 ^ s : Nat) : Rat) * x = (b : Rat) → ∀ c, ((2 ^ s : Nat) : Rat) * eS x c ≤ (hi : Rat)
def ExOk (a b : Nat) (s : Int) : Prop := (8 ≤ s ∧ s ≤ 9000) ∧ a ≤ b ∧ b ≤ 2 ^ s.toNat

/-- ln 2 times 2^8 is between 177 and 178. -/
theorem ln2_near {lo hi : Nat} (h : Ln2B 8 lo hi) : lo ≤ 177 ∧ 178 ≤ hi := by
  obtain ⟨x, hx⟩ : ∃ x : Rat, 3 * x = 1 := ⟨1 / 3, by grind⟩
  obtain ⟨⟨c, h1⟩, h2⟩ := h x hx
  have x0 : 0 ≤ x := by grind
  have x1 : 3 * x ≤ 1 := by grind
  have e8 : ((2 ^ 8 : Nat) : Rat) = 256 := by exact_mod_cast rfl
  rw [e8] at h1 h2
  obtain ⟨y0, y1⟩ := third x0 x1
  -- three terms, and what follows them
  have t : atS x 3 = x * (1 + x * x * (1 / 3 + x * x * (1 / 5))) := by
    unfold atS
    simp only [hh]
    have e1 : ((2 * 0 + 1 : Nat) : Rat) = 1 := by exact_mod_cast rfl
    have e3 : ((2 * (0 + 1) + 1 : Nat) : Rat) = 3 := by exact_mod_cast rfl
    have e5 : ((2 * (0 + 1 + 1) + 1 : Nat) : Rat) = 5 := by exact_mod_cast rfl
    rw [e1, e3, e5]
    grind
  have hx' : x = 1 / 3 := by grind
  have tv : atS x 3 = 1 / 3 * (1 + 1 / 9 * (1 / 3 + 1 / 45)) := by rw [t, hx']; grind
  constructor
  · have h3 : atS x c ≤ atS x 3 + 1 / 1000 := by
      have e : atS x c ≤ atS x (3 + c) := by rw [Nat.add_comm]; exact atS_mono x0 x1 c 3
      have q := hh_tail y0 y1 3 c 0
      have q1 := rmul_le q x0
      have q2 : (x * x) ^ 3 = 1 / 729 := by
        rw [hx']
        have : (1 / 3 * (1 / 3) : Rat) = 1 / 9 := by grind
        rw [this]
        simp only [Rat.pow_succ, Rat.pow_zero]
        grind
      unfold atS at e tv ⊢
      rw [q2] at q1
      grind
    have h4 : (lo : Rat) < 178 := by grind
    have h5 : lo < 178 := by exact_mod_cast h4
    omega
  · have h3 := h2 3
    rw [tv] at h3
    have h4 : (177 : Rat) < (hi : Rat) := by grind
    have h5 : 177 < hi := by exact_mod_cast h4
    omega
end Go.Proofs.YtafgooiakmmfkaaDoor
/- The walks of planimeterlaw12.alive, wide and holds. -/
namespace Go.Proofs.YtafgooiakmmfkaaDoor
open Go.RowKit

theorem cmpZ_down {x y : Nat} (h : x ≤ y) : cmpZ x y ≤ 0 := by
  rcases Nat.lt_or_eq_of_le h with h | h
  · rw [cmpZ_lt h]; decide
  · rw [cmpZ_eq h]; decide
theorem cmpZ_up {x y : Nat} (h : y ≤ x) : 0 ≤ cmpZ x y := by
  rcases Nat.lt_or_eq_of_le h with h | h
  · rw [cmpZ_gt h]; decide
  · rw [cmpZ_eq h.symm]; decide

theorem digs_zero {w : World} {A : Option Addr} {n c : Nat} {us : List Nat} (hA : Dig w A n c us) (hb : D.Bare us) (h : D.val us = 0) : n = 0 := by
  have h2 := D.len_of_lt (M := 0) hb (by rw [h]; decide)
  rw [hA.len] at h2
  omega
theorem digs_pos {w : World} {A : Option Addr} {n c : Nat} {us : List Nat} (hA : Dig w A n c us) (h : D.val us ≠ 0) : n ≠ 0 := by
  intro h9
  have hl := hA.len
  rw [h9] at hl
  exact h (by rw [List.eq_nil_of_length_eq_zero hl]; rfl)




end Go.Proofs.YtafgooiakmmfkaaDoor
/- What is between and what the document reckons: numbers alone. -/
namespace Go.Proofs.YtafgooiakmmfkaaDoor

theorem two_add (s t : Nat) : ((2 ^ (s + t) : Nat) : Rat) = ((2 ^ t : Nat) : Rat) * ((2 ^ s : Nat) : Rat) := by
  rw [Nat.pow_add, Nat.mul_comm]; exact_mod_cast rfl
theorem frac_of {X Y : Nat} (hY : Y ≠ 0) : ∃ x : Rat, x * (Y : Rat) = (X : Rat) := by
  have h0 := rnat_pos (Nat.pos_of_ne_zero hY)
  refine ⟨(X : Rat) / (Y : Rat), ?_⟩
  exact Rat.div_mul_cancel (Rat.ne_of_gt h0)
theorem frac_bd {X Y : Nat} {x : Rat} (hY : Y ≠ 0) (h3 : 3 * X ≤ Y) (hx : x * (Y : Rat) = (X : Rat)) : 0 ≤ x ∧ 3 * x ≤ 1 := by
  have d0 := rnat_pos (Nat.pos_of_ne_zero hY)
  have n0 := rnat_nonneg X
  have h3' : 3 * (X : Rat) ≤ Y := by exact_mod_cast h3
  exact ⟨rcancel (c := (Y : Rat)) (by grind) d0, rcancel (c := (Y : Rat)) (by grind) d0⟩
theorem cast_le {a b : Nat} (h : (a : Rat) ≤ (b : Rat)) : a ≤ b := by exact_mod_cast h

/-- atanh: what is told and what the document reckons, 80 bits further. -/
theorem at_holds {X Y s lo hi : Nat} (hY : Y ≠ 0) (h3 : 3 * X ≤ Y) (h : AtB X Y s lo hi) :
    lo * 2 ^ 80 ≤ dA (2 ^ (s + 80)) X Y ((s + 80) / 3 + 3) + 1048576 ∧ dA (2 ^ (s + 80)) X Y ((s + 80) / 3 + 3) ≤ hi * 2 ^ 80 := by
  obtain ⟨x, hx⟩ := frac_of (X := X) hY
  obtain ⟨x0, x1⟩ := frac_bd hY h3 hx
  obtain ⟨⟨c, h1⟩, h2⟩ := h x hx
  have t := at_tail x0 x1 (s + 80)
  have P8 : 8 ≤ 2 ^ (s + 80) := by
    have : 2 ^ 3 ≤ 2 ^ (s + 80) := Nat.pow_le_pow_right (by decide) (by omega)
    omega
  obtain ⟨d1, d2⟩ := dA_spec (P := 2 ^ (s + 80)) (num := X) (den := Y) (c := (s + 80) / 3 + 3) P8 (Nat.pos_of_ne_zero hY) hx h3 t
  obtain ⟨V, hV⟩ : ∃ V, dA (2 ^ (s + 80)) X Y ((s + 80) / 3 + 3) = V := ⟨_, rfl⟩
  rw [hV] at d1 d2 ⊢
  have e := two_add s 80
  rw [e] at d1 d2
  have q0 := rnat_nonneg (2 ^ 80)
  have d3 := d2 c
  have h4 := h2 ((s + 80) / 3 + 3)
  have m1 := rmul_le h1 q0
  have m2 := rmul_le h4 q0
  clear d2 h2 h t e hV P8
  have e1 : ((lo * 2 ^ 80 : Nat) : Rat) = (lo : Rat) * ((2 ^ 80 : Nat) : Rat) := by exact_mod_cast rfl
  have e2 : ((V + 1048576 : Nat) : Rat) = (V : Rat) + 1048576 := by exact_mod_cast rfl
  have e3 : ((hi * 2 ^ 80 : Nat) : Rat) = (hi : Rat) * ((2 ^ 80 : Nat) : Rat) := by exact_mod_cast rfl
  constructor
  · refine cast_le ?_
    rw [e1, e2]
    generalize ((2 ^ s : Nat) : Rat) = P at *
    generalize ((2 ^ 80 : Nat) : Rat) = T at *
    grind
  · refine cast_le ?_
    rw [e3]
    generalize ((2 ^ s : Nat) : Rat) = P at *
    generalize ((2 ^ 80 : Nat) : Rat) = T at *
    grind

theorem ex_frac (a s : Nat) (h : a ≤ 2 ^ s) : ∃ x : Rat, ((2 ^ s : Nat) : Rat) * x = (a : Rat) ∧ 0 ≤ x ∧ x ≤ 1 := by
  have p0 := rnat_pos (Nat.two_pow_pos s)
  obtain ⟨x, hx⟩ := frac_of (X := a) (Y := 2 ^ s) (Nat.pos_iff_ne_zero.1 (Nat.two_pow_pos s))
  have a0 := rnat_nonneg a
  have a1 : (a : Rat) ≤ ((2 ^ s : Nat) : Rat) := by exact_mod_cast h
  refine ⟨x, by grind, rcancel (c := ((2 ^ s : Nat) : Rat)) (by grind) p0, rcancel (c := ((2 ^ s : Nat) : Rat)) (by grind) p0⟩
/-- exp, the lower end. -/
theorem ex_low {a s lo K : Nat} (ha : a ≤ 2 ^ s) (hK : 2 ^ (s + 80) ≤ fac K) (h : ∀ x : Rat, ((2 ^ s : Nat) : Rat) * x = (a : Rat) → ∃ c, (lo : Rat) ≤ ((2 ^ s : Nat) : Rat) * eS x c) :
    lo * 2 ^ 80 ≤ de (2 ^ (s + 80)) (a * 2 ^ 80) K 1 + 1048576 := by
  obtain ⟨x, hx, x0, x1⟩ := ex_frac a s ha
  obtain ⟨c, h1⟩ := h x hx
  have e := two_add s 80
  have e0 : ((a * 2 ^ 80 : Nat) : Rat) = (a : Rat) * ((2 ^ 80 : Nat) : Rat) := by exact_mod_cast rfl
  have hx2 : ((a * 2 ^ 80 : Nat) : Rat) = ((2 ^ (s + 80) : Nat) : Rat) * x := by rw [e, e0]; grind
  obtain ⟨d1, d2⟩ := de_spec (P := 2 ^ (s + 80)) (a := a * 2 ^ 80) (c := K) (Nat.two_pow_pos _) hx2 x0 x1 (ex_tail x0 x1 hK)
  obtain ⟨V, hV⟩ : ∃ V, de (2 ^ (s + 80)) (a * 2 ^ 80) K 1 = V := ⟨_, rfl⟩
  rw [hV] at d1 d2 ⊢
  have d3 : ((2 ^ (s + 80) : Nat) : Rat) * eS x c ≤ (V : Rat) + 8 := d2 c
  rw [e] at d3
  have q0 := rnat_nonneg (2 ^ 80)
  have m1 := rmul_le h1 q0
  clear d1 d2 e0 hx2 e hV h hK
  refine cast_le ?_
  have e1 : ((lo * 2 ^ 80 : Nat) : Rat) = (lo : Rat) * ((2 ^ 80 : Nat) : Rat) := by exact_mod_cast rfl
  have e2 : ((V + 1048576 : Nat) : Rat) = (V : Rat) + 1048576 := by exact_mod_cast rfl
  rw [e1, e2]
  generalize ((2 ^ s : Nat) : Rat) = P at *
  generalize ((2 ^ 80 : Nat) : Rat) = T at *
  grind
/-- .. the upper end. -/
theorem ex_high {b s hi K : Nat} (hb : b ≤ 2 ^ s) (h : ∀ x : Rat, ((2 ^ s : Nat) : Rat) * x = (b : Rat) → ∀ c, ((2 ^ s : Nat) : Rat) * eS x c ≤ (hi : Rat)) :
    de (2 ^ (s + 80)) (b * 2 ^ 80) K 1 ≤ hi * 2 ^ 80 := by
  obtain ⟨x, hx, x0, x1⟩ := ex_frac b s hb
  have h1 := h x hx K
  have e := two_add s 80
  have e0 : ((b * 2 ^ 80 : Nat) : Rat) = (b : Rat) * ((2 ^ 80 : Nat) : Rat) := by exact_mod_cast rfl
  have hx2 : ((b * 2 ^ 80 : Nat) : Rat) = ((2 ^ (s + 80) : Nat) : Rat) * x := by rw [e, e0]; grind
  have d1 : ((de (2 ^ (s + 80)) (b * 2 ^ 80) K 1 : Nat) : Rat) ≤ ((2 ^ (s + 80) : Nat) : Rat) * eS x K := de_le (Nat.two_pow_pos _) hx2 x0 K 1 (by decide)
  obtain ⟨V, hV⟩ : ∃ V, de (2 ^ (s + 80)) (b * 2 ^ 80) K 1 = V := ⟨_, rfl⟩
  rw [hV, e] at d1
  rw [hV]
  have q0 := rnat_nonneg (2 ^ 80)
  have m1 := rmul_le h1 q0
  clear e0 hx2 e hV h
  refine cast_le ?_
  have e1 : ((hi * 2 ^ 80 : Nat) : Rat) = (hi : Rat) * ((2 ^ 80 : Nat) : Rat) := by exact_mod_cast rfl
  rw [e1]
  generalize ((2 ^ s : Nat) : Rat) = P at *
  generalize ((2 ^ 80 : Nat) : Rat) = T at *
  grind
end Go.Proofs.YtafgooiakmmfkaaDoor
/- How atanh and exp grow: differences of so many terms, held by fractions. -/
namespace Go.Proofs.YtafgooiakmmfkaaDoor

theorem hh_sum (y : Rat) : ∀ (c n : Nat), hh y c n = sm (fun k => y ^ k * (1 / ((2 * (n + k) + 1 : Nat) : Rat))) c := by
  intro c
  induction c with
  | zero => intro n; rfl
  | succ c ih =>
    intro n
    rw [sm_head]
    simp only [hh]
    rw [ih (n + 1), ← sm_mul, Rat.pow_zero, Nat.add_zero]
    have : sm (fun k => y * (y ^ k * (1 / ((2 * (n + 1 + k) + 1 : Nat) : Rat)))) c = sm (fun k => y ^ (k + 1) * (1 / ((2 * (n + (k + 1)) + 1 : Nat) : Rat))) c := by
      refine sm_congr _ (fun k _ => ?_)
      rw [show n + 1 + k = n + (k + 1) by omega, Rat.pow_succ]
      grind
    rw [this]
    grind
/-- atanh's terms, one by one. -/
theorem atS_sum (x : Rat) (c : Nat) : atS x c = sm (fun k => x * (x * x) ^ k * (1 / ((2 * k + 1 : Nat) : Rat))) c := by
  unfold atS
  rw [hh_sum, ← sm_mul]
  refine sm_congr _ (fun k _ => ?_)
  rw [Nat.zero_add]
  grind
theorem atS_succ (x : Rat) (c : Nat) : atS x (c + 1) = atS x c + x * (x * x) ^ c * (1 / ((2 * c + 1 : Nat) : Rat)) := by
  rw [atS_sum, atS_sum]
  rfl
/-- The geometric sum. -/
def gS (y : Rat) (c : Nat) : Rat := sm (fun k => y ^ k) c
theorem gS_mul (y : Rat) (c : Nat) : (1 - y) * gS y c = 1 - y ^ c := by
  induction c with
  | zero => unfold gS; simp only [sm]; rw [Rat.pow_zero]; grind
  | succ c ih =>
    have e : gS y (c + 1) = gS y c + y ^ c := rfl
    rw [e, Rat.pow_succ]
    grind
/-- How odd powers grow. -/
theorem odd_diff {x z : Rat} (h0 : 0 ≤ x) (h : x ≤ z) : ∀ k : Nat, ((2 * k + 1 : Nat) : Rat) * ((z - x) * (x * x) ^ k) ≤ z * (z * z) ^ k - x * (x * x) ^ k ∧ z * (z * z) ^ k - x * (x * x) ^ k ≤ ((2 * k + 1 : Nat) : Rat) * ((z - x) * (z * z) ^ k) ∧ (x * x) ^ k ≤ (z * z) ^ k := by
  intro k
  induction k with
  | zero =>
    have e : ((2 * 0 + 1 : Nat) : Rat) = 1 := rfl
    rw [e, Rat.pow_zero, Rat.pow_zero]
    refine ⟨?_, ?_, ?_⟩
    · grind
    · grind
    · exact Rat.le_refl
  | succ k ih =>
    obtain ⟨i1, i2, i3⟩ := ih
    have e : ((2 * (k + 1) + 1 : Nat) : Rat) = ((2 * k + 1 : Nat) : Rat) + 2 := by
      have : (2 * (k + 1) + 1 : Nat) = (2 * k + 1) + 2 := by omega
      exact_mod_cast this
    have z0 : 0 ≤ z := by grind
    have px := rpow_nonneg (show 0 ≤ x * x by have := rmul_le h0 h0; grind) k
    have pz := rpow_nonneg (show 0 ≤ z * z by have := rmul_le z0 z0; grind) k
    have m0 := rnat_nonneg (2 * k + 1)
    have xx := rmul_le h0 h0
    have zz := rmul_le z0 z0
    have d0 : 0 ≤ z - x := by grind
    have xz := rmul_le h h0
    have zx := rmul_le h z0
    rw [e, Rat.pow_succ, Rat.pow_succ]
    generalize (x * x) ^ k = X at *
    generalize (z * z) ^ k = Z at *
    generalize ((2 * k + 1 : Nat) : Rat) = m at *
    have sq : x * x ≤ z * z := by grind
    refine ⟨?_, ?_, ?_⟩
    · -- z Z z z - x X x x = (z Z - x X) x x + z Z (z z - x x)
      have a := rmul_le i1 (show 0 ≤ x * x by grind)
      have b1 := rmul_le i3 (show 0 ≤ z * (z * z - x * x) by have := rmul_le (show 0 ≤ z * z - x * x by grind) z0; grind)
      have b2 := rmul_le (show (z - x) * (2 * (x * x)) ≤ z * (z * z - x * x) by
        have t1 := rmul_le (show 2 * (x * x) ≤ z * (z + x) by grind) d0
        grind) px
      grind
    · have a := rmul_le i2 (show 0 ≤ z * z by grind)
      have b1 := rmul_le i3 (show 0 ≤ x * (z * z - x * x) by have := rmul_le (show 0 ≤ z * z - x * x by grind) h0; grind)
      have b2 := rmul_le (show x * (z * z - x * x) ≤ (z - x) * (2 * (z * z)) by
        have t1 := rmul_le (show x * (z + x) ≤ 2 * (z * z) by grind) d0
        grind) pz
      grind
    · have a := rmul_le i3 (show 0 ≤ x * x by grind)
      have b := rmul_le sq pz
      grind
/-- How atanh grows. -/
theorem atS_diff {x z : Rat} (h0 : 0 ≤ x) (h : x ≤ z) (c : Nat) : (z - x) * gS (x * x) c ≤ atS z c - atS x c ∧ atS z c - atS x c ≤ (z - x) * gS (z * z) c := by
  induction c with
  | zero =>
    have e1 : atS z 0 = 0 := by rw [atS_sum]; rfl
    have e2 : atS x 0 = 0 := by rw [atS_sum]; rfl
    have e3 : ∀ y, gS y 0 = 0 := fun _ => rfl
    rw [e1, e2, e3, e3]
    constructor <;> grind
  | succ c ih =>
    obtain ⟨i1, i2⟩ := ih
    obtain ⟨j1, j2, _⟩ := odd_diff h0 h c
    have e : ∀ y, gS y (c + 1) = gS y c + y ^ c := fun _ => rfl
    rw [atS_succ, atS_succ, e, e]
    obtain ⟨i, hi, k1, k2, k3⟩ := inv_nat (n := 2 * c + 1) (by omega)
    rw [hi]
    have a1 := rmul_le j1 k2
    have a2 := rmul_le j2 k2
    generalize (x * x) ^ c = X at *
    generalize (z * z) ^ c = Z at *
    generalize ((2 * c + 1 : Nat) : Rat) = m at *
    have s1 : i * (m * ((z - x) * X)) = (z - x) * X := by rw [← Rat.mul_assoc, Rat.mul_comm i m, k1, Rat.one_mul]
    have s2 : i * (m * ((z - x) * Z)) = (z - x) * Z := by rw [← Rat.mul_assoc, Rat.mul_comm i m, k1, Rat.one_mul]
    rw [s1] at a1
    rw [s2] at a2
    generalize gS (x * x) c = g1 at *
    generalize gS (z * z) c = g2 at *
    generalize atS z c = p1 at *
    generalize atS x c = p2 at *
    clear e hi k1 j1 j2 s1 s2
    constructor
    · grind
    · grind
/-- exp near 0. -/
theorem eS_near {d : Rat} (h0 : 0 ≤ d) (h1 : d ≤ 1) (c : Nat) : 1 + d ≤ eS d (c + 1) ∧ eS d c ≤ 1 + d + d * d := by
  have t0 : ∀ c n, 0 < n → ge_ d c n ≤ 3 := fun c n hn => by
    obtain ⟨a, b⟩ := ge_bd h0 h1 c n hn
    have m1 : (1 : Rat) ≤ (n : Rat) := by exact_mod_cast hn
    generalize ge_ d c n = G at *
    generalize (n : Rat) = m at *
    refine rcancel (c := m) ?_ (by grind)
    grind
  constructor
  · unfold eS
    simp only [ge_]
    have a := (ge_bd h0 h1 c 2 (by decide)).1
    have e : (1 : Rat) / ((1 : Nat) : Rat) = 1 := by
      have : ((1 : Nat) : Rat) = 1 := rfl
      rw [this]; grind
    rw [e]
    have b := rmul_le a h0
    grind
  · cases c with
    | zero =>
      rw [eS_zero]
      have := rmul_le h0 h0
      grind
    | succ c =>
      unfold eS
      simp only [ge_]
      have e : (1 : Rat) / ((1 : Nat) : Rat) = 1 := by
        have : ((1 : Nat) : Rat) = 1 := rfl
        rw [this]; grind
      rw [e]
      have g : ge_ d c 2 ≤ 1 + d := by
        cases c with
        | zero => simp only [ge_]; grind
        | succ c =>
          simp only [ge_]
          obtain ⟨a, b⟩ := ge_bd h0 h1 c 3 (by decide)
          have e3 : ((3 : Nat) : Rat) = 3 := rfl
          have e2 : ((2 : Nat) : Rat) = 2 := rfl
          rw [e3] at b
          have g2 : ge_ d c 3 ≤ 2 := by grind
          rw [e2]
          have := rmul_le g2 h0
          grind
      have b := rmul_le g h0
      grind
end Go.Proofs.YtafgooiakmmfkaaDoor
/- exp of twice atanh: never above (1 + r)/(1 - r), however many terms. -/
namespace Go.Proofs.YtafgooiakmmfkaaDoor

/-- A great enough whole number. -/
theorem rat_arch (a : Rat) : ∃ n : Nat, a ≤ (n : Rat) := by
  refine ⟨a.ceil.toNat, ?_⟩
  have h1 := Rat.le_ceil (x := a)
  have h2 : (a.ceil : Rat) ≤ ((a.ceil.toNat : Nat) : Rat) := by
    have h3 : a.ceil ≤ ((a.ceil.toNat : Nat) : Int) := Int.self_le_toNat _
    exact_mod_cast h3
  exact Rat.le_trans h1 h2
theorem pow_small {u : Rat} (h0 : 0 ≤ u) : ∀ n : Nat, (1 + u) ^ n * (1 - n * u) ≤ 1 ∧ 1 ≤ (1 + u) ^ n := by
  intro n
  induction n with
  | zero =>
    rw [Rat.pow_zero]
    have : ((0 : Nat) : Rat) = 0 := rfl
    rw [this]
    constructor
    · grind
    · exact Rat.le_refl
  | succ n ih =>
    obtain ⟨i1, i2⟩ := ih
    have e : ((n + 1 : Nat) : Rat) = (n : Rat) + 1 := by exact_mod_cast rfl
    have n0 := rnat_nonneg n
    rw [Rat.pow_succ, e]
    generalize (1 + u) ^ n = W at *
    generalize (n : Rat) = m at *
    have k1 := rmul_le h0 h0
    have k3 : (1 + u) * (1 - (m + 1) * u) ≤ 1 - m * u := by
      have := rmul_le n0 (show 0 ≤ u * u by grind)
      grind
    have k4 := rmul_le k3 (show 0 ≤ W by grind)
    have k5 := rmul_le h0 (show 0 ≤ W by grind)
    constructor
    · grind
    · grind
theorem gS_le {y : Rat} (h0 : 0 ≤ y) (c : Nat) : (1 - y) * gS y c ≤ 1 := by
  rw [gS_mul]
  have := rpow_nonneg h0 c
  grind
theorem gS_nonneg {y : Rat} (h0 : 0 ≤ y) (c : Nat) : 0 ≤ gS y c := by
  induction c with
  | zero => exact Rat.le_refl
  | succ c ih =>
    have e : gS y (c + 1) = gS y c + y ^ c := rfl
    rw [e]
    have := rpow_nonneg h0 c
    grind
theorem atS_nonneg {x : Rat} (h0 : 0 ≤ x) (c : Nat) : 0 ≤ atS x c := by
  have e : atS 0 c = 0 := by unfold atS; grind
  have h := (atS_diff (x := 0) (z := x) (Rat.le_refl) h0 c).1
  have g := gS_nonneg (y := 0 * 0) (by grind) c
  have k := rmul_le g h0
  grind
/-- One step. -/
theorem step_up {x z : Rat} (h0 : 0 ≤ x) (h : x ≤ z) (hz : 3 * z ≤ 1) (c N : Nat) :
    (1 - z) * (1 + x) * eS (2 * atS z c) N ≤ (1 - x) * (1 + z) * (1 + 9 * ((z - x) * (z - x))) * eS (2 * atS x c) N := by
  have z0 : 0 ≤ z := by grind
  obtain ⟨d1, d2⟩ := atS_diff h0 h c
  obtain ⟨y0, y1⟩ := third z0 hz
  have g1 := gS_le y0 c
  have g0 := gS_nonneg (y := x * x) (by have := rmul_le h0 h0; grind) c
  obtain ⟨δ, hδ⟩ : ∃ δ, atS z c - atS x c = δ := ⟨_, rfl⟩
  obtain ⟨s, hs⟩ : ∃ s, z - x = s := ⟨_, rfl⟩
  have s0 : 0 ≤ s := by grind
  rw [hδ, hs] at d1 d2
  have δ0 : 0 ≤ δ := by
    have := rmul_le g0 s0
    rw [Rat.mul_zero] at this
    exact Rat.le_trans this d1
  have wδ : (1 - z) * (1 + x) * δ ≤ s := by
    have a1 := rmul_le g1 s0
    have a2 := rmul_le d2 (show 0 ≤ 1 - z * z by grind)
    have a3 : (1 - z) * (1 + x) ≤ 1 - z * z := by
      have := rmul_le h (show 0 ≤ 1 - z by grind)
      grind
    have a4 := rmul_le a3 δ0
    generalize gS (z * z) c = g at *
    clear d1 g0
    grind
  have w23 : 2 ≤ 3 * ((1 - z) * (1 + x)) := by
    have := rmul_le h0 (show 0 ≤ 1 - z by grind)
    grind
  obtain ⟨w, hw⟩ : ∃ w, (1 - z) * (1 + x) = w := ⟨_, rfl⟩
  rw [hw] at wδ w23
  have δs : 2 * δ ≤ 3 * s := by
    have := rmul_le w23 δ0
    grind
  have s1 : 3 * s ≤ 1 := by grind
  have E0 := eS_nonneg (x := 2 * atS x c) (by have := atS_nonneg h0 c; grind) N
  have a := eS_add_le (x := 2 * atS x c) (y := 2 * δ) (by have := atS_nonneg h0 c; grind) (by grind) N
  have e : 2 * atS x c + 2 * δ = 2 * atS z c := by grind
  rw [e] at a
  have b := (eS_near (d := 2 * δ) (by grind) (by grind) N).2
  rw [hw, hs]
  have hxz : (1 - x) * (1 + z) = w + 2 * s := by grind
  rw [hxz]
  generalize eS (2 * atS x c) N = E at *
  generalize eS (2 * atS z c) N = E' at *
  generalize eS (2 * δ) N = D at *
  have k1 := rmul_le b (show 0 ≤ E by grind)
  have w0 : 0 ≤ w := by grind
  -- w (1 + 2d + 4dd) is at most (w + 2s)(1 + 9ss)
  have k2 : w * (1 + 2 * δ + 2 * δ * (2 * δ)) ≤ (w + 2 * s) * (1 + 9 * (s * s)) := by
    have m1 := rmul_le δs δ0
    have m2 := rmul_le δs s0
    have m3 := rmul_le s0 s0
    have m4 := rmul_le m3 w0
    have m5 := rmul_le m3 s0
    have m6 : 4 * (δ * δ) ≤ 9 * (s * s) := by grind
    have m7 := rmul_le m6 w0
    grind
  have k3 := rmul_le k2 (show 0 ≤ E by grind)
  have k4 := rmul_le (show E' ≤ E * (1 + 2 * δ + 2 * δ * (2 * δ)) by grind) w0
  grind
/-- n steps. -/
theorem steps_up {s : Rat} (h0 : 0 ≤ s) (c N : Nat) : ∀ n : Nat, 3 * (n * s) ≤ 1 → (1 - n * s) * eS (2 * atS (n * s) c) N ≤ (1 + n * s) * (1 + 9 * (s * s)) ^ n := by
  intro n
  induction n with
  | zero =>
    intro _
    have z : ((0 : Nat) : Rat) = 0 := rfl
    rw [z, Rat.pow_zero]
    have e : atS (0 * s) c = 0 := by unfold atS; grind
    rw [e]
    have e2 : ∀ N, eS (2 * 0) N = 1 := fun N => by
      induction N with
      | zero => rfl
      | succ N ih =>
        rw [eS_succ, ih]
        have := tk_succ (2 * 0) N
        have m0 : (0 : Rat) < ((N + 1 : Nat) : Rat) := rnat_pos (by omega)
        generalize ((N + 1 : Nat) : Rat) = m at *
        have : m * tk (2 * 0) (N + 1) = 0 := by grind
        grind
    rw [e2]
    grind
  | succ n ih =>
    intro hn
    have e : ((n + 1 : Nat) : Rat) = (n : Rat) + 1 := by exact_mod_cast rfl
    have n0 := rnat_nonneg n
    have ns := rmul_le h0 n0
    rw [e] at hn ⊢
    have i := ih (by grind)
    have st := step_up (x := n * s) (z := (n + 1) * s) (by grind) (by grind) hn c N
    rw [show ((n : Rat) + 1) * s - n * s = s by grind] at st
    rw [Rat.pow_succ]
    have W0 := (pow_small (u := 9 * (s * s)) (by have := rmul_le h0 h0; grind) n).2
    have q0 : 0 ≤ 9 * (s * s) := by have := rmul_le h0 h0; grind
    generalize eS (2 * atS (n * s) c) N = E at *
    generalize eS (2 * atS ((n + 1) * s) c) N = E' at *
    generalize (1 + 9 * (s * s)) ^ n = W at *
    generalize 9 * (s * s) = q at *
    have t : ((n : Rat) + 1) * s = n * s + s := by grind
    rw [t] at st hn ⊢
    generalize (n : Rat) * s = x at *
    refine rcancel (c := 1 + x) ?_ (by grind)
    have k := rmul_le i (show 0 ≤ (1 + (x + s)) * (1 + q) by
      have := rmul_le q0 (show 0 ≤ 1 + (x + s) by grind)
      grind)
    grind
/-- What is at most B/n for every n isn't above 0. -/
theorem rat_tiny {d B : Rat} (h : ∀ n : Nat, 0 < n → (n : Rat) * d ≤ B) : d ≤ 0 := by
  rcases Rat.le_total (a := d) (b := 0) with h1 | h1
  · exact h1
  · by_cases h2 : d = 0
    · rw [h2]; exact Rat.le_refl
    · have d0 : 0 < d := by grind
      obtain ⟨n, hn⟩ := rat_arch (B / d + 1)
      have hp : 0 < n + 1 := by omega
      have a := h (n + 1) hp
      have e : ((n + 1 : Nat) : Rat) = (n : Rat) + 1 := by exact_mod_cast rfl
      rw [e] at a
      have b := rmul_le hn (Rat.le_of_lt d0)
      have e2 : d * (B / d + 1) = B + d := by grind
      rw [e2] at b
      grind
/-- exp of twice atanh r isn't above (1 + r)/(1 - r). -/
theorem exp_at_le {r : Rat} (h0 : 0 ≤ r) (h1 : 3 * r ≤ 1) (c N : Nat) : (1 - r) * eS (2 * atS r c) N ≤ 1 + r := by
  have key : (1 - r) * eS (2 * atS r c) N - (1 + r) ≤ 0 := by
    refine rat_tiny (B := (1 - r) * eS (2 * atS r c) N) (fun n hn => ?_)
    have m0 := rnat_pos hn
    obtain ⟨i, hi, i1, i2, i3⟩ := inv_nat hn
    have e : (n : Rat) * (r * i) = r := by grind
    have st := steps_up (s := r * i) (by have := rmul_le i2 h0; grind) c N n (by rw [e]; exact h1)
    rw [e] at st
    obtain ⟨p1, p2⟩ := pow_small (u := 9 * (r * i * (r * i))) (by have a := rmul_le i2 h0; have := rmul_le (show 0 ≤ r * i by grind) (show 0 ≤ r * i by grind); grind) n
    have E0 := eS_nonneg (x := 2 * atS r c) (by have := atS_nonneg h0 c; grind) N
    obtain ⟨y0, y1⟩ := third h0 h1
    have e3 : (n : Rat) * (9 * (r * i * (r * i))) = 9 * (r * r) * i := by grind
    rw [e3] at p1
    have v1 : 9 * (r * r) * i ≤ i := by have := rmul_le y1 i2; grind
    have v0 : 0 ≤ 9 * (r * r) * i := by have := rmul_le y0 i2; grind
    generalize (1 + 9 * (r * i * (r * i))) ^ n = W at *
    generalize 9 * (r * r) * i = v at *
    generalize eS (2 * atS r c) N = E at *
    have B0 : 0 ≤ (1 - r) * E := by have := rmul_le (show 0 ≤ E by grind) (show 0 ≤ 1 - r by grind); grind
    have k1 := rmul_le st (show 0 ≤ 1 - v by grind)
    have k2 := rmul_le p1 (show 0 ≤ 1 + r by grind)
    have k3 := rmul_le v1 B0
    have k4 : (1 - r) * E - (1 + r) ≤ (1 - r) * E * i := by grind
    have k5 := rmul_le k4 (Rat.le_of_lt m0)
    have e4 : (n : Rat) * ((1 - r) * E * i) = (1 - r) * E := by
      rw [Rat.mul_comm ((1 - r) * E) i, ← Rat.mul_assoc, i1, Rat.one_mul]
    rw [e4] at k5
    exact k5
  grind
end Go.Proofs.YtafgooiakmmfkaaDoor
/- What the laws SeriesAdds and SeriesScales rest on: numbers alone. -/
namespace Go.Proofs.YtafgooiakmmfkaaDoor

theorem rmul_both {a b c d : Rat} (h1 : a ≤ b) (h2 : c ≤ d) (ha : 0 ≤ a) (hd : 0 ≤ d) : a * c ≤ b * d := by
  have m1 := rmul_le h2 ha
  have m2 := rmul_le h1 hd
  grind
/-- exp of a sum and the product of both. -/
theorem ex_adds {a b s p q u v l h : Nat} (ha : a ≤ 2 ^ s) (hb : b ≤ 2 ^ s) (h1 : ExB a a s p q) (h2 : ExB b b s u v) (h3 : ExB (a + b) (a + b) s l h) : p * u ≤ h * 2 ^ s ∧ l * 2 ^ s ≤ q * v := by
  obtain ⟨x, hx, x0, x1⟩ := ex_frac a s ha
  obtain ⟨y, hy, y0, y1⟩ := ex_frac b s hb
  have hxy : ((2 ^ s : Nat) : Rat) * (x + y) = ((a + b : Nat) : Rat) := by
    have e : ((a + b : Nat) : Rat) = (a : Rat) + (b : Rat) := by exact_mod_cast rfl
    rw [e]; grind
  obtain ⟨c1, l1⟩ := h1.1 x hx
  have g1 := h1.2 x hx
  obtain ⟨c2, l2⟩ := h2.1 y hy
  have g2 := h2.2 y hy
  obtain ⟨c3, l3⟩ := h3.1 (x + y) hxy
  have g3 := h3.2 (x + y) hxy (c1 + c2)
  have P0 := rnat_nonneg (2 ^ s)
  have g4 := g1 c3
  have g5 := g2 c3
  have m1 := eS_mul_le x0 y0 c1 c2
  have m2 := eS_add_le x0 y0 c3
  have n1 := eS_nonneg x0 c1
  have n2 := eS_nonneg y0 c2
  have n3 := eS_nonneg x0 c3
  have n4 := eS_nonneg y0 c3
  have p0 := rnat_nonneg p
  have u0 := rnat_nonneg u
  have v0 := rnat_nonneg v
  clear g1 g2 hx hy hxy h1 h2 h3 ha hb
  constructor
  · refine cast_le ?_
    have e1 : ((p * u : Nat) : Rat) = (p : Rat) * (u : Rat) := by exact_mod_cast rfl
    have e2 : ((h * 2 ^ s : Nat) : Rat) = (h : Rat) * ((2 ^ s : Nat) : Rat) := by exact_mod_cast rfl
    rw [e1, e2]
    generalize ((2 ^ s : Nat) : Rat) = P at *
    generalize eS x c1 = X at *
    generalize eS y c2 = Y at *
    generalize eS (x + y) (c1 + c2) = Z at *
    have q0 : 0 ≤ P * Y := by
      have := rmul_le (show 0 ≤ Y by grind) P0
      grind
    have t1 := rmul_both l1 l2 p0 q0
    have t2 := rmul_le m1 (show 0 ≤ P * P by have := rmul_le P0 P0; grind)
    have t3 := rmul_le g3 P0
    have e3 : P * X * (P * Y) = P * P * (X * Y) := by grind
    have e4 : P * P * Z = P * (P * Z) := by grind
    have e5 : (h : Rat) * P = P * h := by grind
    rw [e5]
    rw [e3] at t1
    rw [e4] at t2
    grind
  · refine cast_le ?_
    have e1 : ((q * v : Nat) : Rat) = (q : Rat) * (v : Rat) := by exact_mod_cast rfl
    have e2 : ((l * 2 ^ s : Nat) : Rat) = (l : Rat) * ((2 ^ s : Nat) : Rat) := by exact_mod_cast rfl
    rw [e1, e2]
    generalize ((2 ^ s : Nat) : Rat) = P at *
    generalize eS x c3 = X at *
    generalize eS y c3 = Y at *
    generalize eS (x + y) c3 = Z at *
    have x9 : 0 ≤ P * X := by
      have := rmul_le (show 0 ≤ X by grind) P0
      grind
    have t1 := rmul_both g4 g5 x9 v0
    have t2 := rmul_le m2 (show 0 ≤ P * P by have := rmul_le P0 P0; grind)
    have t3 := rmul_le l3 P0
    have e3 : P * X * (P * Y) = P * P * (X * Y) := by grind
    have e4 : P * P * Z = P * (P * Z) := by grind
    have e5 : (l : Rat) * P = P * l := by grind
    rw [e5]
    rw [e3] at t1
    rw [e4] at t2
    grind
theorem at_grows {x z : Rat} (h0 : 0 ≤ x) (h : x ≤ z) (c : Nat) : atS x c ≤ atS z c := by
  have d := (atS_diff h0 h c).1
  have g := gS_nonneg (y := x * x) (by have := rmul_le h0 h0; grind) c
  have := rmul_le g (show 0 ≤ z - x by grind)
  grind
/-- atanh of a greater fraction isn't less. -/
theorem at_rises {a b d s m m' n n' : Nat} (hd : d ≠ 0) (hab : a ≤ b) (hb : 3 * b ≤ d) (h1 : AtB a d s m m') (h2 : AtB b d s n' n) : m ≤ n := by
  obtain ⟨x, hx⟩ := frac_of (X := a) hd
  obtain ⟨z, hz⟩ := frac_of (X := b) hd
  obtain ⟨x0, _⟩ := frac_bd hd (by omega) hx
  have d0 := rnat_pos (Nat.pos_of_ne_zero hd)
  have hab' : (a : Rat) ≤ (b : Rat) := by exact_mod_cast hab
  have hxz : x ≤ z := rcancel (c := (d : Rat)) (by grind) d0
  obtain ⟨⟨c, l1⟩, _⟩ := h1 x hx
  have g1 := (h2 z hz).2 c
  have P0 := rnat_nonneg (2 ^ s)
  have := rmul_le (at_grows x0 hxz c) P0
  refine cast_le ?_
  grind
/-- One number at two scales. -/
theorem at_scales {X Y i t a b c d : Nat} (hY : Y ≠ 0) (h1 : AtB X Y i a b) (h2 : AtB X Y (i + t) c d) : a * 2 ^ t ≤ d ∧ c ≤ b * 2 ^ t := by
  obtain ⟨x, hx⟩ := frac_of (X := X) hY
  obtain ⟨⟨c1, l1⟩, g1⟩ := h1 x hx
  obtain ⟨⟨c2, l2⟩, g2⟩ := h2 x hx
  have e := two_add i t
  rw [e] at l2 g2
  have T0 := rnat_nonneg (2 ^ t)
  have m1 := rmul_le l1 T0
  have m2 := rmul_le (g1 c2) T0
  have g3 := g2 c1
  constructor
  · refine cast_le ?_
    have e1 : ((a * 2 ^ t : Nat) : Rat) = (a : Rat) * ((2 ^ t : Nat) : Rat) := by exact_mod_cast rfl
    rw [e1]
    grind
  · refine cast_le ?_
    have e1 : ((b * 2 ^ t : Nat) : Rat) = (b : Rat) * ((2 ^ t : Nat) : Rat) := by exact_mod_cast rfl
    rw [e1]
    grind
/-- ln 2 and the document's atanh of a third, twice. -/
theorem ln2_holds {s lo hi : Nat} (h : Ln2B s lo hi) :
    lo * 2 ^ 80 ≤ dA (2 ^ (s + 80)) 1 3 ((s + 80) / 3 + 3) * 2 + 1048576 ∧ dA (2 ^ (s + 80)) 1 3 ((s + 80) / 3 + 3) * 2 ≤ hi * 2 ^ 80 := by
  obtain ⟨x, hx⟩ := frac_of (X := 1) (Y := 3) (by decide)
  obtain ⟨x0, x1⟩ := frac_bd (by decide) (by decide) hx
  have hx3 : 3 * x = 1 := by
    have e1 : ((1 : Nat) : Rat) = 1 := by exact_mod_cast rfl
    have e3 : ((3 : Nat) : Rat) = 3 := by exact_mod_cast rfl
    rw [e1, e3] at hx
    grind
  obtain ⟨⟨c, h1⟩, h2⟩ := h x hx3
  have t := at_tail x0 x1 (s + 80)
  have P8 : 8 ≤ 2 ^ (s + 80) := by
    have : 2 ^ 3 ≤ 2 ^ (s + 80) := Nat.pow_le_pow_right (by decide) (by omega)
    omega
  obtain ⟨d1, d2⟩ := dA_spec (P := 2 ^ (s + 80)) (num := 1) (den := 3) (c := (s + 80) / 3 + 3) P8 (by decide) hx (by decide) t
  obtain ⟨V, hV⟩ : ∃ V, dA (2 ^ (s + 80)) 1 3 ((s + 80) / 3 + 3) = V := ⟨_, rfl⟩
  rw [hV] at d1 d2 ⊢
  have e := two_add s 80
  rw [e] at d1 d2
  have q0 := rnat_nonneg (2 ^ 80)
  have d3 := d2 c
  have h4 := h2 ((s + 80) / 3 + 3)
  have m1 := rmul_le h1 q0
  have m2 := rmul_le h4 q0
  clear d2 h2 h t e hV P8 hx
  have e1 : ((lo * 2 ^ 80 : Nat) : Rat) = (lo : Rat) * ((2 ^ 80 : Nat) : Rat) := by exact_mod_cast rfl
  have e2 : ((V * 2 + 1048576 : Nat) : Rat) = (V : Rat) * 2 + 1048576 := by exact_mod_cast rfl
  have e3 : ((hi * 2 ^ 80 : Nat) : Rat) = (hi : Rat) * ((2 ^ 80 : Nat) : Rat) := by exact_mod_cast rfl
  have e4 : ((V * 2 : Nat) : Rat) = (V : Rat) * 2 := by exact_mod_cast rfl
  constructor
  · refine cast_le ?_
    rw [e1, e2]
    generalize ((2 ^ s : Nat) : Rat) = P at *
    generalize ((2 ^ 80 : Nat) : Rat) = T at *
    grind
  · refine cast_le ?_
    rw [e3, e4]
    generalize ((2 ^ s : Nat) : Rat) = P at *
    generalize ((2 ^ 80 : Nat) : Rat) = T at *
    grind
end Go.Proofs.YtafgooiakmmfkaaDoor
/- The document's To of layer 5 of any number, 0 among them. -/
namespace Go.Proofs.YtafgooiakmmfkaaDoor
open Go.RowKit

set_option maxHeartbeats 4000000 in
theorem rto_nil (g : Bool) (V : Nat) (E : Int) (A : Option Addr) (m c : Nat) (ds : List Nat) (w : World) (hA : Dig w A m c ds) (hd : D.Bare ds) (hv : D.val ds = V) (hm : m ≤ 197) (hN : nO g V E = ⟨false, 0, 0⟩) :
    Calls Tryd.prog 19 #[.agg #[.bool g, .slice A m c, .int .i64 E]] w (TTold w ⟨false, 0, 0⟩ 50) := by
  have a3 : Below w.heap.size w ((w.alloc (.cells #[.bool g, .slice A m c, .int .i64 E] 31)).alloc (.cells #[.bool false, .slice none 0 0, .int .i64 0] 24)) := ((Below.refl _ _).alloc (Nat.le_refl _) _).alloc (by simp) _
  have b1 := (Bd.new w 31 g A m c E).alloc (.cells #[.bool false, .slice none 0 0, .int .i64 0] 24)
  have b2 := Bd.new (w.alloc (.cells #[.bool g, .slice A m c, .int .i64 E] 31)) 24 false none 0 0 0
  rw [World.size_alloc] at b2
  have h0 : HoldT w g A m c ds E ((w.alloc (.cells #[.bool g, .slice A m c, .int .i64 E] 31)).alloc (.cells #[.bool false, .slice none 0 0, .int .i64 0] 24)) := ⟨b1, b2, hA.below a3, a3⟩
  have F0 := Lib.hid (h0.below (below_drew _))
  have F0c := Lib.hid F0.out.cells
  have F1 := Lib.hid ((h0.below (below1 _ (.cells #[.bool false, .slice none 0 0, .int .i64 0] 31))).below (below_drew _))
  have F1c := Lib.hid F1.out.cells
  have z1 := Bd.new ((w.alloc (.cells #[.bool g, .slice A m c, .int .i64 E] 31)).alloc (.cells #[.bool false, .slice none 0 0, .int .i64 0] 24)) 31 false none 0 0 0
  rw [World.size_alloc, World.size_alloc] at z1
  have Z1 := Lib.hid z1.drew
  have HL : Hid (∀ u, HoldT w g A m c ds E u → Calls Tryd.prog 42 #[.slice A m c] u (Tells u V ((m + 3) / 4))) := fun u hu => by
    have := limbs_t A m c ds u hu.2.2.1 hd (by omega)
    rw [hv] at this
    exact this
  have HO : Hid (∀ u A1 m1 c1 zs, Lim u A1 m1 c1 zs → val zs = V → m1 ≤ 50 → Calls Tryd.prog 9 #[.agg #[.bool g, .slice A1 m1 c1, .int .i64 E]] u (NTold u ⟨false, 0, 0⟩ (4 * m1))) := fun u A1 m1 c1 zs h1 h2 h3 => by
    have := rof_any g A1 m1 c1 zs E u h1 (by omega)
    rw [h2, hN] at this
    exact this
  clear a3 b1 b2 hA h0 z1 hN hd hv
  go_enter Tryd.func19, Tryd.ntmps19
  go_wp2_with fail
  go_cut [4] from 5 (fun s4 wx => ∃ (p m5 c5 : Nat) (A5 : Option Addr) (es : List Nat), s4 = .pointer (some ⟨p, 0, none⟩) ∧ Hid (RelT w false 0 0 p A5 m5 c5 es wx))
  case first =>
    go_region_held3 (fun w' => w'.cell? ⟨w.heap.size, 0, none⟩ = some (.bool g) ∧ w'.cell? ⟨w.heap.size, 1, none⟩ = some (.slice A m c) ∧ w'.cell? ⟨w.heap.size, 2, none⟩ = some (.int .i64 E))
      (first | (with_reducible exact F0c.out) | (with_reducible exact F1c.out) | (with_reducible exact K1.out) | (with_reducible exact K1a.out _) | (with_reducible exact K2.out) | (with_reducible exact K2a.out _) | (with_reducible exact K2b.out))
      (first
        | (go_at_call 42; (with_reducible refine (HL.out _ F0.out).mono ?_); rintro e w1 ⟨A1, m1, c1, zs, rfl, hm1, hl1, hb1, hv1, hB1⟩; have h1 := F0.out.below hB1; have K1 := Lib.hid h1.cells; have K1a : Hid (∀ o, CellsT w g A m c E (w1.alloc o)) := fun o => (h1.below (below1 _ o)).cells; have h1 := Lib.hid h1; have L1 : Hid (Lim w1 A1 m1 c1 zs ∧ val zs = V) := ⟨hl1, hv1⟩; clear hl1 hb1 hv1 hB1)
        | (go_at_call 42; (with_reducible refine (HL.out _ F1.out).mono ?_); rintro e w1 ⟨A1, m1, c1, zs, rfl, hm1, hl1, hb1, hv1, hB1⟩; have g1 := F1.out.below hB1; have K1 := Lib.hid g1.cells; have G1 := Lib.hid (Z1.out.below hB1); have g1 := Lib.hid g1; have M1 : Hid (Lim w1 A1 m1 c1 zs ∧ val zs = V) := ⟨hl1, hv1⟩; clear hl1 hb1 hv1 hB1)
        | (go_at_call 9; (with_reducible refine (HO.out w1 A1 m1 c1 zs L1.out.1 L1.out.2 (by omega)).mono ?_); rintro e w2 ⟨A2, m2, c2, es, rfl, hm2, hl2, hd2, hv2, hB2⟩; have h2 := h1.out.below hB2; have K2 := Lib.hid h2.cells; have K2a : Hid (∀ o, CellsT w g A m c E (w2.alloc o)) := fun o => (h2.below (below1 _ o)).cells; have hsz : w.heap.size + 1 < w2.heap.size := h2.2.1.lt; have q2 := h2.below (below1 _ (.cells #[.bool false, .slice none 0 0, .int .i64 0] 31)); have z2 := Bd.new w2 31 false none 0 0 0; have u0 := z2.c0; have u1 := z2.c1; have u2 := z2.c2; have uf := z2.fz; have K2b := Lib.hid (q2.put hsz z2 false A2 m2 c2 0).cells; have Fin0 : Hid (RelT w false 0 0 w2.heap.size A2 m2 c2 es (w2.alloc (.cells #[.bool false, .slice A2 m2 c2, .int .i64 0] 31))) := ⟨Bd.new w2 _ _ _ _ _ _, h2.2.1.alloc _, hl2.alloc _, hd2, hv2, by omega, hsz, h2.2.2.2.trans ((below1 w2 _).mono h2.2.2.2.size)⟩; clear q2 z2 hl2 hd2 hv2 hB2 h2)
        | (go_at_call 9; (with_reducible refine (HO.out (w1.alloc (.cells #[.bool false, .slice none 0 0, .int .i64 0] 31)) A1 m1 c1 zs (L1.out.1.alloc _) L1.out.2 (by omega)).mono ?_); rintro e w2 ⟨A2, m2, c2, es, rfl, hm2, hl2, hd2, hv2, hB2⟩; have h2 := (h1.out.below (below1 _ (.cells #[.bool false, .slice none 0 0, .int .i64 0] 31))).below hB2; have K2 := Lib.hid h2.cells; have hsz : w.heap.size + 1 < w1.heap.size := h1.out.2.1.lt; have z2 := (Bd.new w1 31 false none 0 0 0).below hB2; have u0 := z2.c0; have u1 := z2.c1; have u2 := z2.c2; have uf := z2.fz; have K2b := Lib.hid (h2.put hsz z2 false A2 m2 c2 0).cells; have Fin1 := Lib.hid (RelTf.of false 0 h2 hsz z2 hl2 hd2 hv2 (by omega)); clear z2 hl2 hd2 hv2 hB2 h2)
        | (go_at_call 9; (with_reducible refine (HO.out w1 A1 m1 c1 zs M1.out.1 M1.out.2 (by omega)).mono ?_); rintro e w2 ⟨A2, m2, c2, es, rfl, hm2, hl2, hd2, hv2, hB2⟩; have h2 := g1.out.below hB2; have K2 := Lib.hid h2.cells; have hsz : w.heap.size + 1 < w.heap.size + 1 + 1 := Nat.lt_succ_self _; have z2 := G1.out.below hB2; have u0 := z2.c0; have u1 := z2.c1; have u2 := z2.c2; have uf := z2.fz; have K2b := Lib.hid (h2.put hsz z2 false A2 m2 c2 0).cells; have Fin1 := Lib.hid (RelTf.of false 0 h2 hsz z2 hl2 hd2 hv2 (by omega)); clear z2 hl2 hd2 hv2 hB2 h2))
    all_goals (go_wp2_with fail)
    all_goals go_meet
    all_goals (refine ⟨_, m2, c2, A2, es, rfl, ?_⟩)
    all_goals (first | (with_reducible exact Fin1) | (with_reducible exact Fin0))
  case rest =>
    obtain ⟨wA, rfl⟩ : ∃ wA, wA = wc := ⟨_, rfl⟩
    obtain ⟨p, m5, c5, A5, es, rfl, HR⟩ := hcut
    have x0 := HR.out.1.c0
    have x1 := HR.out.1.c1
    have x2 := HR.out.1.c2
    clear F0 F0c F1 F1c Z1 HL HO
    go_wp2_with fail
    refine (fits_yes false A5 m5 c5 0 wA (by decide) (by decide)).mono ?_
    rintro e w2 ⟨rfl, hB2⟩
    have HR2 := Lib.hid (HR.out.below hB2)
    have y0 := HR2.out.1.c0
    have y1 := HR2.out.1.c1
    have y2 := HR2.out.1.c2
    have u0 := HR2.out.2.1.c0
    have u1 := HR2.out.2.1.c1
    have u2 := HR2.out.2.1.c2
    have uf := HR2.out.2.1.fz
    obtain rfl : m5 = 0 := by
      have h2 := D.len_of_lt (M := 0) HR2.out.2.2.2.1 (by rw [HR2.out.2.2.2.2.1]; decide)
      rw [HR2.out.2.2.1.len] at h2
      omega
    have Hfin : Hid (TTold w ⟨false, 0, 0⟩ 50 (.returned (.tuple #[.agg #[.bool false, .slice none 0 0, .int .i64 0], .int .i64 0])) (World.put w2 (w.heap.size + 1) false none 0 0 0)) :=
      ⟨none, 0, 0, [], rfl, by decide, Lim.nil _ _ _, rfl, rfl, below_put HR2.out.2.2.2.2.2.2.2 (Nat.le_succ _) _ _ _ _ _⟩
    clear HR hB2 x0 x1 x2 HR2
    go_wp2
    exact bodyPost_ret (v := .tuple #[.agg #[.bool false, .slice none 0 0, .int .i64 0], .int .i64 0]) (by simp [results, Tryd.results19, go_sem, u0, u1, u2]) rfl Hfin.out

theorem rto_every (d : Dy) (g : Bool) (V : Nat) (E : Int) (A : Option Addr) (m c : Nat) (ds : List Nat) (w : World) (hA : Dig w A m c ds) (hb : D.Bare ds) (hv : D.val ds = V) (hm : m ≤ 197) (hd : Hid (mk g V E = some d)) :
    Calls Tryd.prog 19 #[.agg #[.bool g, .slice A m c, .int .i64 E]] w (TTold w d 50) := by
  have h1 := mk_is hd.out
  have h2 := (mk_fine hd.out).1
  obtain ⟨dg, dV, dE⟩ := d
  by_cases h0 : dV = 0
  · have h3 := h2.2.2 h0
    simp only at h3
    obtain ⟨rfl, rfl⟩ := h3
    subst h0
    exact rto_nil g V E A m c ds w hA hb hv hm h1
  · exact rto_far g V E dg dV dE A m c ds w hA hb hv hm h1 h0 h2.1 h2.2.1
end Go.Proofs.YtafgooiakmmfkaaDoor
/- What the law SeriesScales rests on: the contract of series.Within; an interval in its block. -/
namespace Go.Proofs.YtafgooiakmmfkaaDoor
open Go.RowKit

/-- What Within tells: both ends as dyads. -/
def WithTold (w : World) (g : Bool) (V U : Nat) (s : Int) (e : Ending) (w' : World) : Prop := ∃ g1 A1 m1 c1 zs e1 g2 A2 m2 c2 us e2, e = .returned (.agg #[.bool g1, .slice A1 m1 c1, .int .i64 e1, .bool g2, .slice A2 m2 c2, .int .i64 e2]) ∧ m1 ≤ 300 ∧ m2 ≤ 300 ∧ Lim w' A1 m1 c1 zs ∧ Lim w' A2 m2 c2 us ∧ Bare zs ∧ Bare us ∧ Below w.heap.size w w' ∧
    mk g V (-s) = some ⟨g1, val zs, e1⟩ ∧ mk g U (-s) = some ⟨g2, val us, e2⟩

/-- An interval in its block. -/
def Ib (w : World) (b : Nat) (g1 : Bool) (A1 : Option Addr) (m1 c1 : Nat) (e1 : Int) (g2 : Bool) (A2 : Option Addr) (m2 c2 : Nat) (e2 : Int) : Prop :=
  w.heap[b]? = some (.cells #[.bool g1, .slice A1 m1 c1, .int .i64 e1, .bool g2, .slice A2 m2 c2, .int .i64 e2] 38)
section
variable {w w' : World} {b : Nat} {g1 : Bool} {A1 : Option Addr} {m1 c1 : Nat} {e1 : Int} {g2 : Bool} {A2 : Option Addr} {m2 c2 : Nat} {e2 : Int}
theorem Ib.lt (h : Ib w b g1 A1 m1 c1 e1 g2 A2 m2 c2 e2) : b < w.heap.size := by
  rcases Nat.lt_or_ge b w.heap.size with h' | h'
  · exact h'
  · rw [Ib, Array.getElem?_eq_none h'] at h; cases h
theorem Ib.new (w : World) (g1 : Bool) (A1 : Option Addr) (m1 c1 : Nat) (e1 : Int) (g2 : Bool) (A2 : Option Addr) (m2 c2 : Nat) (e2 : Int) : Ib (w.alloc (.cells #[.bool g1, .slice A1 m1 c1, .int .i64 e1, .bool g2, .slice A2 m2 c2, .int .i64 e2] 38)) w.heap.size g1 A1 m1 c1 e1 g2 A2 m2 c2 e2 := by
  show (w.heap.push _)[w.heap.size]? = _
  simp
theorem Ib.below (h : Ib w b g1 A1 m1 c1 e1 g2 A2 m2 c2 e2) (hb : Below w.heap.size w w') : Ib w' b g1 A1 m1 c1 e1 g2 A2 m2 c2 e2 := by
  rw [Ib, hb.block b h.lt]; exact h
theorem Ib.x0 (h : Ib w b g1 A1 m1 c1 e1 g2 A2 m2 c2 e2) : w.cell? ⟨b, 0, none⟩ = some (.bool g1) := by simp [World.cell?, show w.heap[b]? = _ from h]
theorem Ib.x1 (h : Ib w b g1 A1 m1 c1 e1 g2 A2 m2 c2 e2) : w.cell? ⟨b, 1, none⟩ = some (.slice A1 m1 c1) := by simp [World.cell?, show w.heap[b]? = _ from h]
theorem Ib.x2 (h : Ib w b g1 A1 m1 c1 e1 g2 A2 m2 c2 e2) : w.cell? ⟨b, 2, none⟩ = some (.int .i64 e1) := by simp [World.cell?, show w.heap[b]? = _ from h]
theorem Ib.x3 (h : Ib w b g1 A1 m1 c1 e1 g2 A2 m2 c2 e2) : w.cell? ⟨b, 3, none⟩ = some (.bool g2) := by simp [World.cell?, show w.heap[b]? = _ from h]
theorem Ib.x4 (h : Ib w b g1 A1 m1 c1 e1 g2 A2 m2 c2 e2) : w.cell? ⟨b, 4, none⟩ = some (.slice A2 m2 c2) := by simp [World.cell?, show w.heap[b]? = _ from h]
theorem Ib.x5 (h : Ib w b g1 A1 m1 c1 e1 g2 A2 m2 c2 e2) : w.cell? ⟨b, 5, none⟩ = some (.int .i64 e2) := by simp [World.cell?, show w.heap[b]? = _ from h]
end

/-- What is told is short. -/
theorem at_short {X Y s lo hi : Nat} (hY : Y ≠ 0) (h3 : 3 * X ≤ Y) (h : AtB X Y s lo hi) : lo ≤ 2 ^ s := by
  obtain ⟨x, hx⟩ := frac_of (X := X) hY
  obtain ⟨x0, x1⟩ := frac_bd hY h3 hx
  obtain ⟨⟨c, h1⟩, _⟩ := h x hx
  obtain ⟨y0, y1⟩ := third x0 x1
  have b := (hh_bd y0 y1 c 0).2
  have b1 := rmul_le b x0
  have P0 := rnat_nonneg (2 ^ s)
  have a1 : atS x c ≤ 1 := by unfold atS; grind
  have := rmul_le a1 P0
  refine cast_le ?_
  grind
theorem sz_le {a b : Nat} (h : a ≤ b) (e : Int) : sz a e ≤ sz b e := Nat.mul_le_mul_right _ h
/-- In order. -/
theorem within_ord {g : Bool} {a b : Nat} {E : Int} {d1 d2 : Dy} (hab : a ≤ b) (h1 : mk g (if g then b else a) E = some d1) (h2 : mk g (if g then a else b) E = some d2) : cmpI (dw d1.neg d1.V d1.e) (dw d2.neg d2.V d2.e) ≤ 0 := by
  rw [(mk_fine h1).2.1, (mk_fine h2).2.1]
  have hs := sz_le hab E
  have : dw g (if g then b else a) E ≤ dw g (if g then a else b) E := by
    cases g
    · show ((sz a E : Nat) : Int) ≤ (sz b E : Int)
      omega
    · show -((sz b E : Nat) : Int) ≤ -(sz a E : Int)
      omega
  rcases Int.lt_or_eq_of_le this with h | h
  · rw [cmpI_lt h]; decide
  · rw [cmpI_eq h]; decide
theorem ib_below (w : World) (o1 o2 : Obj) : Below w.heap.size w ((w.alloc o1).alloc o2) := ((Below.refl _ _).alloc (Nat.le_refl _) o1).alloc (by simp) o2
/-- Two numbers laid into new blocks. -/
theorem laid_two (w : World) (t : Nat) (g : Bool) (A : Option Addr) (n c : Nat) (E : Int) (B : Option Addr) (m d : Nat) :
    Below w.heap.size w ((w.alloc (.cells #[.bool g, .slice A n c, .int .i64 E] t)).alloc (.cells #[.bool g, .slice B m d, .int .i64 E] t)) ∧
    Bd ((w.alloc (.cells #[.bool g, .slice A n c, .int .i64 E] t)).alloc (.cells #[.bool g, .slice B m d, .int .i64 E] t)) w.heap.size t g A n c E ∧
    Bd ((w.alloc (.cells #[.bool g, .slice A n c, .int .i64 E] t)).alloc (.cells #[.bool g, .slice B m d, .int .i64 E] t)) (w.heap.size + 1) t g B m d E := by
  have b1 := (Bd.new w t g A n c E).alloc (.cells #[.bool g, .slice B m d, .int .i64 E] t)
  have b2 := Bd.new (w.alloc (.cells #[.bool g, .slice A n c, .int .i64 E] t)) t g B m d E
  rw [World.size_alloc] at b2
  exact ⟨ib_below w _ _, b1, b2⟩
end Go.Proofs.YtafgooiakmmfkaaDoor
/- The walk of series.Within. -/
namespace Go.Proofs.YtafgooiakmmfkaaDoor
open Go.RowKit

/-- An interval laid into block b. -/
abbrev World.put6 (w : World) (b : Nat) (g1 : Bool) (A1 : Option Addr) (n1 c1 : Nat) (e1 : Int) (g2 : Bool) (A2 : Option Addr) (n2 c2 : Nat) (e2 : Int) : World :=
  (((((w.setCell ⟨b, 0, none⟩ (.bool g1)).setCell ⟨b, 1, none⟩ (.slice A1 n1 c1)).setCell ⟨b, 2, none⟩ (.int .i64 e1)).setCell ⟨b, 3, none⟩ (.bool g2)).setCell ⟨b, 4, none⟩ (.slice A2 n2 c2)).setCell ⟨b, 5, none⟩ (.int .i64 e2)
theorem put6_heap (w : World) (b : Nat) (g1 : Bool) (A1 : Option Addr) (n1 c1 : Nat) (e1 : Int) (g2 : Bool) (A2 : Option Addr) (n2 c2 : Nat) (e2 : Int) (k : Nat) (hk : k ≠ b) : (World.put6 w b g1 A1 n1 c1 e1 g2 A2 n2 c2 e2).heap[k]? = w.heap[k]? := by
  unfold World.put6
  rw [Below.heap_setCell _ _ _ _ hk, Below.heap_setCell _ _ _ _ hk, Below.heap_setCell _ _ _ _ hk, Below.heap_setCell _ _ _ _ hk, Below.heap_setCell _ _ _ _ hk, Below.heap_setCell _ _ _ _ hk]
theorem put6_size (w : World) (b : Nat) (g1 : Bool) (A1 : Option Addr) (n1 c1 : Nat) (e1 : Int) (g2 : Bool) (A2 : Option Addr) (n2 c2 : Nat) (e2 : Int) : (World.put6 w b g1 A1 n1 c1 e1 g2 A2 n2 c2 e2).heap.size = w.heap.size := by
  simp [World.put6, World.setCell]
theorem put6_cell (w : World) (b : Nat) (g1 : Bool) (A1 : Option Addr) (n1 c1 : Nat) (e1 : Int) (g2 : Bool) (A2 : Option Addr) (n2 c2 : Nat) (e2 : Int) (p : Addr) (hp : p.block ≠ b) : (World.put6 w b g1 A1 n1 c1 e1 g2 A2 n2 c2 e2).cell? p = w.cell? p :=
  World.cell?_of_block (w := w) (put6_heap w b g1 A1 n1 c1 e1 g2 A2 n2 c2 e2 p.block hp)
theorem below_put6 {B : Nat} {a w : World} (h : Below B a w) {b : Nat} (hb : B ≤ b) (g1 : Bool) (A1 : Option Addr) (n1 c1 : Nat) (e1 : Int) (g2 : Bool) (A2 : Option Addr) (n2 c2 : Nat) (e2 : Int) : Below B a (World.put6 w b g1 A1 n1 c1 e1 g2 A2 n2 c2 e2) :=
  (((((h.setCell (p := ⟨b, 0, none⟩) hb _).setCell (p := ⟨b, 1, none⟩) hb _).setCell (p := ⟨b, 2, none⟩) hb _).setCell (p := ⟨b, 3, none⟩) hb _).setCell (p := ⟨b, 4, none⟩) hb _).setCell (p := ⟨b, 5, none⟩) hb _
section
variable {w : World} {b : Nat} {g1 : Bool} {A1 : Option Addr} {n1 c1 : Nat} {e1 : Int} {g2 : Bool} {A2 : Option Addr} {n2 c2 : Nat} {e2 : Int}
theorem Ib.fz (h : Ib w b g1 A1 n1 c1 e1 g2 A2 n2 c2 e2) (o : Nat) : w.frozen? ⟨b, o, none⟩ = false := by simp [World.frozen?, show w.heap[b]? = _ from h]
theorem Ib.not (h : Ib w b g1 A1 n1 c1 e1 g2 A2 n2 c2 e2) {o : Nat} {k : IntKind} {z : Int} (hc : w.cell? ⟨b, o, none⟩ = some (.int k z)) : k = .i64 := by
  simp only [World.cell?, show w.heap[b]? = _ from h] at hc
  rcases o with _ | _ | _ | _ | _ | _ | o
  · simp at hc
  · simp at hc
  · simp at hc; exact hc.1.symm
  · simp at hc
  · simp at hc
  · simp at hc; exact hc.1.symm
  · simp at hc
theorem Ib.put (h : Ib w b g1 A1 n1 c1 e1 g2 A2 n2 c2 e2) (g1' : Bool) (A1' : Option Addr) (n1' c1' : Nat) (e1' : Int) (g2' : Bool) (A2' : Option Addr) (n2' c2' : Nat) (e2' : Int) : Ib (World.put6 w b g1' A1' n1' c1' e1' g2' A2' n2' c2' e2') b g1' A1' n1' c1' e1' g2' A2' n2' c2' e2' := by
  unfold Ib at h ⊢
  unfold World.put6
  simp [World.setCell, Array.getElem?_modify, h]
/-- A list isn't in such a block. -/
theorem Ib.lim (h : Ib w b g1 A1 n1 c1 e1 g2 A2 n2 c2 e2) {A : Option Addr} {n c : Nat} {xs : List Nat} (hA : Lim w A n c xs) (g1' : Bool) (A1' : Option Addr) (n1' c1' : Nat) (e1' : Int) (g2' : Bool) (A2' : Option Addr) (n2' c2' : Nat) (e2' : Int) : Lim (World.put6 w b g1' A1' n1' c1' e1' g2' A2' n2' c2' e2') A n c xs :=
  ⟨hA.1, hA.2.1, hA.2.2.1, fun hn => by
    obtain ⟨k, o, ek, hk, hc⟩ := hA.at_ hn
    have hne : k ≠ b := by
      rintro rfl
      have := h.not (hc 0 hn)
      cases this
    exact ⟨k, o, ek, by rw [put6_size]; exact hk, fun j hj => by rw [put6_cell _ _ _ _ _ _ _ _ _ _ _ _ _ hne]; exact hc j hj⟩⟩
/-- Another block is a dyad's. -/
theorem Ib.other (h : Ib w b g1 A1 n1 c1 e1 g2 A2 n2 c2 e2) {b' : Nat} (hb : b ≠ b') (g' : Bool) (A' : Option Addr) (n' c' : Nat) (e' : Int) : Ib (World.put w b' g' A' n' c' e') b g1 A1 n1 c1 e1 g2 A2 n2 c2 e2 := by
  unfold Ib; rw [put_heap _ _ _ _ _ _ _ _ hb]; exact h
end

/-- So short a number, so near to 0, is a dyad. -/
theorem mk_near {g : Bool} {V : Nat} {e : Int} (h : blen V ≤ 20000) (h1 : -9000 ≤ e) (h2 : e ≤ 0) : ∃ d, mk g V e = some d := by
  unfold mk toldD
  rw [held_id (by omega) (by omega)]
  have := low_le_blen V
  split
  · exact ⟨_, rfl⟩
  · rw [if_neg (by omega)]
    exact ⟨_, rfl⟩

/-- The result's block, both dyads in blocks of their own, their lists. -/
def HoldB2 (w : World) (p1 : Nat) (g1 : Bool) (A1 : Option Addr) (m1 c1 : Nat) (zs : List Nat) (E1 : Int) (p2 : Nat) (g2 : Bool) (A2 : Option Addr) (m2 c2 : Nat) (us : List Nat) (E2 : Int) (u : World) : Prop :=
  Ib u w.heap.size false none 0 0 0 false none 0 0 0 ∧ Bd u p1 36 g1 A1 m1 c1 E1 ∧ Bd u p2 36 g2 A2 m2 c2 E2 ∧ Lim u A1 m1 c1 zs ∧ Lim u A2 m2 c2 us ∧ Tab u ∧ Below w.heap.size w u ∧ w.heap.size < p1 ∧ p1 < p2
section
variable {w : World} {p1 : Nat} {g1 : Bool} {A1 : Option Addr} {m1 c1 : Nat} {zs : List Nat} {E1 : Int} {p2 : Nat} {g2 : Bool} {A2 : Option Addr} {m2 c2 : Nat} {us : List Nat} {E2 : Int} {u u' : World}
theorem HoldB2.below (h : HoldB2 w p1 g1 A1 m1 c1 zs E1 p2 g2 A2 m2 c2 us E2 u) (hb : Below u.heap.size u u') : HoldB2 w p1 g1 A1 m1 c1 zs E1 p2 g2 A2 m2 c2 us E2 u' :=
  ⟨h.1.below hb, h.2.1.below hb, h.2.2.1.below hb, h.2.2.2.1.below hb, h.2.2.2.2.1.below hb, h.2.2.2.2.2.1.below hb, h.2.2.2.2.2.2.1.trans (hb.mono h.2.2.2.2.2.2.1.size), h.2.2.2.2.2.2.2⟩
theorem HoldB2.swap (h : HoldB2 w p1 g1 A1 m1 c1 zs E1 p2 g2 A2 m2 c2 us E2 u) : HoldB2 w p1 g2 A2 m2 c2 us E2 p2 g1 A1 m1 c1 zs E1 (World.put (World.put u p1 g2 A2 m2 c2 E2) p2 g1 A1 m1 c1 E1) := by
  obtain ⟨k1, k2, k3, k4, k5, k6, k7, k8, k9⟩ := h
  have j3 := k3.other (Nat.ne_of_gt k9) g2 A2 m2 c2 E2
  refine ⟨(k1.other (Nat.ne_of_lt k8) _ _ _ _ _).other (by omega) _ _ _ _ _, (k2.put _ _ _ _ _).other (Nat.ne_of_lt k9) _ _ _ _ _, j3.put _ _ _ _ _, j3.lim (k2.lim k5 _ _ _ _ _) _ _ _ _ _, j3.lim (k2.lim k4 _ _ _ _ _) _ _ _ _ _, j3.tab (k2.tab k6 _ _ _ _ _) _ _ _ _ _, ?_, k8, k9⟩
  exact below_put (below_put k7 (by omega) _ _ _ _ _) (by omega) _ _ _ _ _
end

/-- What Within tells, as it is handed back. -/
theorem with_out {w u : World} {p1 : Nat} {g1 : Bool} {A1 : Option Addr} {m1 c1 : Nat} {zs : List Nat} {E1 : Int} {p2 : Nat} {g2 : Bool} {A2 : Option Addr} {m2 c2 : Nat} {us : List Nat} {E2 : Int} {g : Bool} {V U : Nat} {s : Int}
    (h : HoldB2 w p1 g1 A1 m1 c1 zs E1 p2 g2 A2 m2 c2 us E2 u) (hm1 : m1 ≤ 300) (hm2 : m2 ≤ 300) (hb1 : Bare zs) (hb2 : Bare us) (h1 : mk g V (-s) = some ⟨g1, val zs, E1⟩) (h2 : mk g U (-s) = some ⟨g2, val us, E2⟩) :
    WithTold w g V U s (.returned (.agg #[.bool g1, .slice A1 m1 c1, .int .i64 E1, .bool g2, .slice A2 m2 c2, .int .i64 E2])) (World.put6 u w.heap.size g1 A1 m1 c1 E1 g2 A2 m2 c2 E2) :=
  ⟨g1, A1, m1, c1, zs, E1, g2, A2, m2, c2, us, E2, rfl, hm1, hm2, h.1.lim h.2.2.2.1 _ _ _ _ _ _ _ _ _ _, h.1.lim h.2.2.2.2.1 _ _ _ _ _ _ _ _ _ _, hb1, hb2, below_put6 h.2.2.2.2.2.2.1 (Nat.le_refl _) _ _ _ _ _ _ _ _ _ _, h1, h2⟩

/-- Both dyads in order, as the laws want them. -/
def SortedB (w : World) (p1 p2 : Nat) (g : Bool) (V U : Nat) (s : Int) (u : World) : Prop :=
  ∃ g1 A1 m1 c1 zs E1 g2 A2 m2 c2 us E2, HoldB2 w p1 g1 A1 m1 c1 zs E1 p2 g2 A2 m2 c2 us E2 u ∧ m1 ≤ 300 ∧ m2 ≤ 300 ∧ Bare zs ∧ Bare us ∧ mk g V (-s) = some ⟨g1, val zs, E1⟩ ∧ mk g U (-s) = some ⟨g2, val us, E2⟩

/-- Of two in order, both below 0, and told to be in order: they are one. -/
theorem with_same {X Y : Nat} {e : Int} {d1 d2 : Dy} (h1 : mk true X e = some d1) (h2 : mk true Y e = some d2) (hXY : X ≤ Y) (h : cmpI (dw d1.neg d1.V d1.e) (dw d2.neg d2.V d2.e) ≤ 0) : X = Y := by
  rw [(mk_fine h1).2.1, (mk_fine h2).2.1] at h
  rcases Nat.lt_or_eq_of_le hXY with hlt | he
  · exfalso
    have h3 : sz X e < sz Y e := Nat.mul_lt_mul_of_pos_right hlt (Nat.two_pow_pos _)
    have h4 : dw true Y e < dw true X e := by
      show -(sz Y e : Int) < -(sz X e : Int)
      omega
    rw [cmpI_gt h4] at h
    exact absurd h (by decide)
  · exact he


end Go.Proofs.YtafgooiakmmfkaaDoor
